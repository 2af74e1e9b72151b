import PyProof.Rows.All
import Wide.All
import OpenK.AllK
import Wide.FinOn
import HandS.ForMost
import HandS.Deep
import HandS.ListEq
import HandS.Wide
import HandS.EndBits
import KE.SortData
import HandS.More
import HandS.Iter
import HandS.Style
import PySem.Challenge.RW_packedseats_k12_bounds_met_and_missed
set_option Elab.async false
set_option linter.all false
set_option maxRecDepth 100000
set_option maxHeartbeats 4000000
namespace GL
open PySem PySem.Spec PyProof.Rows L2
/-- a promise kept wherever no repr is under way -/
structure FnG (P : Program) (w : World) (K : PySem.W.Frag) (mg : Str → Option Value) (base : Heap)
    (k : Nat) (f : Addr) (fd : FuncData) (ps : List Str) (sp : Sp) : Prop where
  ln : ∀ vs H Q E, sp vs H Q E → vs.length = ps.length
  go : ∀ (A : Around) (outer : List Env) (s : Shared) (H : Hp) (args : Args) (us : List Value)
    (vs : List V) (Q : VK) (E : XK), A.guards = some [] → Room k A →
    Env0 P w K mg base A outer s H → BindsTo s fd args (ps.zip us) → Vals vs us →
    sp vs H Q E → codeAny (model P w) A (.call (.ref f) args) (CR CX0 outer P w H s Q E) s
variable {X : Cx} {k : Nat} {f : Addr} {fd : FuncData} {ps : List Str} {sp : Sp}
theorem FnG.mono {P : Program} {w : World} {K : PySem.W.Frag} {mg : Str → Option Value} {base : Heap}
    {j : Nat} (G : FnG P w K mg base j f fd ps sp) (h : j ≤ k) : FnG P w K mg base k f fd ps sp :=
  ⟨G.ln, fun A o s H a us vs Q E hg hr => G.go A o s H a us vs Q E hg (hr.mono h)⟩
theorem FnG.of {P : Program} {w : World} {K : PySem.W.Frag} {mg : Str → Option Value} {base : Heap}
    (G : FnOk P w K mg base CX0 k f fd ps sp) : FnG P w K mg base k f fd ps sp :=
  ⟨G.len, fun A o s H a us vs Q E _ hr => G.run A o s H a us vs Q E hr⟩
theorem runG {pins : List (Addr × Obj)} {σ : L2.St} {H : Hp} {s : Shared} {Q : VK} {us : List Value} {vs : List V} {E : XK}
    (G : FnG X.prog X.w X.K X.mg X.base k f fd ps sp) (hg : X.A.guards = some []) (hr : Room k X.A)
    (hb : Binds X.K fd ps []) (hx : Passes CX0 X E) (I : Inv X pins σ H s) (r : Vals vs us) (h : sp vs H Q E) :
    wpAny (model X.prog X.w) X.A (call (.ref f) us) (EP X pins σ Q) X.xe s := by
  have hl : (us ++ []).length = ps.length := by
    rw [List.append_nil, ← r.length]; exact G.ln _ _ _ _ h
  have hbb := hb s us I.kIn hl
  rw [List.append_nil] at hbb
  refine wpAny_call (codeAny_mono (G.go X.A X.stack s H ⟨us, []⟩ us vs Q E hg hr I.env0 hbb r h) fun z s' hq => ?_)
  cases z with
  | error e => exact hx pins σ H s e s' I hq
  | ok fl => cases fl with
    | ret u => exact I.after hq
    | next => exact hq.elim
    | brk => exact hq.elim
    | cont => exact hq.elim
theorem pe_callG {x : Str} {p pos : Pos} {e : Expr} {es : List Expr} {t : TA} {E : XK}
    (G : FnG X.prog X.w X.K X.mg X.base k f fd ps sp) (hg : X.A.guards = some []) (hr : Room k X.A)
    (hgl : Gl X x) (hm : X.mg x = some (.ref f)) (hk : PySem.W.keepIn X.K (.ref f) = true)
    (hb : Binds X.K fd ps []) (hx : Passes CX0 X E) (ha : PA X (e :: es) t)
    (hdb : (x == ("__debug__" : Str)) = false := by decide)
    (he : starEach (e :: es) X.env = (false, eval e X.env) :: starEach es X.env := by rfl)
    (hpl : (backTo pos (starEach es X.env)).any (·.1) = false := by rfl) :
    PE X (.Call (.Name x p) (e :: es) [] pos) (tCall sp [] E t) := by
  refine ⟨fun pins s σ H Q I h => wpAny_Call_Name_kw (ld_glob I hgl hm ?_ hdb)⟩
  refine PySem.W.callWith_K (h₀ := X.base) I.ok.mod.kin hk
    (thn (ha.run pos pins s σ H _ I h) fun us s1 ⟨vs, H1, I1, r, q⟩ => ⟨I1.kIn, ?_⟩) he hpl
  have q' : sp (vs ++ []) H1 Q E := q
  rw [List.append_nil] at q'
  exact runG G hg hr hb hx I1 r q'
/-- the rule for a def, its guards told -/
theorem okG {P : Program} {w : World} {K : PySem.W.Frag} {mg : Str → Option Value} {base : Heap} {x qual : Str} {st : Stmt} {N : List Str}
    (F : Fun K x qual st f fd) (S : FnScope N ps (defScope st)) (len : ∀ vs H Q E, sp vs H Q E → vs.length = ps.length)
    (hbody : ∀ (cdv : Value) (A : Around) (outer : List Env) (s : Shared) (H : Hp) (vs : List V) (Q : VK) (E : XK),
      A.guards = some [] → Room k (A.deeper (envOfC qual (defScope st) s.heap.objs.size f cdv)) → sp vs H Q E →
      ∃ t, PSs (cxOf CX0 P w K mg base N qual (defScope st) f cdv A outer s H E).nox (defBody st) t ∧
        t { nx := fun _ H' => Q .non H', rt := Q } (start N vs) H) : FnG P w K mg base (k + 1) f fd ps sp := by
  obtain ⟨oc, od, kV, doc, pm, an, cdv, ct, osl, rfl, lk, hcd⟩ := F.ex
  refine ⟨len, fun A outer s H args us vs Q E hgd hr e0 hb r hsp => ?_⟩
  have hl := len _ _ _ _ hsp
  have kin : K.In s.heap := e0.mod.kin.keeps fun b o z => (e0.bs b o z).1
  have nol : s.heap.NoLimit := e0.mod.nolimit.keeps fun b o z => (e0.bs b o z).1
  have hkd : ∀ y ∈ ps.zip us, (defScope st).names.lookup y.1 = some .local ∨
      ((defScope st).names.lookup y.1 = some .cell ∧
        ((cellsFrom (s.heap.objs.size + 1) (defScope st).names []).lookup y.1).isSome = true) := by
    rintro ⟨n, v⟩ hy
    rcases S.par n (List.of_mem_zip hy).1 with q | q
    · exact .inl q
    · exact .inr ⟨q, PySem.W.cellsFrom_some _ _ _ (.inl q)⟩
  refine codeAny_call_function hr.depth (kin _ _ lk) rfl S.co S.gen rfl (PySem.W.codeRec_of kin hcd) (hb _ _ _ _ ?_)
  refine wpAny_newFunctionEnv_cells S.kind hkd fun env he s1 x1 => ?_
  subst he
  refine ⟨nol.keeps x1.toInCall.keep, codeAny_func ?_⟩
  obtain ⟨t, ht0, hq⟩ := hbody cdv A outer s H vs Q E hgd (hr.deeper _) hsp
  have ht := ht0.nox
  have J : L2.Inv (cxOf CX0 P w K mg base N qual (defScope st) f cdv A outer s H E) [] (start N vs) H s1 :=
    inv_start S hr.hd e0 hl r x1
  refine wpAny_mono (ht.run [] s1 (start N vs) H _ J hq) (fun fl s' hs => ?_) fun e s' hs => hs
  cases fl with
  | ret u =>
    obtain ⟨v, σ', H', J2, rv, q⟩ := hs
    exact ⟨v, H', J2.os, J2.bare, J2.base, J2.hok, rv, q⟩
  | next =>
    obtain ⟨σ', H', J2, q⟩ := hs
    exact ⟨V.non, H', J2.os, J2.bare, J2.base, J2.hok, rfl, q⟩
  | brk =>
    obtain ⟨_, _, _, q⟩ := hs
    exact q.elim
  | cont =>
    obtain ⟨_, _, _, q⟩ := hs
    exact q.elim
end GL

namespace GL
open PySem PySem.Spec PySem.Calls PyProof.Rows L2
/-- the law's own call, from a heap in which only the script is tracked -/
theorem enterG {P : Program} {w : World} {K : PySem.W.Frag} {mg mb : Str → Option Value} {k : Nat} {fa a : Addr} {fd : FuncData} {x : Str} {sp : Sp}
    {s₁ : Shared} {vs : List Value} (KX : K.In s₁.heap) (hns : s₁.heap.Ns mainGlobals mg) (hb : s₁.heap.Ns builtinsNs mb)
    (hbb : ∀ x : Str, x ≠ "__name__" → mb x = bootBuiltins x) (hlim : s₁.heap.NoLimit) (hg : s₁.gens = #[])
    (ha : s₁.heap.get? a = some { cls := .type "list", data := .seq vs.toArray }) (hr : Room k callerA)
    (F : ∀ base : Heap, K.In base → base.Ns mainGlobals mg → FnG P w K mg base k fa fd [x] sp)
    (hbind : ∀ (s : Shared) (u : Value), BindsTo s fd ⟨[u], []⟩ [(x, u)])
    (H : Hp) (hO : Only H) (hsp : sp [.ref a] H (fun v _ => v = .bl true) fun _ _ _ => False)
    (ok : HOk P w H s₁.heap) (hA : ∀ b, H b ≠ none → b = a) (hK : H a ≠ none → K.lookup a = none) :
    codeAny (model P w) callerA (.call (.ref fa) ⟨[.ref a], []⟩)
      (fun r s' => r = .ok (.ret (.bool true)) ∧ OldK s₁.heap s'.heap ∧ s'.os = s₁.os ∧ AllBare s'.gens) s₁ := by
  have some_a : ∀ {b : Addr} {u : HO}, H b = some u → b = a := fun {b u} e => hA b (by rw [e]; exact fun z => nomatch z)
  have keepN : ∀ {b : Addr} {m : Str → Option Value}, s₁.heap.Ns b m → (hidT s₁.heap H).Ns b m := by
    rintro b m ⟨o, es, ep, e, d, r⟩
    refine ⟨o, es, ep, hidT_get e ?_, d, r⟩
    cases q : H b with
    | none => rfl
    | some u =>
      have e1 := some_a q
      subst e1
      rw [ha] at e
      cases e
      exact absurd (show Data.seq vs.toArray _ = Data.dict es ep from d) (fun z => nomatch z)
  have kin : K.In (hidT s₁.heap H) := by
    intro b o e
    refine hidT_get (KX b o e) ?_
    cases q : H b with
    | none => rfl
    | some u =>
      have e1 := some_a q
      subst e1
      have e2 := hK (by rw [q]; exact fun z => nomatch z)
      rw [e] at e2
      cases e2
  obtain ⟨mc, c1, c2⟩ := hlim
  have hM : Mod K mg (hidT s₁.heap H) := ⟨kin, keepN hns, ⟨mb, keepN hb, hbb⟩, ⟨mc, keepN c1, c2⟩⟩
  have start0 : Env0 P w K mg (hidT s₁.heap H) callerA [] s₁ H :=
    ⟨rfl, hM, fun b o e => of_hidT e, Nat.le_of_eq (hidT_size _ _), trivial,
      fun b hb => absurd (show b ∈ ([] : List Addr) from hb) (by simp), ok, .of_eq hg⟩
  have run := (F _ kin (keepN hns)).go callerA [] s₁ H ⟨[.ref a], []⟩ [.ref a] [.ref a] _ _ rfl hr start0
    (hbind s₁ (.ref a)) (.cons rfl .nil) hsp
  refine codeAny_mono run fun r s' h => ?_
  cases r with
  | error e => exact False.elim h
  | ok fl => cases fl with
    | next => exact False.elim h
    | brk => exact False.elim h
    | cont => exact False.elim h
    | ret u =>
      obtain ⟨v, H', os, bare, un, hok', r', q⟩ := h
      cases (show v = .bl true from q)
      cases (show u = Value.bool true from r')
      refine ⟨rfl, OldK.of_keep fun b o e => ?_, os, bare⟩
      cases q : H b with
      | none => exact un.keep b o e q (fun z => nomatch (show b ∈ ([] : List Addr) from z)) (by simp)
      | some u =>
        rcases hO b with z | ⟨ob, xs, z⟩
        · rw [q] at z
          cases z
        · obtain ⟨e1, _⟩ := ok b _ z
          obtain ⟨e2, _⟩ := hok' b _ (un.frzs b ob _ z)
          rw [e] at e1
          cases e1
          exact e2
theorem walkG {l : PySem.W.OpenLaw} {n k : Nat} {q : Program} {loose : List Str} {XP : (Str → Option Value) → Heap → Prop}
    {YP : World → Heap → Prop} {d : DefRec} {K : Params → PySem.W.Frag} {sp : World → Sp} {x : Str}
    (hn : l.most = some n) (hn2 : n ≤ sizeLine) (hdf : d.params.defaults = []) (hr : Room k callerA)
    (hY : ∀ (w : World) (h : Heap), YP w h → (K w.params).In h)
    (F : ∀ (w : World) (mg : Str → Option Value) (fa : Addr) (h : Heap), (K w.params).In h → h.Ns mainGlobals mg → mg d.name = some (.ref fa) →
      ∃ fd : FuncData, (∀ (s : Shared) (u : Value), BindsTo s fd ⟨[u], []⟩ [(x, u)]) ∧
        ∀ base : Heap, (K w.params).In base → base.Ns mainGlobals mg → FnG l.prog w (K w.params) mg base k fa fd [x] (sp w))
    (hsp : ∀ (w : World) (H : Hp) (a : Addr) (ns : List Int), ns.length ≤ n → (∀ z ∈ ns, Builtin.Int.intBits z ≤ 1048576) → Only H →
      SqL (K w.params) H a (ns.map V.int) → sp w [.ref a] H (fun v _ => v = .bl true) fun _ _ _ => False) :
    PySem.W.WalkO q loose XP YP l.row.toRowW d [] (fun f vs => PySem.call f vs) := by
  refine Att.attach_callB hn hdf fun w s₀ s₁ mg mb fa o pm cd doc a vs ns G Y ho hd hcd hmg hobj hints hlen hbits hg => ?_
  have KX := hY w _ Y
  obtain ⟨fd, hb, hF⟩ := F w mg fa _ KX G.T.g hmg
  have rv := vals_ints hints
  have lenV := hints.length
  have hl2 : ns.length ≤ sizeLine := Nat.le_trans hlen hn2
  cases hk : (K w.params).lookup a with
  | some o2 =>
    have e := KX a o2 hk
    rw [hobj] at e
    cases e
    have hS : SqL (K w.params) (fun _ => none) a (ns.map V.int) :=
      .inr ⟨_, vs.toArray, _, hk, rfl, rfl, rfl, by rw [List.size_toArray, lenV]; exact hl2, by simpa using rv⟩
    exact enterG KX G.T.g G.T.b G.T.builtins G.T.nolimit hg hobj hr hF hb (fun _ => none) (fun _ => .inl rfl)
      (hsp w _ a ns hlen hbits (fun _ => .inl rfl) hS) (fun b u z => nomatch (show (none : Option HO) = some u from z))
      (fun b z => absurd rfl z) (fun z => absurd rfl z)
  | none =>
    let H : Hp := fun b => if b = a then some (.frz { cls := .type "list", data := .seq vs.toArray } (.lst (ns.map V.int))) else none
    have hO : Only H := fun b => by
      by_cases hb : b = a
      · exact .inr ⟨_, _, if_pos hb⟩
      · exact .inl (if_neg hb)
    have hS : SqL (K w.params) H a (ns.map V.int) := .inl (.inr ⟨{ cls := .type "list", data := .seq vs.toArray }, if_pos rfl⟩)
    refine enterG KX G.T.g G.T.b G.T.builtins G.T.nolimit hg hobj hr hF hb H hO (hsp w H a ns hlen hbits hO hS) (fun b u z => ?_) (fun b z => ?_) fun _ => hk
    · by_cases hb : b = a
      · have z' := (if_pos hb).symm.trans z
        cases z'
        subst hb
        exact ⟨hobj, by rw [List.length_map]; exact hl2, vs, _, rv, hobj⟩
      · have z' := (if_neg hb).symm.trans z
        cases z'
    · by_cases hb : b = a
      · exact hb
      · exact absurd (if_neg hb) z
end GL

namespace DL
open PySem PySem.Spec PyProof.Rows L2
/-! data without addresses -/
inductive D where
  | non | bl (b : Bool) | int (i : Int) | str (x : Str) | lst (ds : List D) | tup (ds : List D)
  | obj (C : Addr) (ns : List Str) (ds : List D) | bag | fn (a : Addr)
/-- where the bag and its cells stand, if there is one -/
abbrev Bg := Option (Addr × Addr)
def Ex (F G : Hp) : Prop := ∀ a o, F a = some o → G a = some o
theorem Ex.refl (F : Hp) : Ex F F := fun _ _ h => h
theorem Ex.trans {F G J : Hp} (x : Ex F G) (y : Ex G J) : Ex F J := fun a o h => y a o (x a o h)
theorem Ex.new {F : Hp} {p : Addr} {o : HO} (h : F p = none) : Ex F (upd F p o) := fun a u e => by
  rw [upd_ne (ne_of_none e h)]; exact e
section
variable (K : PySem.W.Frag) (b : Bg) (F : Hp)
mutual
inductive Dv : V → D → Prop
  | non : Dv .non .non
  | bl (c : Bool) : Dv (.bl c) (.bl c)
  | int (i : Int) : Dv (.int i) (.int i)
  | str (x : Str) : Dv (.str x) (.str x)
  | lst {a : Addr} {xs : List V} {ds : List D} : F a = some (.lst xs) → DvA xs ds → Dv (.ref a) (.lst ds)
  | tup {a : Addr} {xs : List V} {ds : List D} : SqT K F a xs → DvA xs ds → Dv (.ref a) (.tup ds)
  | obj {a C dx : Addr} {fs : List (Str × V)} {ds : List D} : F a = some (.ins C dx fs) → DvA (fs.map (·.2)) ds → Dv (.ref a) (.obj C (fs.map (·.1)) ds)
  | bag {a c : Addr} : b = some (a, c) → Dv (.ref a) .bag
  | fn (a : Addr) : Dv (.ref a) (.fn a)
inductive DvA : List V → List D → Prop
  | nil : DvA [] []
  | cons {v : V} {vs : List V} {d : D} {ds : List D} : Dv v d → DvA vs ds → DvA (v :: vs) (d :: ds)
end
end
section
variable {K : PySem.W.Frag} {b : Bg} {F G : Hp}
theorem exL {a : Addr} {xs : List V} (e : Ex F G) (h : SqL K F a xs) : SqL K G a xs := by
  rcases h with (h | ⟨o, h⟩) | h
  · exact .inl (.inl (e _ _ h))
  · exact .inl (.inr ⟨o, e _ _ h⟩)
  · exact .inr h
theorem exT {a : Addr} {xs : List V} (e : Ex F G) (h : SqT K F a xs) : SqT K G a xs := by
  rcases h with (h | ⟨o, h⟩) | h
  · exact .inl (.inl (e _ _ h))
  · exact .inl (.inr ⟨o, e _ _ h⟩)
  · exact .inr h
mutual
theorem Dv.up (e : Ex F G) : ∀ (d : D) (v : V), Dv K b F v d → Dv K b G v d
  | .non, _, h => by cases h; exact .non
  | .bl _, _, h => by cases h; exact .bl _
  | .int _, _, h => by cases h; exact .int _
  | .str _, _, h => by cases h; exact .str _
  | .lst ds, _, h => by cases h with | lst s a => exact .lst (e _ _ s) (DvA.up e ds _ a)
  | .tup ds, _, h => by cases h with | tup s a => exact .tup (exT e s) (DvA.up e ds _ a)
  | .obj _ _ ds, _, h => by cases h with | obj s a => exact .obj (e _ _ s) (DvA.up e ds _ a)
  | .bag, _, h => by cases h with | bag s => exact .bag s
  | .fn _, _, h => by cases h; exact .fn _
theorem DvA.up (e : Ex F G) : ∀ (ds : List D) (vs : List V), DvA K b F vs ds → DvA K b G vs ds
  | [], _, h => by cases h; exact .nil
  | d :: ds, _, h => by cases h with | cons x y => exact .cons (Dv.up e d _ x) (DvA.up e ds _ y)
end
theorem DvA.len : ∀ {vs : List V} {ds : List D}, DvA K b F vs ds → vs.length = ds.length
  | [], _, h => by cases h; rfl
  | _ :: vs, _, h => by cases h with | cons _ y => rw [List.length_cons, List.length_cons, DvA.len y]
theorem DvA.get : ∀ {vs : List V} {ds : List D} {i : Nat} {d : D}, DvA K b F vs ds → ds[i]? = some d → ∃ v, vs[i]? = some v ∧ Dv K b F v d
  | _, [], _, _, _, e => by simp at e
  | _, d :: ds, 0, _, h, e => by cases h with | cons x _ => (simp at e; subst e; exact ⟨_, rfl, x⟩)
  | _, d :: ds, i + 1, _, h, e => by
    cases h with
    | cons _ y =>
      obtain ⟨v, h1, h2⟩ := DvA.get (i := i) y (by simpa using e)
      exact ⟨v, by simpa using h1, h2⟩
theorem DvA.getV : ∀ {vs : List V} {ds : List D} {i : Nat} {v : V}, DvA K b F vs ds → vs[i]? = some v → ∃ d, ds[i]? = some d ∧ Dv K b F v d
  | [], _, _, _, _, e => by simp at e
  | _ :: _, _, 0, _, h, e => by cases h with | cons x _ => (simp at e; subst e; exact ⟨_, rfl, x⟩)
  | _ :: _, _, i + 1, _, h, e => by
    cases h with
    | cons _ y =>
      obtain ⟨d, h1, h2⟩ := DvA.getV (i := i) y (by simpa using e)
      exact ⟨d, by simpa using h1, h2⟩
theorem DvA.app : ∀ {vs us : List V} {ds es : List D}, DvA K b F vs ds → DvA K b F us es → DvA K b F (vs ++ us) (ds ++ es)
  | [], _, _, _, h, h2 => by cases h; exact h2
  | _ :: _, _, _, _, h, h2 => by cases h with | cons x y => exact .cons x (DvA.app y h2)
theorem DvA.take (n : Nat) : ∀ {vs : List V} {ds : List D}, DvA K b F vs ds → DvA K b F (vs.take n) (ds.take n)
  := fun {vs} => by
    induction n generalizing vs with
    | zero => intro ds h; exact .nil
    | succ n ih => intro ds h; cases h with
      | nil => exact .nil
      | cons x y => exact .cons x (ih y)
theorem DvA.drop (n : Nat) : ∀ {vs : List V} {ds : List D}, DvA K b F vs ds → DvA K b F (vs.drop n) (ds.drop n)
  := fun {vs} => by
    induction n generalizing vs with
    | zero => intro ds h; exact h
    | succ n ih => intro ds h; cases h with
      | nil => exact .nil
      | cons x y => exact ih y
theorem DvA.set {v : V} {d : D} (hd : Dv K b F v d) : ∀ {vs : List V} {ds : List D} (n : Nat), DvA K b F vs ds → DvA K b F (vs.set n v) (ds.set n d)
  | [], _, _, h => by cases h; exact .nil
  | _ :: _, _, 0, h => by cases h with | cons _ y => exact .cons hd y
  | _ :: _, _, n + 1, h => by cases h with | cons x y => exact .cons x (DvA.set hd n y)
theorem DvA.one {v : V} {d : D} (h : Dv K b F v d) : DvA K b F [v] [d] := .cons h .nil
theorem DvA.rev : ∀ {vs : List V} {ds : List D}, DvA K b F vs ds → DvA K b F vs.reverse ds.reverse
  | [], _, h => by cases h; exact .nil
  | _ :: _, _, h => by
    cases h with
    | cons x y => rw [List.reverse_cons, List.reverse_cons]; exact (DvA.rev y).app (.one x)
theorem DvA.ints : ∀ {vs : List V} {ns : List Int}, DvA K b F vs (ns.map D.int) → vs = ns.map V.int
  | _, [], h => by cases h; rfl
  | _, n :: ns, h => by cases h with | cons x y => (cases x; rw [DvA.ints y]; rfl)
theorem DvA.bls : ∀ {vs : List V} {ns : List Bool}, DvA K b F vs (ns.map D.bl) → vs = ns.map V.bl
  | _, [], h => by cases h; rfl
  | _, n :: ns, h => by cases h with | cons x y => (cases x; rw [DvA.bls y]; rfl)
theorem DvA.strs : ∀ {vs : List V} {ns : List Str}, DvA K b F vs (ns.map D.str) → vs = ns.map V.str
  | _, [], h => by cases h; rfl
  | _, n :: ns, h => by cases h with | cons x y => (cases x; rw [DvA.strs y]; rfl)
theorem DvA.of_ints : ∀ (ns : List Int), DvA K b F (ns.map V.int) (ns.map D.int)
  | [] => .nil
  | n :: ns => .cons (.int n) (DvA.of_ints ns)
end
/-! the bag -/
structure BagOk (K : PySem.W.Frag) (F H : Hp) (a c : Addr) : Prop where
  out : F a = none
  bag : ∃ x y z : Int, H a = some (.lst [.int x, .int y, .int z, .ref c]) ∧ 0 ≤ x ∧ 0 ≤ y ∧ y < 2147483647 ∧ 0 ≤ z
  cell : ∃ ns : List Int, SqL K F c (ns.map V.int) ∧ ∀ n ∈ ns, 0 ≤ n
structure Wd (K : PySem.W.Frag) (b : Bg) (F H : Hp) : Prop where
  ex : Ex F H
  bag : ∀ a c, b = some (a, c) → BagOk K F H a c
/-- from one pair of heaps to a later one: what is data stays, what others own stays, the bag may turn -/
structure Step (b : Bg) (F H F' H' : Hp) : Prop where
  ex : Ex F F'
  keep : ∀ a o, (∀ c, b ≠ some (a, c)) → H a = some o → H' a = some o
  out : ∀ a, F a = none → H a ≠ none → F' a = none
theorem Step.refl {b : Bg} {F H : Hp} : Step b F H F H := ⟨Ex.refl _, fun _ _ _ h => h, fun _ h _ => h⟩
theorem Step.trans {b : Bg} {K : PySem.W.Frag} {F H F1 H1 F2 H2 : Hp} (x : Step b F H F1 H1) (y : Step b F1 H1 F2 H2) (w : Wd K b F1 H1) : Step b F H F2 H2 :=
  ⟨x.ex.trans y.ex, fun a o n h => y.keep a o n (x.keep a o n h), fun a h1 h2 => y.out a (x.out a h1 h2) (fun z => by
    by_cases hb : ∃ c, b = some (a, c)
    · obtain ⟨c, hb⟩ := hb
      obtain ⟨_, _, _, e, _⟩ := (w.bag a c hb).bag
      rw [z] at e; cases e
    · cases q : H a with
      | none => exact h2 q
      | some o =>
        have := x.keep a o (fun c e => hb ⟨c, e⟩) q
        rw [z] at this; cases this)⟩
/-- what is fresh later was fresh before -/
theorem Step.fresh {b : Bg} {K : PySem.W.Frag} {F H F1 H1 : Hp} (x : Step b F H F1 H1) (w : Wd K b F1 H1) {p : Addr} (h : H1 p = none) : H p = none := by
  cases q : H p with
  | none => rfl
  | some o =>
    by_cases hb : ∃ c, b = some (p, c)
    · obtain ⟨c, hb⟩ := hb
      obtain ⟨_, _, _, e, _⟩ := (w.bag p c hb).bag
      rw [h] at e; cases e
    · have := x.keep p o (fun c e => hb ⟨c, e⟩) q
      rw [h] at this; cases this
theorem Wd.outN {K : PySem.W.Frag} {b : Bg} {F H : Hp} (w : Wd K b F H) {p : Addr} (h : H p = none) : F p = none := by
  cases q : F p with
  | none => rfl
  | some o => rw [w.ex p o q] at h; cases h
theorem Wd.nb {K : PySem.W.Frag} {b : Bg} {F H : Hp} (w : Wd K b F H) {p : Addr} (h : H p = none) : ∀ c, b ≠ some (p, c) := fun c e => by
  obtain ⟨_, _, _, e, _⟩ := (w.bag p c e).bag
  rw [h] at e; cases e
/-- a new object that is data at once -/
theorem Wd.newD {K : PySem.W.Frag} {b : Bg} {F H : Hp} (w : Wd K b F H) {p : Addr} {o : HO} (h : H p = none) : Wd K b (upd F p o) (upd H p o) ∧ Step b F H (upd F p o) (upd H p o) := by
  have hF := w.outN h
  refine ⟨⟨fun a u e => ?_, fun a c e => ?_⟩, Ex.new hF, fun a u n e => ?_, fun a e1 e2 => ?_⟩
  · by_cases ha : a = p
    · subst ha; rw [upd_same] at e ⊢; exact e
    · rw [upd_ne ha] at e ⊢; exact w.ex a u e
  · have B := w.bag a c e
    have ha : a ≠ p := fun z => w.nb h c (z ▸ e)
    obtain ⟨x, y, z, e1, r⟩ := B.bag
    obtain ⟨ns, s, q⟩ := B.cell
    exact ⟨by rw [upd_ne ha]; exact B.out, ⟨x, y, z, by rw [upd_ne ha]; exact e1, r⟩, ⟨ns, exL (Ex.new hF) s, q⟩⟩
  · rw [upd_ne (ne_of_none e h)]; exact e
  · rw [upd_ne (show a ≠ p from fun z => e2 (by rw [z]; exact h))]; exact e1
/-- a new object that is owned -/
theorem Wd.newO {K : PySem.W.Frag} {b : Bg} {F H : Hp} (w : Wd K b F H) {p : Addr} {o : HO} (h : H p = none) : Wd K b F (upd H p o) ∧ Step b F H F (upd H p o) := by
  have hF := w.outN h
  refine ⟨⟨fun a u e => ?_, fun a c e => ?_⟩, Ex.refl _, fun a u n e => ?_, fun a e1 e2 => e1⟩
  · rw [upd_ne (ne_of_none e hF)]; exact w.ex a u e
  · have B := w.bag a c e
    have ha : a ≠ p := fun z => w.nb h c (z ▸ e)
    obtain ⟨x, y, z, e1, r⟩ := B.bag
    exact ⟨B.out, ⟨x, y, z, by rw [upd_ne ha]; exact e1, r⟩, B.cell⟩
  · rw [upd_ne (ne_of_none e h)]; exact e
/-- an owned object turns -/
theorem Wd.turn {K : PySem.W.Frag} {b : Bg} {F H : Hp} (w : Wd K b F H) {p : Addr} {o : HO} (h : F p = none) (hb : ∀ c, b ≠ some (p, c)) : Wd K b F (upd H p o) := by
  refine ⟨fun a u e => ?_, fun a c e => ?_⟩
  · rw [upd_ne (ne_of_none e h)]; exact w.ex a u e
  · have B := w.bag a c e
    have ha : a ≠ p := fun z => hb c (z ▸ e)
    obtain ⟨x, y, z, e1, r⟩ := B.bag
    exact ⟨B.out, ⟨x, y, z, by rw [upd_ne ha]; exact e1, r⟩, B.cell⟩
/-- an owned object becomes data -/
theorem Wd.frz {K : PySem.W.Frag} {b : Bg} {F H : Hp} (w : Wd K b F H) {p : Addr} {o : HO} (h : F p = none) (hp : H p = some o) (hb : ∀ c, b ≠ some (p, c)) : Wd K b (upd F p o) H := by
  refine ⟨fun a u e => ?_, fun a c e => ?_⟩
  · by_cases ha : a = p
    · subst ha; rw [upd_same] at e; rw [← e]; exact hp
    · rw [upd_ne ha] at e; exact w.ex a u e
  · have B := w.bag a c e
    have ha : a ≠ p := fun z => hb c (z ▸ e)
    obtain ⟨ns, s, q⟩ := B.cell
    exact ⟨by rw [upd_ne ha]; exact B.out, B.bag, ⟨ns, exL (Ex.new h) s, q⟩⟩
end DL

namespace DL
open PySem PySem.Spec PyProof.Rows L2
/-! slots -/
inductive En where
  /-- nothing is known | data | a list of the def's own -/
  | u | d (x : D) | o (ds : List D)
abbrev Env' := List En
structure EnvD (K : PySem.W.Frag) (b : Bg) (H0 F H : Hp) (σ : L2.St) (E : Env') : Prop where
  len : σ.length = E.length
  dat : ∀ (i : Nat) (x : D), E[i]? = some (.d x) → ∃ v, σ[i]? = some (some v) ∧ Dv K b F v x
  own : ∀ (i : Nat) (ds : List D), E[i]? = some (.o ds) → ∃ p vs, σ[i]? = some (some (.ref p)) ∧ H0 p = none ∧ F p = none ∧ (∀ c, b ≠ some (p, c)) ∧ H p = some (.lst vs) ∧ DvA K b F vs ds
  inj : ∀ (i j : Nat) (ds es : List D) (p : Addr), E[i]? = some (.o ds) → E[j]? = some (.o es) → σ[i]? = some (some (.ref p)) → σ[j]? = some (some (.ref p)) → i = j
section
variable {K : PySem.W.Frag} {b : Bg} {H0 F H F' H' : Hp} {σ : L2.St} {E : Env'}
theorem EnvD.step (h : EnvD K b H0 F H σ E) (s : Step b F H F' H') : EnvD K b H0 F' H' σ E :=
  ⟨h.len, fun i x e => let ⟨v, h1, h2⟩ := h.dat i x e; ⟨v, h1, h2.up s.ex⟩, fun i ds e =>
    let ⟨p, vs, h1, h2, h3, h4, h5, h6⟩ := h.own i ds e
    ⟨p, vs, h1, h2, s.out p h3 (fun z => by rw [h5] at z; cases z), h4, s.keep p _ h4 h5, h6.up s.ex⟩, h.inj⟩
theorem set_get {α : Type} {l : List α} {i j : Nat} {x y : α} (h : (l.set i x)[j]? = some y) : (i = j ∧ x = y) ∨ (i ≠ j ∧ l[j]? = some y) := by
  by_cases hij : i = j
  · subst hij
    by_cases hl : i < l.length
    · rw [List.getElem?_set_self hl] at h; exact .inl ⟨rfl, Option.some.inj h⟩
    · rw [List.getElem?_eq_none (by simpa using hl)] at h; cases h
  · rw [List.getElem?_set_ne hij] at h; exact .inr ⟨hij, h⟩
/-- a slot takes data -/
theorem EnvD.setD {i : Nat} {v : V} {x : D} (h : EnvD K b H0 F H σ E) (hv : Dv K b F v x) : EnvD K b H0 F H (σ.set i (some v)) (E.set i (.d x)) := by
  refine ⟨by rw [List.length_set, List.length_set, h.len], fun j y e => ?_, fun j ds e => ?_, fun j k ds es p e1 e2 e3 e4 => ?_⟩
  · rcases set_get e with ⟨rfl, q⟩ | ⟨q, e⟩
    · cases q
      have hi : i < σ.length := by
        rw [h.len]
        exact Nat.lt_of_lt_of_eq (List.getElem?_eq_some_iff.mp e).1 (List.length_set ..)
      exact ⟨v, List.getElem?_set_self hi, hv⟩
    · obtain ⟨w, h1, h2⟩ := h.dat j y e
      exact ⟨w, by rw [List.getElem?_set_ne q]; exact h1, h2⟩
  · rcases set_get e with ⟨_, q⟩ | ⟨q, e⟩
    · cases q
    · obtain ⟨p, vs, h1, r⟩ := h.own j ds e
      exact ⟨p, vs, by rw [List.getElem?_set_ne q]; exact h1, r⟩
  · rcases set_get e1 with ⟨_, q⟩ | ⟨q1, e1⟩
    · cases q
    · rcases set_get e2 with ⟨_, q⟩ | ⟨q2, e2⟩
      · cases q
      · rw [List.getElem?_set_ne q1] at e3
        rw [List.getElem?_set_ne q2] at e4
        exact h.inj j k ds es p e1 e2 e3 e4
/-- a slot takes a list of the def's own -/
theorem EnvD.setO {i : Nat} {p : Addr} {vs : List V} {ds : List D} (h : EnvD K b H0 F H σ E) (h0 : H0 p = none) (hF : F p = none) (hb : ∀ c, b ≠ some (p, c)) (hp : H p = some (.lst vs)) (hd : DvA K b F vs ds)
    (fr : ∀ (j : Nat) (es : List D), j ≠ i → E[j]? = some (.o es) → σ[j]? ≠ some (some (.ref p))) : EnvD K b H0 F H (σ.set i (some (.ref p))) (E.set i (.o ds)) := by
  refine ⟨by rw [List.length_set, List.length_set, h.len], fun j y e => ?_, fun j es e => ?_, fun j k es fs q e1 e2 e3 e4 => ?_⟩
  · rcases set_get e with ⟨_, q⟩ | ⟨q, e⟩
    · cases q
    · obtain ⟨w, h1, h2⟩ := h.dat j y e
      exact ⟨w, by rw [List.getElem?_set_ne q]; exact h1, h2⟩
  · rcases set_get e with ⟨rfl, q⟩ | ⟨q, e⟩
    · cases q
      have hi : i < σ.length := by
        rw [h.len]
        exact Nat.lt_of_lt_of_eq (List.getElem?_eq_some_iff.mp e).1 (List.length_set ..)
      exact ⟨p, vs, List.getElem?_set_self hi, h0, hF, hb, hp, hd⟩
    · obtain ⟨q', us, h1, r⟩ := h.own j es e
      exact ⟨q', us, by rw [List.getElem?_set_ne q]; exact h1, r⟩
  · rcases set_get e1 with ⟨hj, q1⟩ | ⟨hj, e1⟩
    · rcases set_get e2 with ⟨hk, q2⟩ | ⟨hk, e2⟩
      · exact hj.symm.trans hk
      · subst hj
        rcases set_get e3 with ⟨_, z⟩ | ⟨z, _⟩
        · cases z
          rw [List.getElem?_set_ne hk] at e4
          exact absurd e4 (fr k fs (fun z => hk z.symm) e2)
        · exact absurd rfl z
    · rcases set_get e2 with ⟨hk, q2⟩ | ⟨hk, e2⟩
      · subst hk
        rcases set_get e4 with ⟨_, z⟩ | ⟨z, _⟩
        · cases z
          rw [List.getElem?_set_ne hj] at e3
          exact absurd e3 (fr j es (fun z => hj z.symm) e1)
        · exact absurd rfl z
      · rw [List.getElem?_set_ne hj] at e3
        rw [List.getElem?_set_ne hk] at e4
        exact h.inj j k es fs q e1 e2 e3 e4
/-- less is known -/
theorem EnvD.weak {E' : Env'} (h : EnvD K b H0 F H σ E) (hl : E'.length = E.length) (w : ∀ (i : Nat) (n : En), E'[i]? = some n → n = .u ∨ E[i]? = some n) : EnvD K b H0 F H σ E' := by
  refine ⟨h.len.trans hl.symm, fun i x e => ?_, fun i ds e => ?_, fun i j ds es p e1 e2 e3 e4 => ?_⟩
  · rcases w i _ e with z | z
    · cases z
    · exact h.dat i x z
  · rcases w i _ e with z | z
    · cases z
    · exact h.own i ds z
  · rcases w i _ e1 with z | z1
    · cases z
    · rcases w j _ e2 with z | z2
      · cases z
      · exact h.inj i j ds es p z1 z2 e3 e4
theorem EnvD.setU {i : Nat} (h : EnvD K b H0 F H σ E) : EnvD K b H0 F H σ (E.set i .u) :=
  h.weak (List.length_set ..) fun j n e => by
    rcases set_get e with ⟨_, q⟩ | ⟨_, q⟩
    · exact .inl q.symm
    · exact .inr q
/-- the own list of a slot turns -/
theorem EnvD.turn {i : Nat} {p : Addr} {vs : List V} {ds es : List D} (h : EnvD K b H0 F H σ E) (hi : E[i]? = some (.o ds)) (hs : σ[i]? = some (some (.ref p))) (hd : DvA K b F vs es) (hF : F p = none) :
    EnvD K b H0 F (upd H p (.lst vs)) σ (E.set i (.o es)) := by
  refine ⟨by rw [List.length_set, h.len], fun j y e => ?_, fun j fs e => ?_, fun j k fs gs q e1 e2 e3 e4 => ?_⟩
  · rcases set_get e with ⟨_, q⟩ | ⟨q, e⟩
    · cases q
    · exact h.dat j y e
  · rcases set_get e with ⟨rfl, q⟩ | ⟨q, e⟩
    · cases q
      obtain ⟨p', us, h1, h2, h3, h4, h5, h6⟩ := h.own i ds hi
      rw [hs] at h1
      cases h1
      exact ⟨p, vs, hs, h2, h3, h4, upd_same, hd⟩
    · obtain ⟨q', us, h1, h2, h3, h4, h5, h6⟩ := h.own j fs e
      refine ⟨q', us, h1, h2, h3, h4, ?_, h6⟩
      rw [upd_ne (show q' ≠ p from fun z => ?_)]
      · exact h5
      · subst z
        exact q (h.inj i j ds fs q' hi e hs h1)
  · have g : ∀ (j : Nat) (gs : List D), (E.set i (.o es))[j]? = some (.o gs) → ∃ hs, E[j]? = some (.o hs) := fun j gs e => by
      rcases set_get e with ⟨rfl, _⟩ | ⟨_, e⟩
      · exact ⟨_, hi⟩
      · exact ⟨_, e⟩
    obtain ⟨f1, z1⟩ := g j _ e1
    obtain ⟨f2, z2⟩ := g k _ e2
    exact h.inj j k f1 f2 q z1 z2 e3 e4
/-- the own list of a slot becomes data -/
theorem EnvD.frz {i : Nat} {p : Addr} {vs : List V} {ds : List D} (h : EnvD K b H0 F H σ E) (hi : E[i]? = some (.o ds)) (hs : σ[i]? = some (some (.ref p))) (hF : F p = none) (hd : DvA K b F vs ds) :
    EnvD K b H0 (upd F p (.lst vs)) H σ (E.set i (.d (.lst ds))) := by
  have ex : Ex F (upd F p (.lst vs)) := Ex.new hF
  refine ⟨by rw [List.length_set, h.len], fun j y e => ?_, fun j fs e => ?_, fun j k fs gs q e1 e2 e3 e4 => ?_⟩
  · rcases set_get e with ⟨rfl, q⟩ | ⟨q, e⟩
    · cases q
      exact ⟨_, hs, .lst upd_same (hd.up ex)⟩
    · obtain ⟨w, h1, h2⟩ := h.dat j y e
      exact ⟨w, h1, h2.up ex⟩
  · rcases set_get e with ⟨_, q⟩ | ⟨q, e⟩
    · cases q
    · obtain ⟨q', us, h1, h2, h3, h4, h5, h6⟩ := h.own j fs e
      refine ⟨q', us, h1, h2, ?_, h4, h5, h6.up ex⟩
      rw [upd_ne (show q' ≠ p from fun z => ?_)]
      · exact h3
      · subst z
        exact q (h.inj i j ds fs q' hi e hs h1)
  · rcases set_get e1 with ⟨_, q⟩ | ⟨_, e1⟩
    · cases q
    · rcases set_get e2 with ⟨_, q⟩ | ⟨_, e2⟩
      · cases q
      · exact h.inj j k fs gs q e1 e2 e3 e4
end
/-! judgements -/
section
variable (K : PySem.W.Frag) (b : Bg)
/-- t ends, from any heaps that hold E, in data that Φ takes -/
def wpe (t : TE) (E : Env') (Φ : D → Prop) : Prop := ∀ H0 F H σ, Wd K b F H → EnvD K b H0 F H σ E →
  ∀ Q : VK, (∀ v F' H' x, Step b F H F' H' → Wd K b F' H' → Dv K b F' v x → Φ x → Q v H') → t σ H Q
/-- .. in a new list, owned by nobody yet -/
def wpl (t : TE) (E : Env') (Φ : List D → Prop) : Prop := ∀ H0 F H σ, Wd K b F H → EnvD K b H0 F H σ E →
  ∀ Q : VK, (∀ p vs F' H' ds, Step b F H F' H' → Wd K b F' H' → H p = none → F' p = none → H' p = some (.lst vs) → DvA K b F' vs ds → Φ ds → Q (.ref p) H') → t σ H Q
def wpt (t : TT) (E : Env') (Φ : Bool → Prop) : Prop := ∀ H0 F H σ, Wd K b F H → EnvD K b H0 F H σ E →
  ∀ Q : Bool → Hp → Prop, (∀ c F' H', Step b F H F' H' → Wd K b F' H' → Φ c → Q c H') → t σ H Q
def wpa (t : TA) (E : Env') (Φ : List D → Prop) : Prop := ∀ H0 F H σ, Wd K b F H → EnvD K b H0 F H σ E →
  ∀ Q : List V → Hp → Prop, (∀ vs F' H' ds, Step b F H F' H' → Wd K b F' H' → DvA K b F' vs ds → Φ ds → Q vs H') → t σ H Q
/-- r of values that hold x, y -/
def rd2 (r : R2) (x y : D) (Φ : D → Prop) : Prop := ∀ F H v u, Wd K b F H → Dv K b F v x → Dv K b F u y →
  ∀ Q : VK, (∀ v F' H' z, Step b F H F' H' → Wd K b F' H' → Dv K b F' v z → Φ z → Q v H') → r v u H Q
def rd2l (r : R2) (x y : D) (Φ : List D → Prop) : Prop := ∀ F H v u, Wd K b F H → Dv K b F v x → Dv K b F u y →
  ∀ Q : VK, (∀ p vs F' H' ds, Step b F H F' H' → Wd K b F' H' → H p = none → F' p = none → H' p = some (.lst vs) → DvA K b F' vs ds → Φ ds → Q (.ref p) H') → r v u H Q
def rd1 (r : V → Hp → VK → Prop) (x : D) (Φ : D → Prop) : Prop := ∀ F H v, Wd K b F H → Dv K b F v x →
  ∀ Q : VK, (∀ v F' H' z, Step b F H F' H' → Wd K b F' H' → Dv K b F' v z → Φ z → Q v H') → r v H Q
def rdc (r : List V → Hp → VK → Prop) (xs : List D) (Φ : D → Prop) : Prop := ∀ F H vs, Wd K b F H → DvA K b F vs xs →
  ∀ Q : VK, (∀ v F' H' z, Step b F H F' H' → Wd K b F' H' → Dv K b F' v z → Φ z → Q v H') → r vs H Q
def rdcl (r : List V → Hp → VK → Prop) (xs : List D) (Φ : List D → Prop) : Prop := ∀ F H vs, Wd K b F H → DvA K b F vs xs →
  ∀ Q : VK, (∀ p us F' H' ds, Step b F H F' H' → Wd K b F' H' → H p = none → F' p = none → H' p = some (.lst us) → DvA K b F' us ds → Φ ds → Q (.ref p) H') → r vs H Q
/-- a target takes data -/
def wpg (vs : List Nat) (g : TG) (x : D) (E : Env') (Φ : Env' → Prop) : Prop := ∀ H0 F H σ v, Wd K b F H → EnvD K b H0 F H σ E → Dv K b F v x →
  ∀ Q : L2.St → Hp → Prop, (∀ σ' F' H' E', Step b F H F' H' → Wd K b F' H' → EnvD K b H0 F' H' σ' E' → σ'.length = σ.length → (∀ j : Nat, j ∉ vs → σ'[j]? = σ[j]?) → Φ E' → Q σ' H') → g v σ H Q
/-- what a walk yields -/
structure ItOk (F : Hp) (J : It) (ds : List D) : Prop where
  go : ∀ (i : Nat) F' H', Ex F F' → Wd K b F' H' → i < ds.length → J.go i H'
  stop : ∀ (i : Nat) F' H', Ex F F' → Wd K b F' H' → ds.length ≤ i → J.stop i H'
  yld : ∀ (i : Nat) F' H' x H2, Ex F F' → Wd K b F' H' → i < ds.length → J.yld i H' x H2 → ∃ (F2 : Hp) (d : D), Step b F' H' F2 H2 ∧ Wd K b F2 H2 ∧ ds[i]? = some d ∧ Dv K b F2 x d
def wpi (t : TI) (E : Env') (Φ : List D → Prop) : Prop := ∀ H0 F H σ, Wd K b F H → EnvD K b H0 F H σ E →
  ∀ R : It → Hp → Prop, (∀ J F' H' ds, Step b F H F' H' → Wd K b F' H' → ItOk K b F' J ds → Φ ds → R J H') → t σ H R
/-- what is wanted behind a statement -/
structure Po where
  nx : Env' → Prop
  rt : D → Prop
  rl : List D → Prop := fun _ => False
  bk : Env' → Prop := fun _ => False
  ct : Env' → Prop := fun _ => False
structure Ok (F0 H0 Fb : Hp) (P : Po) (Dn : Ends) : Prop where
  nx : ∀ σ F H E, Ex Fb F → Step b F0 H0 F H → Wd K b F H → EnvD K b H0 F H σ E → P.nx E → Dn.nx σ H
  rt : ∀ v F H x, Step b F0 H0 F H → Wd K b F H → Dv K b F v x → P.rt x → Dn.rt v H
  rl : ∀ p vs F H ds, Step b F0 H0 F H → Wd K b F H → H0 p = none → F p = none → (∀ c, b ≠ some (p, c)) → H p = some (.lst vs) → DvA K b F vs ds → P.rl ds → Dn.rt (.ref p) H
  bk : ∀ σ F H E, Ex Fb F → Step b F0 H0 F H → Wd K b F H → EnvD K b H0 F H σ E → P.bk E → Dn.bk σ H
  ct : ∀ σ F H E, Ex Fb F → Step b F0 H0 F H → Wd K b F H → EnvD K b H0 F H σ E → P.ct E → Dn.ct σ H
def wps (t : TS) (E : Env') (P : Po) : Prop := ∀ F0 H0 F H σ, Step b F0 H0 F H → Wd K b F H → EnvD K b H0 F H σ E →
  ∀ Dn : Ends, Ok K b F0 H0 F P Dn → t Dn σ H
end
theorem Ok.up {K : PySem.W.Frag} {b : Bg} {F0 H0 Fb Fc : Hp} {P : Po} {Dn : Ends} (k : Ok K b F0 H0 Fb P Dn) (x : Ex Fb Fc) : Ok K b F0 H0 Fc P Dn :=
  ⟨fun σ F H E y => k.nx σ F H E (x.trans y), k.rt, k.rl, fun σ F H E y => k.bk σ F H E (x.trans y), fun σ F H E y => k.ct σ F H E (x.trans y)⟩
end DL

namespace DL
open PySem PySem.Spec PyProof.Rows L2
section
variable {K : PySem.W.Frag} {b : Bg} {E : Env'} {ta tb tc te : TE} {t u : TT} {Φ : D → Prop} {Ψ : Bool → Prop}
/-! expressions -/
theorem wpe.mono {Φ' : D → Prop} (h : wpe K b te E Φ) (q : ∀ x, Φ x → Φ' x) : wpe K b te E Φ' := fun H0 F H σ w e Q k =>
  h H0 F H σ w e Q fun v F' H' x s w' d p => k v F' H' x s w' d (q x p)
theorem wpt.mono {Ψ' : Bool → Prop} (h : wpt K b t E Ψ) (q : ∀ x, Ψ x → Ψ' x) : wpt K b t E Ψ' := fun H0 F H σ w e Q k =>
  h H0 F H σ w e Q fun c F' H' s w' p => k c F' H' s w' (q c p)
theorem wpl.mono {Φ Φ' : List D → Prop} (h : wpl K b te E Φ) (q : ∀ x, Φ x → Φ' x) : wpl K b te E Φ' := fun H0 F H σ w e Q k =>
  h H0 F H σ w e Q fun p vs F' H' ds s w' n1 n2 n3 d z => k p vs F' H' ds s w' n1 n2 n3 d (q ds z)
theorem wpe_var {i : Nat} {x : D} (h : E[i]? = some (.d x)) (q : Φ x) : wpe K b (tVar i) E Φ := fun H0 F H σ w e Q k =>
  let ⟨v, h1, h2⟩ := e.dat i x h
  ⟨v, h1, k v F H x .refl w h2 q⟩
theorem wpe_int {i : Int} (q : Φ (.int i)) : wpe K b (tC (.int i)) E Φ := fun H0 F H σ w e Q k => k _ F H _ .refl w (.int i) q
theorem wpe_str {x : Str} (q : Φ (.str x)) : wpe K b (tC (.str x)) E Φ := fun H0 F H σ w e Q k => k _ F H _ .refl w (.str x) q
theorem wpe_bl {x : Bool} (q : Φ (.bl x)) : wpe K b (tC (.bl x)) E Φ := fun H0 F H σ w e Q k => k _ F H _ .refl w (.bl x) q
theorem wpe_non (q : Φ .non) : wpe K b (tC .non) E Φ := fun H0 F H σ w e Q k => k _ F H _ .refl w .non q
theorem wpe_op {r : R2} (h : wpe K b ta E fun x => wpe K b tb E fun y => rd2 K b r x y Φ) : wpe K b (tOp r ta tb) E Φ := fun H0 F H σ w e Q k =>
  h H0 F H σ w e _ fun v F1 H1 x s1 w1 d1 p1 => p1 H0 F1 H1 σ w1 (e.step s1) _ fun u F2 H2 y s2 w2 d2 p2 =>
    p2 F2 H2 v u w2 (d1.up s2.ex) d2 Q fun z F3 H3 zd s3 w3 d3 p3 => k z F3 H3 zd ((s1.trans s2 w1).trans s3 w2) w3 d3 p3
theorem wpl_op {r : R2} {Φ : List D → Prop} (h : wpe K b ta E fun x => wpe K b tb E fun y => rd2l K b r x y Φ) : wpl K b (tOp r ta tb) E Φ := fun H0 F H σ w e Q k =>
  h H0 F H σ w e _ fun v F1 H1 x s1 w1 d1 p1 => p1 H0 F1 H1 σ w1 (e.step s1) _ fun u F2 H2 y s2 w2 d2 p2 =>
    p2 F2 H2 v u w2 (d1.up s2.ex) d2 Q fun p vs F3 H3 ds s3 w3 n1 n2 n3 d3 p3 => k p vs F3 H3 ds ((s1.trans s2 w1).trans s3 w2) w3 ((s1.trans s2 w1).fresh w2 n1) n2 n3 d3 p3
theorem wpe_un {r : V → Hp → VK → Prop} (h : wpe K b ta E fun x => rd1 K b r x Φ) : wpe K b (tUn r ta) E Φ := fun H0 F H σ w e Q k =>
  h H0 F H σ w e _ fun v F1 H1 x s1 w1 d1 p1 => p1 F1 H1 v w1 d1 Q fun z F3 H3 zd s3 w3 d3 p3 => k z F3 H3 zd (s1.trans s3 w1) w3 d3 p3
/-- a new list becomes data at once -/
theorem wpe_l {te : TE} (h : wpl K b te E fun ds => Φ (.lst ds)) : wpe K b te E Φ := fun H0 F H σ w e Q k =>
  h H0 F H σ w e _ fun p vs F' H' ds s w' n1 n2 n3 d q => by
    have nb : ∀ c, b ≠ some (p, c) := w.nb n1
    have st : Step b F H (upd F' p (.lst vs)) H' := ⟨s.ex.trans (Ex.new n2), s.keep, fun a e1 e2 => by
      rw [upd_ne (show a ≠ p from fun z => e2 (by rw [z]; exact n1))]; exact s.out a e1 e2⟩
    exact k _ _ H' _ st (w'.frz n2 n3 nb) (.lst upd_same (d.up (Ex.new n2))) q
theorem wpa_nil {Φ : List D → Prop} (q : Φ []) : wpa K b tNil E Φ := fun H0 F H σ w e Q k => k _ F H _ .refl w .nil q
theorem wpa_cons {tr : TA} {Φ : List D → Prop} (h : wpe K b ta E fun x => wpa K b tr E fun xs => Φ (x :: xs)) : wpa K b (tCons ta tr) E Φ := fun H0 F H σ w e Q k =>
  h H0 F H σ w e _ fun v F1 H1 x s1 w1 d1 p1 => p1 H0 F1 H1 σ w1 (e.step s1) _ fun vs F2 H2 xs s2 w2 d2 p2 =>
    k _ F2 H2 _ (s1.trans s2 w1) w2 (.cons (d1.up s2.ex) d2) p2
theorem wpl_lst {tr : TA} {Φ : List D → Prop} (h : wpa K b tr E fun xs => xs.length ≤ 100000 ∧ Φ xs) : wpl K b (tLst tr) E Φ := fun H0 F H σ w e Q k =>
  h H0 F H σ w e _ fun vs F1 H1 xs s1 w1 d1 p1 => ⟨by rw [d1.len]; exact Nat.le_trans p1.1 (by decide), fun p hp => by
    obtain ⟨w2, s2⟩ := w1.newO (o := .lst vs) hp
    exact k p vs F1 _ xs (s1.trans s2 w1) w2 (s1.fresh w1 hp) (w1.outN hp) upd_same d1 p1.2⟩
theorem wpe_tup {tr : TA} (h : wpa K b tr E fun xs => xs.length ≤ 100000 ∧ Φ (.tup xs)) : wpe K b (tTup tr) E Φ := fun H0 F H σ w e Q k =>
  h H0 F H σ w e _ fun vs F1 H1 xs s1 w1 d1 p1 => ⟨by rw [d1.len]; exact Nat.le_trans p1.1 (by decide), fun p hp => by
    obtain ⟨w2, s2⟩ := w1.newD (o := .tup vs) hp
    exact k _ _ _ _ (s1.trans s2 w1) w2 (.tup (.inl (.inl upd_same)) (d1.up s2.ex)) p1.2⟩
/-! tests -/
theorem wpt_test (h : wpe K b te E fun x => ∃ c, x = .bl c ∧ Ψ c) : wpt K b (tTest te) E Ψ := fun H0 F H σ w e Q k =>
  h H0 F H σ w e _ fun v F1 H1 x s1 w1 d1 p1 => by
    obtain ⟨c, rfl, q⟩ := p1
    cases d1
    exact ⟨c, rfl, k c F1 H1 s1 w1 q⟩
theorem wpt_B (h : wpe K b te E fun x => ∃ c, x = .bl c ∧ Ψ c) : wpt K b (tB te) E Ψ := fun H0 F H σ w e Q k =>
  h H0 F H σ w e _ fun v F1 H1 x s1 w1 d1 p1 => by
    obtain ⟨c, rfl, q⟩ := p1
    cases d1
    exact ⟨c, rfl, k c F1 H1 s1 w1 q⟩
theorem wpt_yes (q : Ψ true) : wpt K b tYes E Ψ := fun H0 F H σ w e Q k => k true F H .refl w q
theorem wpt_not (h : wpt K b t E fun c => Ψ (!c)) : wpt K b (tNot t) E Ψ := fun H0 F H σ w e Q k =>
  h H0 F H σ w e _ fun c F1 H1 s1 w1 p1 => k _ F1 H1 s1 w1 p1
theorem wpt_and (h : wpt K b t E fun c => if c = true then wpt K b u E Ψ else Ψ false) : wpt K b (tAnd t u) E Ψ := fun H0 F H σ w e Q k =>
  h H0 F H σ w e _ fun c F1 H1 s1 w1 p1 => by
    cases c with
    | true => exact p1 H0 F1 H1 σ w1 (e.step s1) Q fun c F2 H2 s2 w2 p2 => k c F2 H2 (s1.trans s2 w1) w2 p2
    | false => exact k false F1 H1 s1 w1 p1
theorem wpt_or (h : wpt K b t E fun c => if c = true then Ψ true else wpt K b u E Ψ) : wpt K b (tOr t u) E Ψ := fun H0 F H σ w e Q k =>
  h H0 F H σ w e _ fun c F1 H1 s1 w1 p1 => by
    cases c with
    | false => exact p1 H0 F1 H1 σ w1 (e.step s1) Q fun c F2 H2 s2 w2 p2 => k c F2 H2 (s1.trans s2 w1) w2 p2
    | true => exact k true F1 H1 s1 w1 p1
theorem wpe_and (h : wpe K b ta E fun x => ∃ c, x = .bl c ∧ if c = true then wpe K b tb E Φ else Φ (.bl false)) : wpe K b (tAndV ta tb) E Φ := fun H0 F H σ w e Q k =>
  h H0 F H σ w e _ fun v F1 H1 x s1 w1 d1 p1 => by
    obtain ⟨c, rfl, q⟩ := p1
    cases d1
    refine ⟨c, rfl, ?_⟩
    cases c with
    | true => exact q H0 F1 H1 σ w1 (e.step s1) Q fun c F2 H2 x s2 w2 d2 p2 => k c F2 H2 x (s1.trans s2 w1) w2 d2 p2
    | false => exact k _ F1 H1 _ s1 w1 (.bl false) q
theorem wpe_or (h : wpe K b ta E fun x => ∃ c, x = .bl c ∧ if c = true then Φ (.bl true) else wpe K b tb E Φ) : wpe K b (tOrV ta tb) E Φ := fun H0 F H σ w e Q k =>
  h H0 F H σ w e _ fun v F1 H1 x s1 w1 d1 p1 => by
    obtain ⟨c, rfl, q⟩ := p1
    cases d1
    refine ⟨c, rfl, ?_⟩
    cases c with
    | false => exact q H0 F1 H1 σ w1 (e.step s1) Q fun c F2 H2 x s2 w2 d2 p2 => k c F2 H2 x (s1.trans s2 w1) w2 d2 p2
    | true => exact k _ F1 H1 _ s1 w1 (.bl true) q
theorem wpe_not (h : wpe K b ta E fun x => ∃ c, x = .bl c ∧ Φ (.bl (!c))) : wpe K b (tNotV ta) E Φ := fun H0 F H σ w e Q k =>
  h H0 F H σ w e _ fun v F1 H1 x s1 w1 d1 p1 => by
    obtain ⟨c, rfl, q⟩ := p1
    cases d1
    exact ⟨c, rfl, k _ F1 H1 _ s1 w1 (.bl _) q⟩
theorem wpe_if (h : wpt K b t E fun c => if c = true then wpe K b ta E Φ else wpe K b tb E Φ) : wpe K b (tIf t ta tb) E Φ := fun H0 F H σ w e Q k =>
  h H0 F H σ w e _ fun c F1 H1 s1 w1 p1 => by
    cases c with
    | true => exact p1 H0 F1 H1 σ w1 (e.step s1) Q fun c F2 H2 x s2 w2 d2 p2 => k c F2 H2 x (s1.trans s2 w1) w2 d2 p2
    | false => exact p1 H0 F1 H1 σ w1 (e.step s1) Q fun c F2 H2 x s2 w2 d2 p2 => k c F2 H2 x (s1.trans s2 w1) w2 d2 p2
theorem wpe_chain {r r' : R2} (h : wpe K b ta E fun x => wpe K b tb E fun y => rd2 K b r x y fun z => ∃ c, z = .bl c ∧
    if c = true then wpe K b tc E fun w' => rd2 K b r' y w' Φ else Φ (.bl false)) : wpe K b (tChain r r' ta tb tc) E Φ := fun H0 F H σ w e Q k =>
  h H0 F H σ w e _ fun v F1 H1 x s1 w1 d1 p1 => p1 H0 F1 H1 σ w1 (e.step s1) _ fun u F2 H2 y s2 w2 d2 p2 =>
    p2 F2 H2 v u w2 (d1.up s2.ex) d2 _ fun z F3 H3 zd s3 w3 d3 p3 => by
      obtain ⟨c, rfl, q⟩ := p3
      cases d3
      have s13 := (s1.trans s2 w1).trans s3 w2
      refine ⟨c, rfl, ?_⟩
      cases c with
      | false => exact k _ F3 H3 _ s13 w3 (.bl false) q
      | true =>
        exact q H0 F3 H3 σ w3 (e.step s13) _ fun y2 F4 H4 yd s4 w4 d4 p4 =>
          p4 F4 H4 u y2 w4 (d2.up (s3.ex.trans s4.ex)) d4 Q fun z5 F5 H5 zd5 s5 w5 d5 p5 => k z5 F5 H5 zd5 ((s13.trans s4 w3).trans s5 w4) w5 d5 p5
/-! calls of built-ins, by values -/
theorem wpe_cb {r : List V → Hp → VK → Prop} {tr : TA} (h : wpa K b tr E fun xs => rdc K b r xs Φ) : wpe K b (tCB r tr) E Φ := fun H0 F H σ w e Q k =>
  h H0 F H σ w e _ fun vs F1 H1 xs s1 w1 d1 p1 => p1 F1 H1 vs w1 d1 Q fun z F3 H3 zd s3 w3 d3 p3 => k z F3 H3 zd (s1.trans s3 w1) w3 d3 p3
theorem wpl_cb {r : List V → Hp → VK → Prop} {tr : TA} {Φ : List D → Prop} (h : wpa K b tr E fun xs => rdcl K b r xs Φ) : wpl K b (tCB r tr) E Φ := fun H0 F H σ w e Q k =>
  h H0 F H σ w e _ fun vs F1 H1 xs s1 w1 d1 p1 => p1 F1 H1 vs w1 d1 Q fun p us F3 H3 ds s3 w3 n1 n2 n3 d3 p3 => k p us F3 H3 ds (s1.trans s3 w1) w3 (s1.fresh w1 n1) n2 n3 d3 p3
/-! a def's promise -/
/-- data in, data out -/
def Sd (K : PySem.W.Frag) (n : Nat) (pre : Bg → List D → Prop) (post : List D → D → Prop) : Sp := fun vs H Q _ => ∃ b F ds, vs.length = n ∧ Wd K b F H ∧ DvA K b F vs ds ∧ pre b ds ∧
  ∀ v F' H' x, Step b F H F' H' → Wd K b F' H' → Dv K b F' v x → post ds x → Q v H'
/-- data in, a new list out -/
def Sl (K : PySem.W.Frag) (n : Nat) (pre : Bg → List D → Prop) (post : List D → List D → Prop) : Sp := fun vs H Q _ => ∃ b F ds, vs.length = n ∧ Wd K b F H ∧ DvA K b F vs ds ∧ pre b ds ∧
  ∀ p us F' H' es, Step b F H F' H' → Wd K b F' H' → H p = none → F' p = none → H' p = some (.lst us) → DvA K b F' us es → post ds es → Q (.ref p) H'
theorem wpe_call {n : Nat} {pre : Bg → List D → Prop} {post : List D → D → Prop} {EE : XK} {tr : TA} (h : wpa K b tr E fun xs => xs.length = n ∧ pre b xs ∧ ∀ x, post xs x → Φ x) : wpe K b (tCall (Sd K n pre post) [] EE tr) E Φ := fun H0 F H σ w e Q k =>
  h H0 F H σ w e _ fun vs F1 H1 xs s1 w1 d1 p1 => by
    rw [List.append_nil]
    exact ⟨b, F1, xs, d1.len.trans p1.1, w1, d1, p1.2.1, fun v F' H' x s w' d q => k v F' H' x (s1.trans s w1) w' d (p1.2.2 x q)⟩
theorem wpl_call {n : Nat} {pre : Bg → List D → Prop} {post : List D → List D → Prop} {EE : XK} {tr : TA} {Φ : List D → Prop} (h : wpa K b tr E fun xs => xs.length = n ∧ pre b xs ∧ ∀ x, post xs x → Φ x) :
    wpl K b (tCall (Sl K n pre post) [] EE tr) E Φ := fun H0 F H σ w e Q k =>
  h H0 F H σ w e _ fun vs F1 H1 xs s1 w1 d1 p1 => by
    rw [List.append_nil]
    exact ⟨b, F1, xs, d1.len.trans p1.1, w1, d1, p1.2.1, fun p us F' H' es s w' n1 n2 n3 d q => k p us F' H' es (s1.trans s w1) w' (s1.fresh w1 n1) n2 n3 d (p1.2.2 es q)⟩
end
end DL

namespace DL
open PySem PySem.Spec PyProof.Rows L2
section
variable {K : PySem.W.Frag} {b : Bg} {E : Env'} {ta tb te : TE} {c : TT} {t u : TS} {P : Po} {g : TG} {vs : List Nat}
/-! statements -/
theorem wps_seq (h : wps K b t E { P with nx := fun E' => wps K b u E' P }) : wps K b (tSeq t u) E P := fun F0 H0 F H σ s w e Dn k =>
  h F0 H0 F H σ s w e { Dn with nx := u Dn } ⟨fun σ F H E y s w d q => q F0 H0 F H σ s w d Dn (k.up y), k.rt, k.rl, k.bk, k.ct⟩
theorem wps_next (h : P.nx E) : wps K b tNext E P := fun F0 H0 F H σ s w e Dn k => k.nx σ F H E (Ex.refl _) s w e h
theorem wps_brk (h : P.bk E) : wps K b tBreak E P := fun F0 H0 F H σ s w e Dn k => k.bk σ F H E (Ex.refl _) s w e h
theorem wps_cont (h : P.ct E) : wps K b tCont E P := fun F0 H0 F H σ s w e Dn k => k.ct σ F H E (Ex.refl _) s w e h
theorem wps_ret (h : wpe K b te E P.rt) : wps K b (tRet te) E P := fun F0 H0 F H σ s w e Dn k =>
  h H0 F H σ w e Dn.rt fun v F' H' x s' w' d q => k.rt v F' H' x (s.trans s' w) w' d q
theorem wps_retl (h : wpl K b te E P.rl) : wps K b (tRet te) E P := fun F0 H0 F H σ s w e Dn k =>
  h H0 F H σ w e Dn.rt fun p vs F' H' ds s' w' n1 n2 n3 d q => k.rl p vs F' H' ds (s.trans s' w) w' (s.fresh w n1) n2 (w.nb n1) n3 d q
/-- an own list is returned -/
theorem wps_reto {i : Nat} {ds : List D} (hi : E[i]? = some (.o ds)) (h : P.rl ds) : wps K b (tRet (tVar i)) E P := fun F0 H0 F H σ s w e Dn k => by
  obtain ⟨p, us, h1, h2, h3, h4, h5, h6⟩ := e.own i ds hi
  exact ⟨_, h1, k.rl p us F H ds s w h2 h3 h4 h5 h6 h⟩
theorem wps_asg {i : Nat} (h : wpe K b te E fun x => P.nx (E.set i (.d x))) : wps K b (tAsg te (gName i)) E P := fun F0 H0 F H σ s w e Dn k =>
  h H0 F H σ w e _ fun v F' H' x s' w' d q => k.nx _ F' H' _ s'.ex (s.trans s' w) w' ((e.step s').setD d) q
/-- a new list is taken as an own one -/
theorem wps_asgl {i : Nat} (h : wpl K b te E fun ds => P.nx (E.set i (.o ds))) : wps K b (tAsg te (gName i)) E P := fun F0 H0 F H σ s w e Dn k =>
  h H0 F H σ w e _ fun p vs F' H' ds s' w' n1 n2 n3 d q => k.nx _ F' H' _ s'.ex (s.trans s' w) w' ((e.step s').setO (s.fresh w n1) n2 (w.nb n1) n3 d fun j es _ hj z => by
    obtain ⟨p', us, h1, _, _, _, h5, _⟩ := e.own j es hj
    rw [h1] at z
    cases z
    rw [n1] at h5; cases h5) q
theorem wps_asgt (vs : List Nat) (h : wpe K b te E fun x => wpg K b vs g x E P.nx) : wps K b (tAsg te g) E P := fun F0 H0 F H σ s w e Dn k =>
  h H0 F H σ w e _ fun v F' H' x s' w' d q => q H0 F' H' σ v w' (e.step s') d Dn.nx fun σ2 F2 H2 E2 s2 w2 e2 _ _ q2 => k.nx σ2 F2 H2 E2 (s'.ex.trans s2.ex) ((s.trans s' w).trans s2 w') w2 e2 q2
theorem wps_par {i j : Nat} {tr : TA} (h : wpa K b tr E fun xs => ∃ x y, xs = [x, y] ∧ P.nx ((E.set i (.d x)).set j (.d y))) : wps K b (tPar i j tr) E P := fun F0 H0 F H σ s w e Dn k =>
  h H0 F H σ w e _ fun vs F' H' xs s' w' d q => by
    obtain ⟨x, y, rfl, q⟩ := q
    cases d with
    | cons d1 d => cases d with
      | cons d2 d =>
        cases d
        exact ⟨_, _, rfl, k.nx _ F' H' _ s'.ex (s.trans s' w) w' (((e.step s').setD d1).setD d2) q⟩
theorem wps_if (h : wpt K b c E fun r => if r = true then wps K b t E P else wps K b u E P) : wps K b (tIfS c t u) E P := fun F0 H0 F H σ s w e Dn k =>
  h H0 F H σ w e _ fun r F1 H1 s1 w1 q => by
    cases r with
    | true => exact q F0 H0 F1 H1 σ (s.trans s1 w) w1 (e.step s1) Dn (k.up s1.ex)
    | false => exact q F0 H0 F1 H1 σ (s.trans s1 w) w1 (e.step s1) Dn (k.up s1.ex)
theorem wps_drop (h : wpe K b te E fun _ => P.nx E) : wps K b (tDrop te) E P := fun F0 H0 F H σ s w e Dn k =>
  h H0 F H σ w e _ fun v F' H' x s' w' d q => k.nx _ F' H' _ s'.ex (s.trans s' w) w' (e.step s') q
/-- x op= e over ints -/
theorem wps_augI {i : Nat} {f : Int → Int → Int} {n : Int} (hi : E[i]? = some (.d (.int n))) (h : wpe K b te E fun y => ∃ m, y = .int m ∧ P.nx (E.set i (.d (.int (f n m))))) : wps K b (tAug i te (ipI f)) E P := fun F0 H0 F H σ s w e Dn k => by
  obtain ⟨v, h1, h2⟩ := e.dat i _ hi
  cases h2
  refine ⟨_, h1, h H0 F H σ w e _ fun v F' H' x s' w' d q => ?_⟩
  obtain ⟨m, rfl, q⟩ := q
  cases d
  exact ⟨n, m, rfl, rfl, k.nx _ F' H' _ s'.ex (s.trans s' w) w' ((e.step s').setD (.int _)) q⟩
/-! ghost steps -/
theorem wps_frz (i : Nat) {ds : List D} (hi : E[i]? = some (.o ds)) (h : wps K b t (E.set i (.d (.lst ds))) P) : wps K b t E P := fun F0 H0 F H σ s w e Dn k => by
  obtain ⟨p, us, h1, h2, h3, h4, h5, h6⟩ := e.own i ds hi
  refine h F0 H0 (upd F p (.lst us)) H σ ⟨s.ex.trans (Ex.new h3), s.keep, fun a e1 e2 => ?_⟩ (w.frz h3 h5 h4) (e.frz hi h1 h3 h6) Dn (k.up (Ex.new h3))
  rw [upd_ne (show a ≠ p from fun z => e2 (by rw [z]; exact h2))]
  exact s.out a e1 e2
theorem wps_weak {E' : Env'} (hl : E'.length = E.length) (w : ∀ (i : Nat) (n : En), E'[i]? = some n → n = .u ∨ E[i]? = some n) (h : wps K b t E' P) : wps K b t E P := fun F0 H0 F H σ s wd e Dn k =>
  h F0 H0 F H σ s wd (e.weak hl w) Dn k
theorem wps_mono {P' : Po} (h : wps K b t E P) (n : ∀ E, P.nx E → P'.nx E) (r : ∀ x, P.rt x → P'.rt x) (l : ∀ x, P.rl x → P'.rl x) (bk : ∀ E, P.bk E → P'.bk E) (ct : ∀ E, P.ct E → P'.ct E) : wps K b t E P' := fun F0 H0 F H σ s wd e Dn k =>
  h F0 H0 F H σ s wd e Dn ⟨fun σ F H E y s w e q => k.nx σ F H E y s w e (n E q), fun v F H x s w d q => k.rt v F H x s w d (r x q), fun p vs F H ds s w n1 n2 n3 n4 d q => k.rl p vs F H ds s w n1 n2 n3 n4 d (l ds q),
    fun σ F H E y s w e q => k.bk σ F H E y s w e (bk E q), fun σ F H E y s w e q => k.ct σ F H E y s w e (ct E q)⟩
/-! targets -/
theorem wpg_name {i : Nat} {x : D} {Φ : Env' → Prop} (hi : i ∈ vs) (h : Φ (E.set i (.d x))) : wpg K b vs (gName i) x E Φ := fun H0 F H σ v w e d Q k =>
  k _ F H _ .refl w (e.setD d) (List.length_set ..) (fun j hj => List.getElem?_set_ne (fun z => hj (by rw [← z]; exact hi))) h
/-- several targets -/
def wpgs (K : PySem.W.Frag) (b : Bg) (vs : List Nat) (gs : TGs) (xs : List D) (E : Env') (Φ : Env' → Prop) : Prop := ∀ H0 F H σ us, Wd K b F H → EnvD K b H0 F H σ E → DvA K b F us xs →
  ∀ Q : L2.St → Hp → Prop, (∀ σ' F' H' E', Step b F H F' H' → Wd K b F' H' → EnvD K b H0 F' H' σ' E' → σ'.length = σ.length → (∀ j : Nat, j ∉ vs → σ'[j]? = σ[j]?) → Φ E' → Q σ' H') → gs us σ H Q
theorem wpgs_nil {Φ : Env' → Prop} (h : Φ E) : wpgs K b vs gNil [] E Φ := fun H0 F H σ us w e d Q k => by
  cases d
  exact ⟨rfl, k _ F H _ .refl w e rfl (fun _ _ => rfl) h⟩
theorem wpgs_cons {g : TG} {gs : TGs} {x : D} {xs : List D} {Φ : Env' → Prop} (h : wpg K b vs g x E fun E' => wpgs K b vs gs xs E' Φ) : wpgs K b vs (gCons g gs) (x :: xs) E Φ := fun H0 F H σ us w e d Q k => by
  cases d with
  | cons d1 d2 =>
    refine ⟨_, _, rfl, h H0 F H σ _ w e d1 _ fun σ1 F1 H1 E1 s1 w1 e1 l1 j1 q => ?_⟩
    exact q H0 F1 H1 σ1 _ w1 e1 (d2.up s1.ex) Q fun σ2 F2 H2 E2 s2 w2 e2 l2 j2 q2 => k σ2 F2 H2 E2 (s1.trans s2 w1) w2 e2 (l2.trans l1) (fun j hj => (j2 j hj).trans (j1 j hj)) q2
theorem wpg_tup {n : Nat} {gs : TGs} {xs : List D} {Φ : Env' → Prop} (hn : xs.length = n) (h : wpgs K b vs gs xs E Φ) : wpg K b vs (gTup K n gs) (.tup xs) E Φ := fun H0 F H σ v w e d Q k => by
  cases d with
  | tup s a => exact ⟨_, _, rfl, exT w.ex s, a.len.trans hn, h H0 F H σ _ w e a Q k⟩
/-! loops -/
theorem wps_for {wi : TI} (vs : List Nat) (h : wpi K b wi E fun ds => ∃ I : Nat → Env' → Prop, I 0 E ∧ (∀ (i : Nat) d E', ds[i]? = some d → I i E' → wpg K b vs g d E' fun E2 => wps K b t E2 { P with nx := I (i + 1), ct := I (i + 1), bk := P.nx }) ∧ ∀ E', I ds.length E' → P.nx E') :
    wps K b (tFor wi g t) E P := fun F0 H0 F H σ s w e Dn k =>
  h H0 F H σ w e _ fun J F1 H1 ds s1 w1 it q => by
    obtain ⟨I, i0, turn, fin⟩ := q
    refine ⟨fun i m σ H => m = ds.length - i ∧ i ≤ ds.length ∧ ∃ F E, Step b F0 H0 F H ∧ Ex F1 F ∧ Wd K b F H ∧ EnvD K b H0 F H σ E ∧ I i E,
      ⟨ds.length, by omega, Nat.zero_le _, F1, E, s.trans s1 w, Ex.refl _, w1, e.step s1, i0⟩, ?_⟩
    rintro i m σ2 H2 ⟨rfl, hi, F2, E2, s2, x2, w2, e2, q2⟩
    by_cases hlt : i < ds.length
    · refine .inr ⟨it.go i F2 H2 x2 w2 hlt, fun σ' H' => ∃ F' E', Step b F0 H0 F' H' ∧ Ex F1 F' ∧ Wd K b F' H' ∧ EnvD K b H0 F' H' σ' E' ∧ I (i + 1) E', fun σ' H' n => ⟨ds.length - (i + 1), by omega, rfl, hlt, n⟩, fun x H3 hy => ?_⟩
      obtain ⟨F3, d, s3, w3, hd, hv⟩ := it.yld i F2 H2 x H3 x2 w2 hlt hy
      refine turn i d E2 hd q2 H0 F3 H3 σ2 x w3 (e2.step s3) hv _ fun σ4 F4 H4 E4 s4 w4 e4 _ _ q4 => ?_
      have x4 : Ex F1 F4 := (x2.trans s3.ex).trans s4.ex
      exact q4 F0 H0 F4 H4 σ4 ((s2.trans s3 w2).trans s4 w3) w4 e4 _ ⟨fun σ F H E y s w e q => ⟨F, E, s, x4.trans y, w, e, q⟩, k.rt, k.rl,
        fun σ F H E y s w e q => k.nx σ F H E (x4.trans y |> fun z => s1.ex.trans z) s w e q, fun σ F H E y s w e q => ⟨F, E, s, x4.trans y, w, e, q⟩⟩
    · have hi' : i = ds.length := by omega
      subst hi'
      exact .inl ⟨it.stop _ F2 H2 x2 w2 (Nat.le_refl _), k.nx σ2 F2 H2 E2 (s1.ex.trans x2) s2 w2 e2 (fin E2 q2)⟩
end
end DL

namespace DL
open PySem PySem.Spec PyProof.Rows L2
section
variable {K : PySem.W.Frag} {b : Bg} {E : Env'} {ta tb te : TE} {c : TT} {t u : TS} {P : Po} {g : TG} {vs : List Nat}
/-! what is walked -/
theorem itl {F : Hp} {a : Addr} {xs : List V} {ds : List D} (h : F a = some (.lst xs)) (d : DvA K b F xs ds) : ItOk K b F (Itl K a) ds := by
  have hl := d.len
  refine ⟨fun i F' H' x w hi => ?_, fun i F' H' x w hi => ?_, fun i F' H' v H2 x w hi y => ?_⟩
  · exact ⟨xs, xs[i], SqL.of (w.ex a _ (x a _ h)), by simp [hl, hi]⟩
  · exact ⟨xs, SqL.of (w.ex a _ (x a _ h)), by rw [hl]; exact hi⟩
  · obtain ⟨rfl, q⟩ := y
    have e := q xs (SqL.of (w.ex a _ (x a _ h)))
    obtain ⟨z, e2, dz⟩ := d.getV e
    exact ⟨F', z, .refl, w, e2, dz.up x⟩
theorem wpi_list {Φ : List D → Prop} (h : wpe K b te E fun x => ∃ ds, x = .lst ds ∧ Φ ds) : wpi K b (iList K te) E Φ := fun H0 F H σ w e R k =>
  h H0 F H σ w e _ fun v F' H' x s' w' d q => by
    obtain ⟨ds, rfl, q⟩ := q
    cases d with
    | lst s a => exact ⟨_, rfl, ⟨_, SqL.of (w'.ex _ _ s)⟩, k _ F' H' ds s' w' (itl s a) q⟩
/-- an own list is walked; it stays as it is meanwhile -/
theorem wpi_listl {Φ : List D → Prop} (h : wpl K b te E Φ) : wpi K b (iList K te) E Φ := wpi_list (wpe_l (h.mono fun ds q => ⟨ds, rfl, q⟩))
theorem itt {F : Hp} {a : Addr} {xs : List V} {ds : List D} (h : SqT K F a xs) (d : DvA K b F xs ds) : ItOk K b F (Itt K a) ds := by
  have hl := d.len
  refine ⟨fun i F' H' x w hi => ?_, fun i F' H' x w hi => ?_, fun i F' H' v H2 x w hi y => ?_⟩
  · exact ⟨xs, xs[i], exT (x.trans w.ex) h, by simp [hl, hi]⟩
  · exact ⟨xs, exT (x.trans w.ex) h, by rw [hl]; exact hi⟩
  · obtain ⟨rfl, q⟩ := y
    have e := q xs (exT (x.trans w.ex) h)
    obtain ⟨z, e2, dz⟩ := d.getV e
    exact ⟨F', z, .refl, w, e2, dz.up x⟩
theorem wpi_tup {Φ : List D → Prop} (h : wpe K b te E fun x => ∃ ds, x = .tup ds ∧ Φ ds) : wpi K b (iTup K te) E Φ := fun H0 F H σ w e R k =>
  h H0 F H σ w e _ fun v F' H' x s' w' d q => by
    obtain ⟨ds, rfl, q⟩ := q
    cases d with
    | tup s a => exact ⟨_, rfl, ⟨_, exT w'.ex s⟩, k _ F' H' ds s' w' (itt s a) q⟩
def rangeD (lo : Int) (n : Nat) : List D := (List.range n).map fun i => D.int (lo + (i : Nat))
theorem rangeD_len (lo : Int) (n : Nat) : (rangeD lo n).length = n := by unfold rangeD; rw [List.length_map, List.length_range]
theorem rangeD_get {lo : Int} {n i : Nat} (h : i < n) : (rangeD lo n)[i]? = some (.int (lo + (i : Nat))) := by unfold rangeD; rw [List.getElem?_map, List.getElem?_range h]; rfl
theorem rangeD_at {lo : Int} {n i : Nat} {d : D} (h : (rangeD lo n)[i]? = some d) : i < n ∧ d = .int (lo + (i : Nat)) := by
  have hi : i < n := by
    have := (List.getElem?_eq_some_iff.mp h).1
    rw [rangeD_len] at this; exact this
  rw [rangeD_get hi] at h
  exact ⟨hi, (Option.some.inj h).symm⟩
theorem itr {F : Hp} (lo : Int) (n : Nat) : ItOk K b F (Itr lo n) (rangeD lo n) :=
  ⟨fun i F' H' x w hi => by rw [rangeD_len] at hi; exact hi, fun i F' H' x w hi => by rw [rangeD_len] at hi; exact hi, fun i F' H' v H2 x w hi y => by
    obtain ⟨rfl, rfl⟩ := y
    rw [rangeD_len] at hi
    exact ⟨F', _, .refl, w, rangeD_get hi, .int _⟩⟩
theorem wpi_rng1 {tr : TA} {Φ : List D → Prop} (h : wpa K b tr E fun xs => ∃ n : Int, xs = [.int n] ∧ -100000 ≤ n ∧ n ≤ 100000 ∧ Φ (rangeD 0 n.toNat)) : wpi K b (iRng1 tr) E Φ := fun H0 F H σ w e R k =>
  h H0 F H σ w e _ fun us F' H' xs s' w' d q => by
    obtain ⟨n, rfl, h1, h2, q⟩ := q
    cases d with
    | cons d1 d => cases d; cases d1; exact ⟨n, rfl, by omega, by omega, k _ F' H' _ s' w' (itr 0 _) q⟩
theorem wpi_rng2 {tr : TA} {Φ : List D → Prop} (h : wpa K b tr E fun xs => ∃ m n : Int, xs = [.int m, .int n] ∧ -100000 ≤ m ∧ m ≤ 100000 ∧ -100000 ≤ n ∧ n ≤ 100000 ∧ Φ (rangeD m (n - m).toNat)) : wpi K b (iRng2 tr) E Φ := fun H0 F H σ w e R k =>
  h H0 F H σ w e _ fun us F' H' xs s' w' d q => by
    obtain ⟨m, n, rfl, h1, h2, h3, h4, q⟩ := q
    cases d with
    | cons d1 d => cases d with
      | cons d2 d => cases d; cases d1; cases d2; exact ⟨m, n, rfl, ⟨by omega, by omega, by omega, by omega⟩, k _ F' H' _ s' w' (itr m _) q⟩
/-- enumerate -/
def enumD (ds : List D) : List D := ds.zipIdx.map fun p => D.tup [.int (p.2 : Nat), p.1]
theorem enumD_len (ds : List D) : (enumD ds).length = ds.length := by unfold enumD; rw [List.length_map, List.length_zipIdx]
theorem enumD_get {ds : List D} {i : Nat} : (enumD ds)[i]? = (ds[i]?).map fun d => D.tup [.int (i : Nat), d] := by
  unfold enumD
  rw [List.getElem?_map, List.getElem?_zipIdx]
  cases ds[i]? with
  | none => rfl
  | some d => simp
theorem wpi_enum {tr : TA} {Φ : List D → Prop} (h : wpa K b tr E fun xs => ∃ ds, xs = [.lst ds] ∧ Φ (enumD ds)) : wpi K b (iEnum K tr) E Φ := fun H0 F H σ w e R k =>
  h H0 F H σ w e _ fun us F' H' xs s' w' d q => by
    obtain ⟨ds, rfl, q⟩ := q
    cases d with
    | cons d1 d =>
      cases d
      cases d1 with
      | lst s a =>
        rename_i ad zs
        refine ⟨ad, zs, rfl, SqL.of (w'.ex _ _ s), k _ F' H' _ s' w' ⟨fun i F2 H2 x w2 hi => ?_, fun i F2 H2 x w2 hi => ?_, fun i F2 H2 v H3 x w2 hi y => ?_⟩ q⟩
        · rw [enumD_len] at hi
          exact ⟨zs, zs[i]'(by rw [a.len]; exact hi), SqL.of (w2.ex _ _ (x _ _ s)), by simp [a.len, hi]⟩
        · rw [enumD_len] at hi
          exact ⟨zs, SqL.of (w2.ex _ _ (x _ _ s)), by rw [a.len]; exact hi⟩
        · obtain ⟨T, z, rfl, nT, rfl, f⟩ := y
          have e := f zs (SqL.of (w2.ex _ _ (x _ _ s)))
          obtain ⟨dz, e2, hz⟩ := a.getV e
          obtain ⟨w3, s3⟩ := w2.newD (o := .tup [.int (i : Nat), z]) nT
          exact ⟨_, _, s3, w3, by rw [enumD_get, e2]; rfl, .tup (.inl (.inl upd_same)) (.cons (.int _) (.one (hz.up (x.trans s3.ex))))⟩
/-- zip of two lists -/
def zipD (ds es : List D) : List D := (ds.zip es).map fun p => D.tup [p.1, p.2]
theorem zipD_len (ds es : List D) : (zipD ds es).length = min ds.length es.length := by unfold zipD; rw [List.length_map, List.length_zip]
theorem zipD_get {ds es : List D} {i : Nat} {x y : D} (h1 : ds[i]? = some x) (h2 : es[i]? = some y) : (zipD ds es)[i]? = some (.tup [x, y]) := by
  unfold zipD
  rw [List.getElem?_map, (List.getElem?_zip_eq_some (z := (x, y))).mpr ⟨h1, h2⟩]
  rfl
theorem wpi_zip {tr : TA} {Φ : List D → Prop} (h : wpa K b tr E fun xs => ∃ ds es, xs = [.lst ds, .lst es] ∧ Φ (zipD ds es)) : wpi K b (iZip K tr) E Φ := fun H0 F H σ w e R k =>
  h H0 F H σ w e _ fun us F' H' xs s' w' d q => by
    obtain ⟨ds, es, rfl, q⟩ := q
    cases d with
    | cons d1 d =>
      cases d with
      | cons d2 d =>
        cases d
        cases d1 with
        | lst s a =>
          cases d2 with
          | lst s2 a2 =>
            rename_i ad zs ad2 zs2
            refine ⟨ad, ad2, zs, zs2, rfl, SqL.of (w'.ex _ _ s), SqL.of (w'.ex _ _ s2), k _ F' H' _ s' w' ⟨fun i F2 H2 x w2 hi => ?_, fun i F2 H2 x w2 hi => ?_, fun i F2 H2 v H3 x w2 hi y => ?_⟩ q⟩
            · rw [zipD_len] at hi
              exact ⟨zs, zs2, zs[i]'(by rw [a.len]; omega), zs2[i]'(by rw [a2.len]; omega), SqL.of (w2.ex _ _ (x _ _ s)), SqL.of (w2.ex _ _ (x _ _ s2)), by simp, by simp⟩
            · rw [zipD_len] at hi
              exact ⟨zs, zs2, SqL.of (w2.ex _ _ (x _ _ s)), SqL.of (w2.ex _ _ (x _ _ s2)), by rw [a.len, a2.len]; omega⟩
            · obtain ⟨T, z, z2, rfl, nT, rfl, f, f2⟩ := y
              obtain ⟨dz, e2, hz⟩ := a.getV (f zs (SqL.of (w2.ex _ _ (x _ _ s))))
              obtain ⟨dz2, e3, hz2⟩ := a2.getV (f2 zs2 (SqL.of (w2.ex _ _ (x _ _ s2))))
              obtain ⟨w3, s3⟩ := w2.newD (o := .tup [z, z2]) nT
              exact ⟨_, _, s3, w3, zipD_get e2 e3, .tup (.inl (.inl upd_same)) (.cons (hz.up (x.trans s3.ex)) (.one (hz2.up (x.trans s3.ex))))⟩
/-! comprehensions -/
def wipeE (E : Env') : List Nat → Env'
  | [] => E
  | v :: vs => (wipeE E vs).set v .u
theorem wipeE_len (E : Env') : ∀ vs, (wipeE E vs).length = E.length
  | [] => rfl
  | v :: vs => by unfold wipeE; rw [List.length_set, wipeE_len E vs]
theorem wipeE_at {E : Env'} : ∀ {vs : List Nat} {i : Nat} {n : En}, (wipeE E vs)[i]? = some n → n = .u ∨ (E[i]? = some n ∧ i ∉ vs)
  | [], _, _, h => .inr ⟨h, by simp⟩
  | v :: vs, i, n, h => by
    unfold wipeE at h
    rcases set_get h with ⟨_, q⟩ | ⟨q, h⟩
    · exact .inl q.symm
    · rcases wipeE_at h with z | ⟨z1, z2⟩
      · exact .inl z
      · exact .inr ⟨z1, by simp only [List.mem_cons, not_or]; exact ⟨fun e => q e.symm, z2⟩⟩
theorem wipe_other (σ : L2.St) : ∀ (vs : List Nat) (i : Nat), i ∉ vs → (wipe σ vs)[i]? = σ[i]?
  | [], _, _ => rfl
  | v :: vs, i, h => by
    simp only [List.mem_cons, not_or] at h
    unfold wipe
    rw [List.getElem?_set_ne (fun e => h.1 e.symm), wipe_other σ vs i h.2]
theorem wipe_same {σ τ : L2.St} {vs : List Nat} (hl : σ.length = τ.length) (h : ∀ j : Nat, j ∉ vs → σ[j]? = τ[j]?) : wipe σ vs = wipe τ vs := by
  have key : ∀ (ws : List Nat) (ρ : L2.St) (i : Nat), i ∈ ws → i < ρ.length → (wipe ρ ws)[i]? = some none := by
    intro ws ρ
    induction ws with
    | nil => intro i hi; simp at hi
    | cons v ws ih =>
      intro i hi hlt
      unfold wipe
      by_cases hv : v = i
      · subst hv; rw [List.getElem?_set_self (by rw [wipe_length]; exact hlt)]
      · rw [List.getElem?_set_ne hv]
        rcases List.mem_cons.mp hi with e | e
        · exact absurd e.symm hv
        · exact ih i e hlt
  apply List.ext_getElem?
  intro i
  by_cases hi : i ∈ vs
  · by_cases hlt : i < σ.length
    · rw [key vs σ i hi hlt, key vs τ i hi (by omega)]
    · rw [List.getElem?_eq_none (by rw [wipe_length]; omega), List.getElem?_eq_none (by rw [wipe_length]; omega)]
  · rw [wipe_other σ vs i hi, wipe_other τ vs i hi, h i hi]
theorem EnvD.wipe {H0 F H : Hp} {σ : L2.St} (e : EnvD K b H0 F H σ E) (vs : List Nat) : EnvD K b H0 F H (L2.wipe σ vs) (wipeE E vs) := by
  refine ⟨by rw [wipe_length, wipeE_len, e.len], fun i x h => ?_, fun i ds h => ?_, fun i j ds es p h1 h2 h3 h4 => ?_⟩
  · rcases wipeE_at h with z | ⟨z1, z2⟩
    · cases z
    · obtain ⟨v, q1, q2⟩ := e.dat i x z1
      exact ⟨v, by rw [wipe_other σ vs i z2]; exact q1, q2⟩
  · rcases wipeE_at h with z | ⟨z1, z2⟩
    · cases z
    · obtain ⟨p, us, q1, q2⟩ := e.own i ds z1
      exact ⟨p, us, by rw [wipe_other σ vs i z2]; exact q1, q2⟩
  · rcases wipeE_at h1 with z | ⟨z1, z2⟩
    · cases z
    · rcases wipeE_at h2 with y | ⟨y1, y2⟩
      · cases y
      · rw [wipe_other σ vs i z2] at h3
        rw [wipe_other σ vs j y2] at h4
        exact e.inj i j ds es p z1 y1 h3 h4
theorem wpl_lc {wi : TI} {tt : TT} {Φ : List D → Prop} (h : wpi K b wi E fun ds => ds.length ≤ 100000 ∧ ∃ I : Nat → List D → Prop, I 0 [] ∧
      (∀ (i : Nat) d acc, ds[i]? = some d → acc.length ≤ i → I i acc → wpg K b vs g d (wipeE E vs) fun E2 => wpt K b tt E2 fun r => if r = true then wpe K b te E2 fun y => I (i + 1) (acc ++ [y]) else I (i + 1) acc) ∧ ∀ acc, I ds.length acc → Φ acc) :
    wpl K b (tLc wi g tt te vs) E Φ := fun H0 F H σ w e Q k =>
  h H0 F H σ w e _ fun J F1 H1 ds s1 w1 it q => by
    intro Dn hDn
    obtain ⟨hz, I, i0, turn, fin⟩ := q
    have F1n := w1.outN hDn
    have nbD := w1.nb hDn
    obtain ⟨w1', s1'⟩ := w1.newO (o := .lst []) hDn
    refine ⟨fun i m H' => m = ds.length - i ∧ i ≤ ds.length ∧ ∃ F' us acc, Step b F1 H1 F' H' ∧ Wd K b F' H' ∧ F' Dn = none ∧ H' Dn = some (.lst us) ∧ DvA K b F' us acc ∧ acc.length ≤ i ∧ I i acc,
      ⟨ds.length, by omega, Nat.zero_le _, F1, [], [], s1', w1', F1n, upd_same, .nil, Nat.le_refl _, i0⟩, ?_⟩
    rintro i m H2 ⟨rfl, hi, F2, us, acc, s2, w2, n2, hD2, d2, l2, q2⟩
    by_cases hlt : i < ds.length
    · refine .inr ⟨it.go i F2 H2 s2.ex w2 hlt, fun H' => ∃ F' us acc, Step b F1 H1 F' H' ∧ Wd K b F' H' ∧ F' Dn = none ∧ H' Dn = some (.lst us) ∧ DvA K b F' us acc ∧ acc.length ≤ i + 1 ∧ I (i + 1) acc,
        fun H' n => ⟨ds.length - (i + 1), by omega, rfl, hlt, n⟩, fun x H3 hy => ?_⟩
      obtain ⟨F3, d, s3, w3, hd, hv⟩ := it.yld i F2 H2 x H3 s2.ex w2 hlt hy
      have s13 := s2.trans s3 w2
      refine turn i d acc hd l2 q2 H0 F3 H3 (wipe σ vs) x w3 ((e.step (s1.trans s13 w1)).wipe vs) hv _ fun σ4 F4 H4 E4 s4 w4 e4 l4 j4 q4 => ?_
      refine ⟨wipe_same l4 (fun j hj => j4 j hj) |>.trans ?_, ?_⟩
      · exact wipe_same (wipe_length ..) fun j hj => wipe_other σ vs j hj
      refine q4 H0 F4 H4 σ4 w4 e4 _ fun r F5 H5 s5 w5 q5 => ?_
      have s25 := (s3.trans s4 w3).trans s5 w4
      have hD5 := s25.keep Dn _ nbD hD2
      have n5 := s25.out Dn n2 (fun z => by rw [hD2] at z; cases z)
      cases r with
      | false =>
        exact ⟨F5, us, acc, s2.trans s25 w2, w5, n5, hD5, d2.up s25.ex, Nat.le_succ_of_le l2, q5⟩
      | true =>
        refine q5 H0 F5 H5 σ4 w5 (e4.step s5) _ fun y F6 H6 yd s6 w6 d6 q6 => ?_
        have hD6 := s6.keep Dn _ nbD hD5
        have n6 := s6.out Dn n5 (fun z => by rw [hD5] at z; cases z)
        have s26 := s25.trans s6 w5
        refine ⟨us, hD6, by rw [d2.len]; exact Nat.lt_of_le_of_lt (Nat.le_trans l2 (Nat.le_of_lt hlt)) (Nat.lt_of_le_of_lt hz (by decide)), F6, us ++ [y], acc ++ [yd], ?_, w6.turn n6 nbD, n6, upd_same, (d2.up s26.ex).app (.one d6), by rw [List.length_append]; exact Nat.succ_le_succ l2, q6⟩
        have s16 := s2.trans s26 w2
        exact ⟨s16.ex, fun a o n e => by rw [upd_ne (ne_of_none e hDn)]; exact s16.keep a o n e, s16.out⟩
    · have hi' : i = ds.length := by omega
      subst hi'
      exact .inl ⟨it.stop _ F2 H2 s2.ex w2 (Nat.le_refl _), k Dn us F2 H2 acc (s1.trans s2 w1) w2 (s1.fresh w1 hDn) n2 hD2 d2 (fin acc q2)⟩
end
end DL

namespace DL
open PySem PySem.Spec PyProof.Rows L2
/-! built-ins over data, by values -/
section
variable {X : Cx}
/-- repr(x), x plain data -/
def rRepr (K : PySem.W.Frag) : List V → Hp → VK → Prop := fun xs H Q => ∃ x d, xs = [x] ∧ Dp K H x d ∧ d.showable = true ∧ d.hasDict = false ∧ d.depth ≤ 60 ∧ d.shown.length ≤ sizeLine ∧ Q (.str d.shown) H
theorem call_reprD (hg : X.A.guards = some []) (hu : X.A.units + 100 < cLine) : CallR X (.builtin "repr") (rRepr X.K) := by
  intro pins s σ H xs us Q I r h
  obtain ⟨x, d, rfl, hd, h1, h2, h3, h4, q⟩ := h
  obtain ⟨u, rfl, ru⟩ := vals1 r
  obtain ⟨as, rd⟩ := Dp.reads I d x u hd ru
  cases d with
  | none => cases hd; cases ru; exact PySem.P.repr_of_none ⟨.str _, H, I.tok _, ⟨_, rfl⟩, q⟩
  | bool c => cases hd; cases ru; exact PySem.P.repr_of_bool ⟨.str _, H, I.tok _, ⟨_, rfl⟩, q⟩
  | int i =>
    cases hd
    obtain ⟨t, rfl⟩ := ru
    exact PySem.P.repr_of_int (by simpa [PyData.showable] using h1) ⟨.str _, H, I.tok _, ⟨_, rfl⟩, q⟩
  | str y =>
    cases hd
    obtain ⟨t, rfl⟩ := ru
    exact PySem.P.repr_of_str ⟨.str _, H, I.tok _, ⟨_, rfl⟩, q⟩ h4
  | dict kvs => cases hd
  | list ds =>
    cases hd with
    | lst e a =>
      cases ru
      exact repr_of_reads' rd h1 (PyData.noDict_hsm h2) hg (by omega) (fun _ _ z => z) (fun h' t tk hk => ⟨.str _, H, I.kept (t' := tk) hk, ⟨_, rfl⟩, q⟩) h4
  | tuple ds =>
    cases hd with
    | tup e a =>
      cases ru
      exact repr_of_reads' rd h1 (PyData.noDict_hsm h2) hg (by omega) (fun _ _ z => z) (fun h' t tk hk => ⟨.str _, H, I.kept (t' := tk) hk, ⟨_, rfl⟩, q⟩) h4
/-- sorted(xs), xs data that are alike -/
def rSrt (K : PySem.W.Frag) : List V → Hp → VK → Prop := fun vs H Q => ∃ (a : Addr) (xs : List V) (ds : List PyData), vs = [.ref a] ∧ SqL K H a xs ∧ DpAll K H xs ds ∧ PySem.W.AllAlike ds ∧ PySem.W.Sortable ds ∧ (∀ d ∈ ds, d.depth ≤ 60) ∧
  ∀ p, H p = none → Q (.ref p) (upd H p (.lst (((xs.zip ds).mergeSort (PySem.W.dataLe false Prod.snd)).map Prod.fst)))
theorem each_zip {pins : List (Addr × Obj)} {σ : L2.St} {H : Hp} {s : Shared} (I : L2.Inv X pins σ H s) : ∀ {xs : List V} {ds : List PyData} {us : List Value}, DpAll X.K H xs ds → Vals xs us →
    PySem.W.EachIs (fun u (p : V × PyData) => RelV p.1 u) us (xs.zip ds) ∧ PySem.W.EachIs (fun u (p : V × PyData) => ∃ as, Reads s.heap u p.2 as) us (xs.zip ds)
  | [], _, _, h, r => by cases h; cases r; exact ⟨.nil, .nil⟩
  | x :: xs, _, _, h, r => by
    cases h with
    | cons h1 h2 => cases r with
      | cons r1 r2 =>
        obtain ⟨a, b⟩ := each_zip I h2 r2
        exact ⟨.cons r1 a, .cons (Dp.reads I _ _ _ h1 r1) b⟩
theorem zip_snd : ∀ {xs : List V} {ds : List PyData} {K : PySem.W.Frag} {H : Hp}, DpAll K H xs ds → (xs.zip ds).map Prod.snd = ds ∧ xs.length = ds.length
  | [], _, _, _, h => by cases h; exact ⟨rfl, rfl⟩
  | x :: xs, _, _, _, h => by
    cases h with
    | cons h1 h2 =>
      obtain ⟨a, b⟩ := zip_snd h2
      exact ⟨by rw [List.zip_cons_cons, List.map_cons, a], by rw [List.length_cons, List.length_cons, b]⟩
theorem each_vals : ∀ {us : List Value} {ps : List (V × PyData)}, PySem.W.EachIs (fun u (p : V × PyData) => RelV p.1 u) us ps → Vals (ps.map Prod.fst) us
  | _, _, .nil => .nil
  | _, _, .cons h t => .cons h (each_vals t)
theorem call_srt (hu : X.A.units + 100 < cLine) : CallR X (.builtin "sorted") (rSrt X.K) := by
  intro pins s σ H vs us Q I r h
  obtain ⟨a, xs, ds, rfl, hs, hd, h1, h2, h3, q⟩ := h
  obtain ⟨its, rv, hl, hz⟩ := I.list hs
  rw [Vals.ref1 r]
  obtain ⟨e1, e2⟩ := each_zip I hd rv
  obtain ⟨z1, z2⟩ := zip_snd hd
  have hlen : (xs.zip ds).length = xs.length := by rw [List.length_zip]; omega
  refine PySem.W.sorted_data (enc := Prod.snd) hl.isList e1 e2 (by rw [z1]; exact h1) (by rw [z1]; exact h2) (by rw [hlen]; exact hz) (fun p hp => ?_) fun out ho hout => ?_
  · have : p.2 ∈ ds := by rw [← z1]; exact List.mem_map.mpr ⟨p, hp, rfl⟩
    have := h3 _ this
    omega
  · obtain ⟨ep, he'⟩ := PyProof.Rows.sortedAll_at s.heap its out.toArray
    have hv := each_vals hout
    refine ⟨.ref _, upd H (s.heap.objs.size + 1) (.lst _), I.laid (t' := s.toks) (fun _ _ => PyProof.Rows.sortedAll_old) (Nat.le_succ _) ⟨?_, out, ep, hv, he'⟩, rfl, q _ (I.hok.fresh (Nat.le_succ _))⟩
    rw [List.length_map, List.length_mergeSort, hlen]
    exact hz
/-- o[i] of a list, as an augmented assignment reads it -/
theorem get_list : PGet X (rIxL X.K) := by
  intro pins s σ H o i ov iv Q I ro ri h
  obtain ⟨p, xs, n, z, rfl, rfl, hq, he, q⟩ := h
  cases ro
  obtain ⟨t, rfl⟩ := ri
  obtain ⟨its, r, pl, hz⟩ := I.list hq
  obtain ⟨j, h1, h2, h3, h4, h5⟩ := atI_get he
  obtain ⟨w, ew, rw'⟩ := r.get h2
  have hl := r.length
  have hn := line63
  have fin : EP X pins σ Q w s := ⟨z, H, I, rw', q⟩
  by_cases h0 : 0 ≤ n
  · have hj : n.toNat = j := by
      rw [seqIndex_of h0 h5] at h1
      exact Option.some.inj h1
    exact PySem.wpAny_getItem_list pl.isList h0 (by omega) (by rw [hj]; simpa using ew) fin
  · have hj : (n + (its.toArray.size : Int)).toNat = j := by
      rw [seqIndex_neg (by omega) h4] at h1
      rw [List.size_toArray, ← hl]
      exact Option.some.inj h1
    exact PySem.wpAny_getItem_list_neg pl.isList (by omega) (by rw [List.size_toArray] <;> omega) (by omega) (by rw [hj]; simpa using ew) fin
end
end DL

namespace DL
open PySem PySem.Spec PyProof.Rows L2
/-! plain data -/
mutual
def D.py : D → PyData
  | .bl c => .bool c | .int i => .int i | .str x => .str x
  | .lst ds => .list (D.pyA ds) | .tup ds => .tuple (D.pyA ds) | .non => .none
  | .obj _ _ _ => .none | .bag => .none | .fn _ => .none
def D.pyA : List D → List PyData
  | [] => [] | d :: ds => d.py :: D.pyA ds
end
mutual
/-- of a depth up to n, texts of true signs -/
def D.ok : Nat → D → Bool
  | _, .non => true | _, .bl _ => true | _, .int _ => true | _, .str x => x.cps.all (· < 0x110000)
  | n + 1, .lst ds => D.okA n ds | n + 1, .tup ds => D.okA n ds
  | 0, .lst _ => false | 0, .tup _ => false | _, .obj _ _ _ => false | _, .bag => false | _, .fn _ => false
def D.okA : Nat → List D → Bool
  | _, [] => true | n, d :: ds => D.ok n d && D.okA n ds
end
theorem okA_of {n : Nat} : ∀ {ds : List D}, (∀ d ∈ ds, D.ok n d = true) → D.okA n ds = true
  | [], _ => by unfold D.okA; rfl
  | d :: ds, h => by
    unfold D.okA
    rw [h d List.mem_cons_self, okA_of fun z hz => h z (List.mem_cons_of_mem _ hz)]; rfl
theorem okA_mem {n : Nat} : ∀ {ds : List D}, D.okA n ds = true → ∀ d ∈ ds, D.ok n d = true
  | [], _, _, hd => by cases hd
  | e :: ds, h, d, hd => by
    unfold D.okA at h
    rw [Bool.and_eq_true] at h
    rcases List.mem_cons.mp hd with rfl | hd
    · exact h.1
    · exact okA_mem h.2 d hd
mutual
theorem ok_lay : ∀ (n : Nat) (d : D), D.ok n d = true → d.py.canLay0 = true ∧ d.py.depth ≤ n ∧ d.py.hasDict = false
  | _, .non, _ => ⟨rfl, Nat.zero_le _, rfl⟩
  | _, .bl _, _ => ⟨rfl, Nat.zero_le _, rfl⟩
  | _, .int _, _ => ⟨rfl, Nat.zero_le _, rfl⟩
  | _, .str x, h => ⟨by unfold D.ok at h; unfold D.py PyData.canLay0; exact h, Nat.zero_le _, rfl⟩
  | n + 1, .lst ds, h => by
    unfold D.ok at h
    obtain ⟨h1, h2, h3⟩ := okA_lay n ds h
    exact ⟨by unfold D.py PyData.canLay0; exact h1, by unfold D.py PyData.depth; omega, by unfold D.py PyData.hasDict; exact h3⟩
  | n + 1, .tup ds, h => by
    unfold D.ok at h
    obtain ⟨h1, h2, h3⟩ := okA_lay n ds h
    exact ⟨by unfold D.py PyData.canLay0; exact h1, by unfold D.py PyData.depth; omega, by unfold D.py PyData.hasDict; exact h3⟩
  | 0, .lst _, h => by unfold D.ok at h; cases h
  | 0, .tup _, h => by unfold D.ok at h; cases h
  | 0, .obj _ _ _, h => by unfold D.ok at h; cases h
  | 0, .bag, h => by unfold D.ok at h; cases h
  | 0, .fn _, h => by unfold D.ok at h; cases h
  | _ + 1, .obj _ _ _, h => by unfold D.ok at h; cases h
  | _ + 1, .bag, h => by unfold D.ok at h; cases h
  | _ + 1, .fn _, h => by unfold D.ok at h; cases h
theorem okA_lay : ∀ (n : Nat) (ds : List D), D.okA n ds = true → PyData.canLayAll0 (D.pyA ds) = true ∧ PyData.depthAll (D.pyA ds) ≤ n ∧ PyData.hasDictAll (D.pyA ds) = false
  | _, [], _ => ⟨rfl, Nat.zero_le _, rfl⟩
  | n, d :: ds, h => by
    unfold D.okA at h
    rw [Bool.and_eq_true] at h
    obtain ⟨a1, a2, a3⟩ := ok_lay n d h.1
    obtain ⟨b1, b2, b3⟩ := okA_lay n ds h.2
    refine ⟨?_, ?_, ?_⟩
    · unfold D.pyA PyData.canLayAll0; rw [a1, b1]; rfl
    · unfold D.pyA PyData.depthAll; omega
    · unfold D.pyA PyData.hasDictAll; rw [a3, b3]; rfl
end
theorem pyA_map : ∀ ds : List D, D.pyA ds = ds.map D.py
  | [] => rfl
  | d :: ds => by unfold D.pyA; rw [pyA_map ds]; rfl
mutual
theorem Dv.dp {K : PySem.W.Frag} {b : Bg} {F : Hp} : ∀ (n : Nat) (d : D) (v : V), D.ok n d = true → Dv K b F v d → Dp K F v d.py
  | _, .non, _, _, h => by cases h; exact .non
  | _, .bl _, _, _, h => by cases h; exact .bl _
  | _, .int _, _, _, h => by cases h; exact .int _
  | _, .str _, _, _, h => by cases h; exact .str _
  | n + 1, .lst ds, _, o, h => by
    unfold D.ok at o
    cases h with | lst s a => unfold D.py; exact .lst (SqL.of s) (DvA.dp n ds _ o a)
  | n + 1, .tup ds, _, o, h => by
    unfold D.ok at o
    cases h with | tup s a => unfold D.py; exact .tup s (DvA.dp n ds _ o a)
  | 0, .lst _, _, o, _ => by unfold D.ok at o; cases o
  | 0, .tup _, _, o, _ => by unfold D.ok at o; cases o
  | 0, .obj _ _ _, _, o, _ => by unfold D.ok at o; cases o
  | 0, .bag, _, o, _ => by unfold D.ok at o; cases o
  | 0, .fn _, _, o, _ => by unfold D.ok at o; cases o
  | _ + 1, .obj _ _ _, _, o, _ => by unfold D.ok at o; cases o
  | _ + 1, .bag, _, o, _ => by unfold D.ok at o; cases o
  | _ + 1, .fn _, _, o, _ => by unfold D.ok at o; cases o
theorem DvA.dp {K : PySem.W.Frag} {b : Bg} {F : Hp} : ∀ (n : Nat) (ds : List D) (vs : List V), D.okA n ds = true → DvA K b F vs ds → DpAll K F vs (D.pyA ds)
  | _, [], _, _, h => by cases h; exact .nil
  | n, d :: ds, _, o, h => by
    unfold D.okA at o
    rw [Bool.and_eq_true] at o
    cases h with
    | cons x y => exact .cons (Dv.dp n d _ o.1 x) (DvA.dp n ds _ o.2 y)
end
mutual
theorem dpUp {K : PySem.W.Frag} {F G : Hp} (e : Ex F G) : ∀ (d : PyData) (v : V), Dp K F v d → Dp K G v d
  | .none, _, h => by cases h; exact .non
  | .bool _, _, h => by cases h; exact .bl _
  | .int _, _, h => by cases h; exact .int _
  | .str _, _, h => by cases h; exact .str _
  | .list ds, _, h => by cases h with | lst s a => exact .lst (exL e s) (dpUpA e ds _ a)
  | .tuple ds, _, h => by cases h with | tup s a => exact .tup (exT e s) (dpUpA e ds _ a)
  | .dict _, _, h => by cases h
theorem dpUpA {K : PySem.W.Frag} {F G : Hp} (e : Ex F G) : ∀ (ds : List PyData) (vs : List V), DpAll K F vs ds → DpAll K G vs ds
  | [], _, h => by cases h; exact .nil
  | d :: ds, _, h => by cases h with | cons x y => exact .cons (dpUp e d _ x) (dpUpA e ds _ y)
end
/-- == of plain data -/
def D.eq (x y : D) : Bool := PyData.eqv x.py y.py
section
variable {K : PySem.W.Frag} {b : Bg} {Φ : D → Prop}
/-! operators -/
theorem rd_I0i {f : Int → Int → Int} {i j : Int} (q : Φ (.int (f i j))) : rd2 K b (rI0 fun i j => .int (f i j)) (.int i) (.int j) Φ := fun F H v u w d1 d2 Q k => by
  cases d1; cases d2; exact ⟨i, j, rfl, rfl, k _ F H _ .refl w (.int _) q⟩
theorem rd_I0b {f : Int → Int → Bool} {i j : Int} (q : Φ (.bl (f i j))) : rd2 K b (rI0 fun i j => .bl (f i j)) (.int i) (.int j) Φ := fun F H v u w d1 d2 Q k => by
  cases d1; cases d2; exact ⟨i, j, rfl, rfl, k _ F H _ .refl w (.bl _) q⟩
theorem rd_I {C : Int → Int → Prop} {f : Int → Int → Int} {i j : Int} (c : C i j) (q : Φ (.int (f i j))) : rd2 K b (rI C fun i j => .int (f i j)) (.int i) (.int j) Φ := fun F H v u w d1 d2 Q k => by
  cases d1; cases d2; exact ⟨i, j, rfl, rfl, c, k _ F H _ .refl w (.int _) q⟩
theorem rd_neg {f : Int → Int} {i : Int} (q : Φ (.int (f i))) : rd1 K b (rU fun i => .int (f i)) (.int i) Φ := fun F H v w d1 Q k => by
  cases d1; exact ⟨i, rfl, k _ F H _ .refl w (.int _) q⟩
theorem rd_eqD {x y : D} (n : Nat) (hn : n ≤ 60) (h1 : D.ok n x = true) (h2 : D.ok n y = true) (q : Φ (.bl (x.eq y))) : rd2 K b (rEqD K) x y Φ := fun F H v u w d1 d2 Q k => by
  obtain ⟨a1, a2, _⟩ := ok_lay n x h1
  obtain ⟨b1, b2, _⟩ := ok_lay n y h2
  refine ⟨x.py, y.py, dpUp w.ex _ _ (Dv.dp n x v h1 d1), dpUp w.ex _ _ (Dv.dp n y u h2 d2), ?_, ?_, k _ F H _ .refl w (.bl _) q⟩
  · unfold SeqAt.shaped; rw [a1]; simp; omega
  · unfold SeqAt.shaped; rw [b1]; simp; omega
theorem rd_neD {x y : D} (n : Nat) (hn : n ≤ 60) (h1 : D.ok n x = true) (h2 : D.ok n y = true) (q : Φ (.bl (!x.eq y))) : rd2 K b (rNeD K) x y Φ := fun F H v u w d1 d2 Q k => by
  obtain ⟨a1, a2, _⟩ := ok_lay n x h1
  obtain ⟨b1, b2, _⟩ := ok_lay n y h2
  refine ⟨x.py, y.py, dpUp w.ex _ _ (Dv.dp n x v h1 d1), dpUp w.ex _ _ (Dv.dp n y u h2 d2), ?_, ?_, k _ F H _ .refl w (.bl _) q⟩
  · unfold SeqAt.shaped; rw [a1]; simp; omega
  · unfold SeqAt.shaped; rw [b1]; simp; omega
theorem rd_notIn {x : D} {ds : List D} (n : Nat) (hn : n ≤ 60) (h1 : D.ok n x = true) (h2 : D.ok n (.lst ds) = true) (q : Φ (.bl (!ds.any fun z => z.eq x))) : rd2 K b (rNotInD K) x (.lst ds) Φ := fun F H v u w d1 d2 Q k => by
  obtain ⟨a1, a2, _⟩ := ok_lay n x h1
  obtain ⟨b1, b2, _⟩ := ok_lay n _ h2
  have hl : D.py (.lst ds) = .list (ds.map D.py) := by unfold D.py; rw [pyA_map]
  refine ⟨x.py, ds.map D.py, dpUp w.ex _ _ (Dv.dp n x v h1 d1), hl ▸ dpUp w.ex _ _ (Dv.dp n _ u h2 d2), ?_, ?_, ?_⟩
  · unfold SeqAt.shaped; rw [a1]; simp; omega
  · rw [← hl]; unfold SeqAt.shaped; rw [b1]; simp; omega
  · have e : ((ds.map D.py).any fun z => PyData.eqv z x.py) = ds.any fun z => z.eq x := by rw [List.any_map]; rfl
    rw [e]; exact k _ F H _ .refl w (.bl _) q
theorem rd_in {x : D} {ds : List D} (n : Nat) (hn : n ≤ 60) (h1 : D.ok n x = true) (h2 : D.ok n (.lst ds) = true) (q : Φ (.bl (ds.any fun z => z.eq x))) : rd2 K b (rInD K) x (.lst ds) Φ := fun F H v u w d1 d2 Q k => by
  obtain ⟨a1, a2, _⟩ := ok_lay n x h1
  obtain ⟨b1, b2, _⟩ := ok_lay n _ h2
  have hl : D.py (.lst ds) = .list (ds.map D.py) := by unfold D.py; rw [pyA_map]
  refine ⟨x.py, ds.map D.py, dpUp w.ex _ _ (Dv.dp n x v h1 d1), hl ▸ dpUp w.ex _ _ (Dv.dp n _ u h2 d2), ?_, ?_, ?_⟩
  · unfold SeqAt.shaped; rw [a1]; simp; omega
  · rw [← hl]; unfold SeqAt.shaped; rw [b1]; simp; omega
  · have e : ((ds.map D.py).any fun z => PyData.eqv z x.py) = ds.any fun z => z.eq x := by rw [List.any_map]; rfl
    rw [e]; exact k _ F H _ .refl w (.bl _) q
theorem atI_dv {F : Hp} {vs : List V} {ds : List D} {i : Int} {d : D} (h : DvA K b F vs ds) (e : atI ds i = some d) : ∃ v, atI vs i = some v ∧ Dv K b F v d := by
  unfold atI at e ⊢
  rw [h.len]
  cases q : ixN ds.length i with
  | none => rw [q] at e; cases e
  | some j =>
    rw [q] at e
    obtain ⟨v, h1, h2⟩ := h.get (i := j) (d := d) e
    exact ⟨v, h1, h2⟩
theorem rd_ixL {ds : List D} {i : Int} {d : D} (e : atI ds i = some d) (q : Φ d) : rd2 K b (rIxL K) (.lst ds) (.int i) Φ := fun F H v u w d1 d2 Q k => by
  cases d1 with
  | lst s a =>
    cases d2
    obtain ⟨z, e1, dz⟩ := atI_dv a e
    exact ⟨_, _, i, z, rfl, rfl, SqL.of (w.ex _ _ s), e1, k z F H _ .refl w dz q⟩
theorem rd_ixT {ds : List D} {i : Int} {d : D} (e : atI ds i = some d) (q : Φ d) : rd2 K b (rIxT K) (.tup ds) (.int i) Φ := fun F H v u w d1 d2 Q k => by
  cases d1 with
  | tup s a =>
    cases d2
    obtain ⟨z, e1, dz⟩ := atI_dv a e
    exact ⟨_, _, i, z, rfl, rfl, exT w.ex s, e1, k z F H _ .refl w dz q⟩
theorem rd_cat {ds es : List D} {Φ : List D → Prop} (hz : ds.length + es.length ≤ 100000) (q : Φ (ds ++ es)) : rd2l K b rCat (.lst ds) (.lst es) Φ := fun F H v u w d1 d2 Q k => by
  cases d1 with
  | lst s a =>
    cases d2 with
    | lst s2 a2 =>
      refine ⟨_, _, _, _, rfl, rfl, w.ex _ _ s, w.ex _ _ s2, by rw [a.len, a2.len]; exact Nat.le_trans hz (by decide), fun p hp => ?_⟩
      obtain ⟨w2, s2⟩ := w.newO (o := .lst _) hp
      exact k p _ F _ _ s2 w2 hp (w.outN hp) upd_same (a.app a2) q
theorem rd_catT {ds es : List D} (h0 : ds ≠ []) (hz : ds.length + es.length ≤ 100000) (q : Φ (.tup (ds ++ es))) : rd2 K b (rCatT K) (.tup ds) (.tup es) Φ := fun F H v u w d1 d2 Q k => by
  cases d1 with
  | tup s a =>
    cases d2 with
    | tup s2 a2 =>
      rename_i a1 xs a3 ys
      refine ⟨_, _, xs, ys, rfl, rfl, exT w.ex s, exT w.ex s2, fun z => ?_, by rw [a.len, a2.len]; exact Nat.le_trans hz (by decide), fun z => ?_, fun _ p hp => ?_⟩
      · subst z; cases a; exact h0 rfl
      · subst z
        cases a2
        rw [List.append_nil] at q
        exact k _ F H _ .refl w (.tup s a) q
      · obtain ⟨w2, s2⟩ := w.newD (o := .tup _) hp
        exact k _ _ _ _ s2 w2 (.tup (.inl (.inl upd_same)) ((a.app a2).up s2.ex)) q
/-! built-ins -/
theorem rc_abs {i : Int} (q : Φ (.int (if i < 0 then -i else i))) : rdc K b (fun xs H Q => ∃ i, xs = [.int i] ∧ Q (.int (if i < 0 then -i else i)) H) [.int i] Φ := fun F H vs w d Q k => by
  cases d with | cons d1 d => (cases d; cases d1; exact ⟨i, rfl, k _ F H _ .refl w (.int _) q⟩)
theorem rc_max {i j : Int} (q : Φ (.int (if j > i then j else i))) : rdc K b (fun xs H Q => ∃ i j, xs = [.int i, .int j] ∧ Q (.int (if j > i then j else i)) H) [.int i, .int j] Φ := fun F H vs w d Q k => by
  cases d with | cons d1 d => cases d with | cons d2 d => (cases d; cases d1; cases d2; exact ⟨i, j, rfl, k _ F H _ .refl w (.int _) q⟩)
theorem rc_min {i j : Int} (q : Φ (.int (if j < i then j else i))) : rdc K b (fun xs H Q => ∃ i j, xs = [.int i, .int j] ∧ Q (.int (if j < i then j else i)) H) [.int i, .int j] Φ := fun F H vs w d Q k => by
  cases d with | cons d1 d => cases d with | cons d2 d => (cases d; cases d1; cases d2; exact ⟨i, j, rfl, k _ F H _ .refl w (.int _) q⟩)
def rLen (K : PySem.W.Frag) : List V → Hp → VK → Prop := fun xs H Q => ∃ p ys, xs = [.ref p] ∧ (SqL K H p ys ∨ SqT K H p ys) ∧ Q (.int ys.length) H
theorem call_lenS {X : Cx} : CallR X (.builtin "len") (rLen X.K) := call_len_seq
theorem rc_lenL {ds : List D} (q : Φ (.int (ds.length : Nat))) : rdc K b (rLen K) [.lst ds] Φ := fun F H vs w d Q k => by
  cases d with
  | cons d1 d =>
    cases d
    cases d1 with
    | lst s a => exact ⟨_, _, rfl, .inl (SqL.of (w.ex _ _ s)), k _ F H _ .refl w (by rw [a.len]; exact .int _) q⟩
theorem rc_lenT {ds : List D} (q : Φ (.int (ds.length : Nat))) : rdc K b (rLen K) [.tup ds] Φ := fun F H vs w d Q k => by
  cases d with
  | cons d1 d =>
    cases d
    cases d1 with
    | tup s a => exact ⟨_, _, rfl, .inr (exT w.ex s), k _ F H _ .refl w (by rw [a.len]; exact .int _) q⟩
def rList (K : PySem.W.Frag) : List V → Hp → VK → Prop := fun xs H Q => ∃ p ys, xs = [.ref p] ∧ (SqL K H p ys ∨ SqT K H p ys) ∧ ∀ l, H l = none → Q (.ref l) (upd H l (.lst ys))
theorem call_listS {X : Cx} : CallR X (.type "list") (rList X.K) := call_list_of
theorem rcl_listL {ds : List D} {Φ : List D → Prop} (q : Φ ds) : rdcl K b (rList K) [.lst ds] Φ := fun F H vs w d Q k => by
  cases d with
  | cons d1 d =>
    cases d
    cases d1 with
    | lst s a =>
      refine ⟨_, _, rfl, .inl (SqL.of (w.ex _ _ s)), fun p hp => ?_⟩
      obtain ⟨w2, s2⟩ := w.newO (o := .lst _) hp
      exact k p _ F _ _ s2 w2 hp (w.outN hp) upd_same a q
theorem rcl_listT {ds : List D} {Φ : List D → Prop} (q : Φ ds) : rdcl K b (rList K) [.tup ds] Φ := fun F H vs w d Q k => by
  cases d with
  | cons d1 d =>
    cases d
    cases d1 with
    | tup s a =>
      refine ⟨_, _, rfl, .inr (exT w.ex s), fun p hp => ?_⟩
      obtain ⟨w2, s2⟩ := w.newO (o := .lst _) hp
      exact k p _ F _ _ s2 w2 hp (w.outN hp) upd_same a q
def rTuple (K : PySem.W.Frag) : List V → Hp → VK → Prop := fun xs H Q => ∃ p ys, xs = [.ref p] ∧ ((SqL K H p ys ∧ ∀ l, H l = none → Q (.ref l) (upd H l (.tup ys))) ∨ (SqT K H p ys ∧ Q (.ref p) H))
theorem call_tupleS {X : Cx} : CallR X (.type "tuple") (rTuple X.K) := call_tuple_of
theorem rc_tupleL {ds : List D} (q : Φ (.tup ds)) : rdc K b (rTuple K) [.lst ds] Φ := fun F H vs w d Q k => by
  cases d with
  | cons d1 d =>
    cases d
    cases d1 with
    | lst s a =>
      refine ⟨_, _, rfl, .inl ⟨SqL.of (w.ex _ _ s), fun p hp => ?_⟩⟩
      obtain ⟨w2, s2⟩ := w.newD (o := .tup _) hp
      exact k _ _ _ _ s2 w2 (.tup (.inl (.inl upd_same)) (a.up s2.ex)) q
theorem rc_all {bs : List Bool} (q : Φ (.bl (bs.all id))) : rdc K b (rAll K) [.lst (bs.map D.bl)] Φ := fun F H vs w d Q k => by
  cases d with
  | cons d1 d =>
    cases d
    cases d1 with
    | lst s a =>
      have e := a.bls
      subst e
      exact ⟨_, bs, rfl, SqL.of (w.ex _ _ s), k _ F H _ .refl w (.bl _) q⟩
theorem rc_any {bs : List Bool} (q : Φ (.bl (bs.any id))) : rdc K b (rAny K) [.lst (bs.map D.bl)] Φ := fun F H vs w d Q k => by
  cases d with
  | cons d1 d =>
    cases d
    cases d1 with
    | lst s a =>
      have e := a.bls
      subst e
      exact ⟨_, bs, rfl, SqL.of (w.ex _ _ s), k _ F H _ .refl w (.bl _) q⟩
theorem rc_sum {ns : List Int} (q : Φ (.int ns.sum)) : rdc K b (rSum K) [.lst (ns.map D.int)] Φ := fun F H vs w d Q k => by
  cases d with
  | cons d1 d =>
    cases d
    cases d1 with
    | lst s a =>
      have e := a.ints
      subst e
      exact ⟨_, ns, rfl, SqL.of (w.ex _ _ s), k _ F H _ .refl w (.int _) q⟩
/-- sorted of plain alike data -/
theorem zip_dv {F : Hp} : ∀ {vs : List V} {ds : List D}, DvA K b F vs ds → ∀ p ∈ vs.zip ds, Dv K b F p.1 p.2
  | _, [], h, p, hp => by cases h; cases hp
  | _, d :: ds, h, p, hp => by
    cases h with
    | cons x y =>
      rw [List.zip_cons_cons] at hp
      rcases List.mem_cons.mp hp with rfl | hp
      · exact x
      · exact zip_dv y p hp
theorem dva_of {F : Hp} : ∀ {ps : List (V × D)}, (∀ p ∈ ps, Dv K b F p.1 p.2) → DvA K b F (ps.map Prod.fst) (ps.map Prod.snd)
  | [], _ => .nil
  | p :: ps, h => .cons (h p List.mem_cons_self) (dva_of fun q hq => h q (List.mem_cons_of_mem _ hq))
def leD (x y : D) : Bool := PySem.W.dataLe false D.py x y
theorem rcl_sorted {ds : List D} {Φ : List D → Prop} (n : Nat) (hn : n ≤ 60) (h1 : D.okA n ds = true) (h2 : PySem.W.AllAlike (ds.map D.py)) (h3 : PySem.W.Sortable (ds.map D.py)) (q : Φ (ds.mergeSort leD)) : rdcl K b (rSrt K) [.lst ds] Φ := fun F H vs w d Q k => by
  cases d with
  | cons d1 d =>
    cases d
    cases d1 with
    | lst s a =>
      rename_i ad xs
      obtain ⟨_, a2, _⟩ := okA_lay n ds h1
      refine ⟨ad, xs, D.pyA ds, rfl, SqL.of (w.ex _ _ s), dpUpA w.ex _ _ (DvA.dp n ds xs h1 a), by rw [pyA_map]; exact h2, by rw [pyA_map]; exact h3, fun z hz => ?_, fun p hp => ?_⟩
      · rw [pyA_map] at hz
        obtain ⟨y, hy, rfl⟩ := List.mem_map.mp hz
        exact Nat.le_trans (ok_lay n y (okA_mem h1 y hy)).2.1 hn
      · let zs := (xs.zip ds).mergeSort (PySem.W.dataLe false fun p : V × D => p.2.py)
        have e1 : ((xs.zip (D.pyA ds)).mergeSort (PySem.W.dataLe false Prod.snd)).map Prod.fst = zs.map Prod.fst := by
          have hm : (xs.zip ds).map (fun p => (p.1, p.2.py)) = xs.zip (D.pyA ds) := by rw [pyA_map, List.zip_map_right]; rfl
          have hs := PySem.W.sort_maps (r := PySem.W.dataLe false fun p : V × D => p.2.py) (s := PySem.W.dataLe false (Prod.snd : V × PyData → PyData)) (fun p : V × D => (p.1, p.2.py)) (l := xs.zip ds) (fun _ _ _ _ => rfl)
          rw [← hm, ← hs, List.map_map]
          rfl
        have e2 : zs.map Prod.snd = ds.mergeSort leD := by
          have hs := PySem.W.sort_maps (r := PySem.W.dataLe false fun p : V × D => p.2.py) (s := leD) (Prod.snd : V × D → D) (l := xs.zip ds) (fun _ _ _ _ => rfl)
          rw [hs, List.map_snd_zip]
          exact Nat.le_of_eq a.len.symm
        have hd : DvA K b F (zs.map Prod.fst) (ds.mergeSort leD) := by
          rw [← e2]
          refine dva_of fun p hp => zip_dv a p ?_
          exact (List.mem_mergeSort).mp hp
        obtain ⟨w2, s2⟩ := w.newO (o := .lst (zs.map Prod.fst)) hp
        rw [e1]
        exact k p _ F _ _ s2 w2 hp (w.outN hp) upd_same hd q
end
end DL

namespace DL
open PySem PySem.Spec PyProof.Rows L2
/-! what a text of plain data costs -/
mutual
/-- no int is great -/
def D.sm : D → Bool
  | .non => true | .bl _ => true | .int i => decide (i.natAbs < 10 ^ 50) | .str _ => true
  | .lst ds => D.smA ds | .tup ds => D.smA ds | .obj _ _ _ => true | .bag => true | .fn _ => true
def D.smA : List D → Bool
  | [] => true | d :: ds => D.sm d && D.smA ds
end
mutual
def D.cost : D → Nat
  | .int _ => 60 | .str x => 10 * x.length + 4
  | .lst ds => D.costA ds + 5 | .tup ds => D.costA ds + 5
  | .non => 10 | .bl _ => 10 | .obj _ _ _ => 10 | .bag => 10 | .fn _ => 10
def D.costA : List D → Nat
  | [] => 0 | d :: ds => D.cost d + 2 + D.costA ds
end
theorem smA_of : ∀ {ds : List D}, (∀ d ∈ ds, D.sm d = true) → D.smA ds = true
  | [], _ => by unfold D.smA; rfl
  | d :: ds, h => by
    unfold D.smA
    rw [h d List.mem_cons_self, smA_of fun z hz => h z (List.mem_cons_of_mem _ hz)]; rfl
theorem costA_le {c : Nat} : ∀ {ds : List D}, (∀ d ∈ ds, D.cost d ≤ c) → D.costA ds ≤ ds.length * (c + 2)
  | [], _ => by unfold D.costA; exact Nat.zero_le _
  | d :: ds, h => by
    unfold D.costA
    have h1 := h d List.mem_cons_self
    have h2 := costA_le (c := c) fun z hz => h z (List.mem_cons_of_mem _ hz)
    rw [List.length_cons, Nat.succ_mul]; omega
theorem int_shown {i : Int} (h : i.natAbs < 10 ^ 50) : (PyData.shown (.int i)).length ≤ 60 ∧ i.natAbs.log2 < 1920 := by
  refine ⟨?_, log2_small (Nat.lt_trans h (by decide +kernel))⟩
  have e := int_text_length_le10 (k := 50) (by decide) h
  show (Str.ofString (toString i)).length ≤ 60
  rw [PySem.ofString_length]; omega
mutual
theorem shown_cost : ∀ (n : Nat) (d : D), D.ok n d = true → D.sm d = true → d.py.shown.length ≤ d.cost ∧ d.py.showable = true
  | _, .non, _, _ => by unfold D.py D.cost PyData.shown PyData.showable; exact ⟨by decide, rfl⟩
  | _, .bl c, _, _ => by unfold D.py D.cost PyData.shown PyData.showable; exact ⟨by cases c <;> decide, rfl⟩
  | _, .int i, _, s => by
    unfold D.sm at s
    obtain ⟨h1, h2⟩ := int_shown (of_decide_eq_true s)
    unfold D.py D.cost PyData.showable; exact ⟨h1, decide_eq_true h2⟩
  | _, .str x, o, _ => by
    unfold D.ok at o
    unfold D.py D.cost PyData.shown PyData.showable
    refine ⟨Nat.le_trans (StrLaws.reprText_len x fun c hc => ?_) (Nat.add_le_add_left (by decide) _), rfl⟩
    have := Array.all_eq_true'.mp o c (by simpa using hc)
    have := of_decide_eq_true this
    omega
  | n + 1, .lst ds, o, s => by
    unfold D.ok at o
    unfold D.sm at s
    obtain ⟨h1, h2⟩ := shown_costA n ds o s
    have h3 := listText_len_le (PyData.shownAll (D.pyA ds))
    unfold D.py D.cost PyData.shown PyData.showable
    exact ⟨by omega, h2⟩
  | n + 1, .tup ds, o, s => by
    unfold D.ok at o
    unfold D.sm at s
    obtain ⟨h1, h2⟩ := shown_costA n ds o s
    have h3 := tupleText_len_le (PyData.shownAll (D.pyA ds))
    unfold D.py D.cost PyData.shown PyData.showable
    exact ⟨by omega, h2⟩
  | 0, .lst _, h, _ => by unfold D.ok at h; cases h
  | 0, .tup _, h, _ => by unfold D.ok at h; cases h
  | 0, .obj _ _ _, h, _ => by unfold D.ok at h; cases h
  | 0, .bag, h, _ => by unfold D.ok at h; cases h
  | 0, .fn _, h, _ => by unfold D.ok at h; cases h
  | _ + 1, .obj _ _ _, h, _ => by unfold D.ok at h; cases h
  | _ + 1, .bag, h, _ => by unfold D.ok at h; cases h
  | _ + 1, .fn _, h, _ => by unfold D.ok at h; cases h
theorem shown_costA : ∀ (n : Nat) (ds : List D), D.okA n ds = true → D.smA ds = true → ((PyData.shownAll (D.pyA ds)).map (·.length)).sum + 2 * (PyData.shownAll (D.pyA ds)).length ≤ D.costA ds ∧ PyData.showableAll (D.pyA ds) = true
  | _, [], _, _ => by unfold D.pyA D.costA PyData.shownAll PyData.showableAll; exact ⟨by simp, rfl⟩
  | n, d :: ds, o, s => by
    unfold D.okA at o
    unfold D.smA at s
    rw [Bool.and_eq_true] at o s
    obtain ⟨a1, a2⟩ := shown_cost n d o.1 s.1
    obtain ⟨b1, b2⟩ := shown_costA n ds o.2 s.2
    unfold D.pyA D.costA PyData.shownAll PyData.showableAll
    rw [a2, b2, List.map_cons, List.sum_cons, List.length_cons]
    exact ⟨by omega, rfl⟩
end
section
variable {K : PySem.W.Frag} {b : Bg} {Φ : D → Prop}
theorem rc_repr {x : D} (n : Nat) (hn : n ≤ 60) (h1 : D.ok n x = true) (h2 : D.sm x = true) (h3 : x.cost ≤ 10000000) (q : Φ (.str x.py.shown)) : rdc K b (rRepr K) [x] Φ := fun F H vs w d Q k => by
  cases d with
  | cons d1 d =>
    cases d
    obtain ⟨a1, a2, a3⟩ := ok_lay n x h1
    obtain ⟨c1, c2⟩ := shown_cost n x h1 h2
    exact ⟨_, x.py, rfl, dpUp w.ex _ _ (Dv.dp n x _ h1 d1), c2, a3, Nat.le_trans a2 hn, Nat.le_trans c1 (Nat.le_trans h3 (by decide)), k _ F H _ .refl w (.str _) q⟩
end
/-! lists of the def's own -/
def rInsert : V → List V → Hp → VK → Prop := fun x vs H Q => ∃ (l : Addr) (xs : List V) (i : Int) (y : V), x = .ref l ∧ vs = [.int i, y] ∧ H l = some (.lst xs) ∧ xs.length < sizeLine ∧ 0 ≤ i ∧ i < 2 ^ 63 ∧
    Q .non (upd H l (.lst (xs.take i.toNat ++ [y] ++ xs.drop i.toNat)))
theorem mt_ins {X : Cx} : MtR X "list.insert" rInsert := mt_insert
section
variable {K : PySem.W.Frag} {b : Bg} {E : Env'} {ta tb te : TE} {t : TS} {P : Po} {Φ : D → Prop}
theorem Step.turn {F0 H0 F H : Hp} {p : Addr} {o : HO} (s : Step b F0 H0 F H) (h : H0 p = none) : Step b F0 H0 F (upd H p o) :=
  ⟨s.ex, fun a u n e => by rw [upd_ne (ne_of_none e h)]; exact s.keep a u n e, s.out⟩
theorem wps_append {i : Nat} {ds : List D} (hi : E[i]? = some (.o ds)) (h : wpe K b te E fun y => ds.length < 100000 ∧ P.nx (E.set i (.o (ds ++ [y])))) :
    wps K b (tDrop (tBM K "list" rAppend (tVar i) (tCons te tNil))) E P := fun F0 H0 F H σ s w e Dn k => by
  obtain ⟨p, us, h1, h2, h3, h4, h5, h6⟩ := e.own i ds hi
  refine ⟨_, h1, .inl ⟨rfl, us, SqL.of h5⟩, h H0 F H σ w e _ fun y F' H' yd s' w' d q => ?_⟩
  have h5' := s'.keep p _ h4 h5
  have h3' := s'.out p h3 (fun z => by rw [h5] at z; cases z)
  refine ⟨p, us, y, rfl, rfl, h5', by rw [h6.len]; exact Nat.lt_of_lt_of_le q.1 (by decide), ?_⟩
  exact k.nx σ F' _ _ s'.ex ((s.trans s' w).turn h2) (w'.turn h3' h4) ((e.step s').turn hi h1 ((h6.up s'.ex).app (.one d)) h3') q.2
theorem wps_insert {i : Nat} {ds : List D} (hi : E[i]? = some (.o ds)) (h : wpe K b ta E fun x => wpe K b te E fun y => ∃ n : Int, x = .int n ∧ 0 ≤ n ∧ n ≤ 100000 ∧ ds.length < 100000 ∧ P.nx (E.set i (.o (ds.take n.toNat ++ [y] ++ ds.drop n.toNat)))) :
    wps K b (tDrop (tBM K "list" rInsert (tVar i) (tCons ta (tCons te tNil)))) E P := fun F0 H0 F H σ s w e Dn k => by
  obtain ⟨p, us, h1, h2, h3, h4, h5, h6⟩ := e.own i ds hi
  refine ⟨_, h1, .inl ⟨rfl, us, SqL.of h5⟩, h H0 F H σ w e _ fun x F1 H1 xd s1 w1 d1 q1 => q1 H0 F1 H1 σ w1 (e.step s1) _ fun y F' H' yd s2 w' d q => ?_⟩
  obtain ⟨n, rfl, n0, n1, hl, q⟩ := q
  cases d1
  have s' := s1.trans s2 w1
  have h5' := s'.keep p _ h4 h5
  have h3' := s'.out p h3 (fun z => by rw [h5] at z; cases z)
  refine ⟨p, us, n, y, rfl, rfl, h5', by rw [h6.len]; exact Nat.lt_of_lt_of_le hl (by decide), n0, by omega, ?_⟩
  have hu := h6.up s'.ex
  exact k.nx σ F' _ _ s'.ex ((s.trans s' w).turn h2) (w'.turn h3' h4) ((e.step s').turn hi h1 (((hu.take _).app (.one d)).app (hu.drop _)) h3') q
theorem wps_clear {i : Nat} {ds : List D} (hi : E[i]? = some (.o ds)) (h : P.nx (E.set i (.o []))) : wps K b (tDrop (tBM0 K "list" rClear (tVar i))) E P := fun F0 H0 F H σ s w e Dn k => by
  obtain ⟨p, us, h1, h2, h3, h4, h5, h6⟩ := e.own i ds hi
  refine ⟨_, h1, .inl ⟨rfl, us, SqL.of h5⟩, p, us, rfl, rfl, h5, ?_⟩
  exact k.nx σ F _ _ (Ex.refl _) (s.turn h2) (w.turn h3 h4) (e.turn hi h1 .nil h3) h
/-- xs[i] = e -/
theorem wps_setL {i : Nat} {ds : List D} (hi : E[i]? = some (.o ds)) (h : wpe K b te E fun y => wpe K b tb E fun x => ∃ (n : Int) (j : Nat), x = .int n ∧ ixN ds.length n = some j ∧ P.nx (E.set i (.o (ds.set j y)))) :
    wps K b (tAsg te (gSub (tVar i) tb rSetL)) E P := fun F0 H0 F H σ s w e Dn k => by
  obtain ⟨p, us, h1, h2, h3, h4, h5, h6⟩ := e.own i ds hi
  refine h H0 F H σ w e _ fun y F1 H1 yd s1 w1 d1 q1 => ⟨_, h1, q1 H0 F1 H1 σ w1 (e.step s1) _ fun x F' H' xd s2 w' d q => ?_⟩
  obtain ⟨n, j, rfl, hj, q⟩ := q
  cases d
  have s' := s1.trans s2 w1
  have h5' := s'.keep p _ h4 h5
  have h3' := s'.out p h3 (fun z => by rw [h5] at z; cases z)
  have hu := h6.up s'.ex
  refine ⟨p, us, n, j, rfl, rfl, h5', by rw [h6.len]; exact hj, ?_⟩
  exact k.nx σ F' _ _ s'.ex ((s.trans s' w).turn h2) (w'.turn h3' h4) ((e.step s').turn hi h1 (hu.set (d1.up s2.ex) j) h3') q
/-- xs[e] of an own list -/
theorem wpe_ixo {i : Nat} {ds : List D} (hi : E[i]? = some (.o ds)) (h : wpe K b tb E fun x => ∃ (n : Int) (d : D), x = .int n ∧ atI ds n = some d ∧ Φ d) : wpe K b (tOp (rIxL K) (tVar i) tb) E Φ := fun H0 F H σ w e Q k => by
  obtain ⟨p, us, h1, h2, h3, h4, h5, h6⟩ := e.own i ds hi
  refine ⟨_, h1, h H0 F H σ w e _ fun x F' H' xd s' w' d q => ?_⟩
  obtain ⟨n, z, rfl, hz, q⟩ := q
  cases d
  obtain ⟨y, e1, dy⟩ := atI_dv (h6.up s'.ex) hz
  exact ⟨p, us, n, y, rfl, rfl, SqL.of (s'.keep p _ h4 h5), e1, k y F' H' z s' w' dy q⟩
/-- plain: no address -/
def D.sc : D → Prop
  | .non => True | .bl _ => True | .int _ => True | .str _ => True | _ => False
theorem Dv.sc {F G : Hp} {v : V} {x : D} (h : Dv K b F v x) (s : x.sc) : Dv K b G v x := by
  cases h with
  | non => exact .non
  | bl _ => exact .bl _
  | int _ => exact .int _
  | str _ => exact .str _
  | _ => exact s.elim
/-- an own list lent out while an expression runs that ends in a plain value -/
theorem lend {H0 F H : Hp} {σ : L2.St} (i : Nat) {ds : List D} (hi : E[i]? = some (.o ds)) (w : Wd K b F H) (e : EnvD K b H0 F H σ E) :
    ∃ G, Wd K b G H ∧ EnvD K b H0 G H σ (E.set i (.d (.lst ds))) ∧ ∀ G' H', Step b G H G' H' → Wd K b G' H' → ∃ F', Step b F H F' H' ∧ Wd K b F' H' := by
  obtain ⟨p, us, h1, h2, h3, h4, h5, h6⟩ := e.own i ds hi
  refine ⟨upd F p (.lst us), w.frz h3 h5 h4, e.frz hi h1 h3 h6, fun G' H' s w' => ⟨fun a => if a = p then none else G' a, ⟨fun a o q => ?_, s.keep, fun a e1 e2 => ?_⟩, fun a o q => ?_, fun a c hb => ?_⟩⟩
  · show (if a = p then none else G' a) = some o
    rw [if_neg (ne_of_none q h3)]
    exact s.ex a o (by rw [upd_ne (ne_of_none q h3)]; exact q)
  · show (if a = p then none else G' a) = none
    by_cases ha : a = p
    · rw [if_pos ha]
    · rw [if_neg ha]; exact s.out a (by rw [upd_ne ha]; exact e1) e2
  · have q' : (if a = p then none else G' a) = some o := q
    by_cases ha : a = p
    · rw [if_pos ha] at q'; cases q'
    · rw [if_neg ha] at q'; exact w'.ex a o q'
  · have B := w'.bag a c hb
    have A := w.bag a c hb
    obtain ⟨ns, s1, s2⟩ := A.cell
    refine ⟨?_, B.bag, ⟨ns, exL (fun a o q => ?_) s1, s2⟩⟩
    · show (if a = p then none else G' a) = none
      by_cases ha : a = p
      · rw [if_pos ha]
      · rw [if_neg ha]; exact B.out
    · show (if a = p then none else G' a) = some o
      rw [if_neg (ne_of_none q h3)]
      exact s.ex a o (by rw [upd_ne (ne_of_none q h3)]; exact q)
theorem wpe_lend (i : Nat) {ds : List D} (hi : E[i]? = some (.o ds)) (h : wpe K b te (E.set i (.d (.lst ds))) fun x => x.sc ∧ Φ x) : wpe K b te E Φ := fun H0 F H σ w e Q k => by
  obtain ⟨G, w1, e1, back⟩ := lend i hi w e
  refine h H0 G H σ w1 e1 Q fun v G' H' x s w' d q => ?_
  obtain ⟨F', s2, w2⟩ := back G' H' s w'
  exact k v F' H' x s2 w2 (d.sc q.1) q.2
theorem wpt_lend {t : TT} {Ψ : Bool → Prop} (i : Nat) {ds : List D} (hi : E[i]? = some (.o ds)) (h : wpt K b t (E.set i (.d (.lst ds))) Ψ) : wpt K b t E Ψ := fun H0 F H σ w e Q k => by
  obtain ⟨G, w1, e1, back⟩ := lend i hi w e
  refine h H0 G H σ w1 e1 Q fun c G' H' s w' q => ?_
  obtain ⟨F', s2, w2⟩ := back G' H' s w'
  exact k c F' H' s2 w2 q
/-! a def's body from its start -/
def startE (n : Nat) (ds : List D) : Env' := ds.map En.d ++ List.replicate (n - ds.length) .u
theorem envD_start {H0 F H : Hp} {N : List Str} {vs : List V} {ds : List D} (d : DvA K b F vs ds) : EnvD K b H0 F H (L2.start N vs) (startE N.length ds) := by
  refine ⟨by unfold L2.start startE; rw [List.length_append, List.length_append, List.length_map, List.length_map, List.length_replicate, List.length_replicate, d.len], fun i x h => ?_, fun i es h => ?_, fun i j es fs p h => ?_⟩
  · unfold startE at h
    by_cases hi : i < ds.length
    · rw [List.getElem?_append_left (by simpa using hi), List.getElem?_map] at h
      cases q : ds[i]? with
      | none => rw [q] at h; cases h
      | some y =>
        rw [q] at h
        cases h
        obtain ⟨v, h1, h2⟩ := d.get q
        refine ⟨v, ?_, h2⟩
        unfold L2.start
        rw [List.getElem?_append_left (by rw [List.length_map, d.len]; exact hi), List.getElem?_map, h1]
        rfl
    · rw [List.getElem?_append_right (by simpa using hi), List.getElem?_replicate] at h
      split at h <;> cases h
  · unfold startE at h
    by_cases hi : i < ds.length
    · rw [List.getElem?_append_left (by simpa using hi), List.getElem?_map] at h
      cases q : ds[i]? with
      | none => rw [q] at h; cases h
      | some y => rw [q] at h; cases h
    · rw [List.getElem?_append_right (by simpa using hi), List.getElem?_replicate] at h
      split at h <;> cases h
  · unfold startE at h
    by_cases hi : i < ds.length
    · rw [List.getElem?_append_left (by simpa using hi), List.getElem?_map] at h
      cases q : ds[i]? with
      | none => rw [q] at h; cases h
      | some y => rw [q] at h; cases h
    · rw [List.getElem?_append_right (by simpa using hi), List.getElem?_replicate] at h
      split at h <;> cases h
theorem run_d {F H : Hp} {N : List Str} {vs : List V} {ds : List D} {Q : VK} {post : D → Prop} (w : Wd K b F H) (d : DvA K b F vs ds) (h : wps K b t (startE N.length ds) { nx := fun _ => post .non, rt := post, rl := fun es => post (.lst es) })
    (q : ∀ v F' H' x, Step b F H F' H' → Wd K b F' H' → Dv K b F' v x → post x → Q v H') : t { nx := fun _ H' => Q .non H', rt := Q } (L2.start N vs) H :=
  h F H F H (L2.start N vs) .refl w (envD_start d) _ ⟨fun σ F' H' E _ s w' e p => q _ F' H' _ s w' .non p, fun v F' H' x s w' dv p => q v F' H' x s w' dv p, fun p us F' H' es s w' n0 n1 nb n2 dv z => by
      refine q _ (upd F' p (.lst us)) H' _ ⟨s.ex.trans (Ex.new n1), s.keep, fun a e1 e2 => ?_⟩ (w'.frz n1 n2 nb) (.lst upd_same (dv.up (Ex.new n1))) z
      rw [upd_ne (show a ≠ p from fun z => e2 (by rw [z]; exact n0))]
      exact s.out a e1 e2, fun _ _ _ _ _ _ _ _ z => z.elim, fun _ _ _ _ _ _ _ _ z => z.elim⟩
theorem run_l {F H : Hp} {N : List Str} {vs : List V} {ds : List D} {Q : VK} {post : List D → Prop} (w : Wd K b F H) (d : DvA K b F vs ds) (h : wps K b t (startE N.length ds) { nx := fun _ => False, rt := fun _ => False, rl := post })
    (q : ∀ p us F' H' es, Step b F H F' H' → Wd K b F' H' → H p = none → F' p = none → H' p = some (.lst us) → DvA K b F' us es → post es → Q (.ref p) H') : t { nx := fun _ H' => Q .non H', rt := Q } (L2.start N vs) H :=
  h F H F H (L2.start N vs) .refl w (envD_start d) _ ⟨fun _ _ _ _ _ _ _ _ z => z.elim, fun _ _ _ _ _ _ _ z => z.elim, fun p us F' H' es s w' n0 n1 nb n2 dv z => q p us F' H' es s w' n0 n1 n2 dv z, fun _ _ _ _ _ _ _ _ z => z.elim, fun _ _ _ _ _ _ _ _ z => z.elim⟩
end
end DL

namespace DL
open PySem PySem.Spec PyProof.Rows L2
section
variable {K : PySem.W.Frag} {b : Bg} {E : Env'} {ta tb te : TE} {t : TS} {P : Po} {Φ : D → Prop}
/-! subscripts and slices -/
theorem rd_ixl {ds : List D} {i : Int} {d : D} (e : atI ds i = some d) (q : Φ d) : rd2 K b (rIx K) (.lst ds) (.int i) Φ := fun F H v u w d1 d2 Q k => .inl (rd_ixL e q F H v u w d1 d2 Q k)
theorem rd_ixt {ds : List D} {i : Int} {d : D} (e : atI ds i = some d) (q : Φ d) : rd2 K b (rIx K) (.tup ds) (.int i) Φ := fun F H v u w d1 d2 Q k => .inr (.inl (rd_ixT e q F H v u w d1 d2 Q k))
/-- xs[e] of an own list -/
theorem wpe_ixo' {i : Nat} {ds : List D} (hi : E[i]? = some (.o ds)) (h : wpe K b tb E fun x => ∃ (n : Int) (d : D), x = .int n ∧ atI ds n = some d ∧ Φ d) : wpe K b (tOp (rIx K) (tVar i) tb) E Φ := fun H0 F H σ w e Q k => by
  obtain ⟨p, us, h1, h2, h3, h4, h5, h6⟩ := e.own i ds hi
  refine ⟨_, h1, h H0 F H σ w e _ fun x F' H' xd s' w' d q => ?_⟩
  obtain ⟨n, z, rfl, hz, q⟩ := q
  cases d
  obtain ⟨y, e1, dy⟩ := atI_dv (h6.up s'.ex) hz
  exact .inl ⟨p, us, n, y, rfl, rfl, SqL.of (s'.keep p _ h4 h5), e1, k y F' H' z s' w' dy q⟩
def wpo (K : PySem.W.Frag) (b : Bg) (t : TO) (E : Env') (Φ : Option Int → Prop) : Prop := ∀ H0 F H σ, Wd K b F H → EnvD K b H0 F H σ E →
  ∀ Q : Option Int → Hp → Prop, (∀ c F' H', Step b F H F' H' → Wd K b F' H' → Φ c → Q c H') → t σ H Q
theorem wpo_none {Φ : Option Int → Prop} (q : Φ none) : wpo K b tNoPart E Φ := fun H0 F H σ w e Q k => k _ F H .refl w q
theorem wpo_some {Φ : Option Int → Prop} (h : wpe K b te E fun x => ∃ n, x = .int n ∧ Φ (some n)) : wpo K b (tPart te) E Φ := fun H0 F H σ w e Q k =>
  h H0 F H σ w e _ fun v F1 H1 x s1 w1 d1 p1 => by
    obtain ⟨n, rfl, q⟩ := p1
    cases d1
    exact ⟨n, rfl, k _ F1 H1 s1 w1 q⟩
def cutD (ds : List D) (lo hi : Option Int) : List D := (ds.drop (HT.sIx ds.length 0 lo)).take (HT.sIx ds.length ds.length hi - HT.sIx ds.length 0 lo)
theorem dva_cut {F : Hp} {vs : List V} {ds : List D} {lo hi : Option Int} (h : DvA K b F vs ds) : DvA K b F (cutV vs lo hi) (cutD ds lo hi) := by
  unfold cutV cutD
  rw [h.len]
  exact (h.drop _).take _
theorem wpl_sl {tl th : TO} {Φ : List D → Prop} (h : wpe K b te E fun x => wpo K b tl E fun lo => wpo K b th E fun hi => ∃ ds, x = .lst ds ∧ Φ (cutD ds lo hi)) : wpl K b (tSl (rSlL K) te tl th) E Φ := fun H0 F H σ w e Q k =>
  h H0 F H σ w e _ fun v F1 H1 x s1 w1 d1 p1 => p1 H0 F1 H1 σ w1 (e.step s1) _ fun lo F2 H2 s2 w2 p2 => p2 H0 F2 H2 σ w2 ((e.step s1).step s2) _ fun hi F3 H3 s3 w3 p3 => by
    obtain ⟨ds, rfl, q⟩ := p3
    cases d1 with
    | lst s a =>
      have s13 := (s1.trans s2 w1).trans s3 w2
      have x13 := s2.ex.trans s3.ex
      refine ⟨_, _, rfl, SqL.of (w3.ex _ _ (x13 _ _ s)), fun p hp => ?_⟩
      obtain ⟨w4, s4⟩ := w3.newO (o := .lst _) hp
      exact k p _ F3 _ _ (s13.trans s4 w3) w4 (s13.fresh w3 hp) (w3.outN hp) upd_same (dva_cut (a.up x13)) q
theorem wpe_slT {tl th : TO} (h : wpe K b te E fun x => wpo K b tl E fun lo => wpo K b th E fun hi => ∃ ds, x = .tup ds ∧ ¬ (HT.sIx ds.length 0 lo = 0 ∧ HT.sIx ds.length ds.length hi = ds.length) ∧ Φ (.tup (cutD ds lo hi))) : wpe K b (tSl (rSlT K) te tl th) E Φ := fun H0 F H σ w e Q k =>
  h H0 F H σ w e _ fun v F1 H1 x s1 w1 d1 p1 => p1 H0 F1 H1 σ w1 (e.step s1) _ fun lo F2 H2 s2 w2 p2 => p2 H0 F2 H2 σ w2 ((e.step s1).step s2) _ fun hi F3 H3 s3 w3 p3 => by
    obtain ⟨ds, rfl, hn, q⟩ := p3
    cases d1 with
    | tup s a =>
      have s13 := (s1.trans s2 w1).trans s3 w2
      have x13 := s2.ex.trans s3.ex
      refine ⟨_, _, rfl, exT (x13.trans w3.ex) s, by rw [a.len]; exact hn, fun p hp => ?_⟩
      obtain ⟨w4, s4⟩ := w3.newD (o := .tup _) hp
      exact k _ _ _ _ (s13.trans s4 w3) w4 (.tup (.inl (.inl upd_same)) (dva_cut (a.up (x13.trans s4.ex)))) q
theorem wpl_rev {Φ : List D → Prop} (h : wpe K b te E fun x => ∃ ds, x = .lst ds ∧ Φ ds.reverse) : wpl K b (tRevL K te) E Φ := fun H0 F H σ w e Q k =>
  h H0 F H σ w e _ fun v F1 H1 x s1 w1 d1 p1 => by
    obtain ⟨ds, rfl, q⟩ := p1
    cases d1 with
    | lst s a =>
      refine ⟨_, _, rfl, SqL.of (w1.ex _ _ s), fun p hp => ?_⟩
      obtain ⟨w4, s4⟩ := w1.newO (o := .lst _) hp
      exact k p _ F1 _ _ (s1.trans s4 w1) w4 (s1.fresh w1 hp) (w1.outN hp) upd_same a.rev q
theorem rd_isB {x y : Bool} (q : Φ (.bl (decide (x = y)))) : rd2 K b rIsB (.bl x) (.bl y) Φ := fun F H v u w d1 d2 Q k => by
  cases d1; cases d2; exact ⟨x, y, rfl, rfl, k _ F H _ .refl w (.bl _) q⟩
/-- the law's own bag -/
def preTake (b : Bg) (ds : List D) : Prop := b.isSome = true ∧ ∃ n : Int, ds = [.bag, .int n] ∧ 0 < n ∧ n ≤ 4000000000000000000
def postTake (ds : List D) (x : D) : Prop := ∃ n v : Int, ds = [.bag, .int n] ∧ x = .int v ∧ 0 ≤ v ∧ v < n
def spTake (K : PySem.W.Frag) : Sp := Sd K 2 preTake postTake
theorem wpe_take {EE : XK} (hb : b.isSome = true) (h : wpe K b ta E fun x => x = .bag ∧ wpe K b tb E fun y => ∃ n : Int, y = .int n ∧ 0 < n ∧ n ≤ 4000000000000000000 ∧ ∀ v, 0 ≤ v → v < n → Φ (.int v)) :
    wpe K b (tCall (spTake K) [] EE (tCons ta (tCons tb tNil))) E Φ := by
  refine wpe_call (wpa_cons (h.mono fun x hx => wpa_cons (hx.2.mono fun y hy => wpa_nil ?_)))
  obtain ⟨n, rfl, h1, h2, q⟩ := hy
  obtain ⟨rfl, _⟩ := hx
  refine ⟨rfl, ⟨hb, n, rfl, h1, h2⟩, fun z hz => ?_⟩
  obtain ⟨n', v, e, rfl, h3, h4⟩ := hz
  cases e
  exact q v h3 h4
/-! the law's start -/
def spBag (K : PySem.W.Frag) : Sp := fun vs H Q _ => ∃ (a : Addr) (ns : List Int), vs = [.ref a] ∧ SqL K H a (ns.map V.int) ∧ ns.length ≤ 63 ∧
  ∀ p c F' H', Ex H F' → Wd K (some (p, c)) F' H' → H p = none → Q (.ref p) H'
def spLaw (K : PySem.W.Frag) : Sp := fun vs H Q _ => ∃ (a : Addr) (ns : List Int), vs = [.ref a] ∧ SqL K H a (ns.map V.int) ∧ ns.length ≤ 63 ∧ ∀ H', Q (.bl true) H'
theorem law_run {H : Hp} {N : List Str} {vs : List V} {Q : VK} {EE E2 : XK} (hs : spLaw K vs H Q EE) (hN : 2 ≤ N.length) (h : ∀ p c, wps K (some (p, c)) t (.u :: .d .bag :: List.replicate (N.length - 2) .u) { nx := fun _ => False, rt := fun x => x = .bl true }) :
    tSeq (tAsg (tCall (spBag K) [] E2 (tCons (tVar 0) tNil)) (gName 1)) t { nx := fun _ H' => Q .non H', rt := Q } (L2.start N vs) H := by
  obtain ⟨a, ns, rfl, hS, hl, q⟩ := hs
  refine ⟨.ref a, ?_, ?_⟩
  · unfold L2.start; rfl
  show spBag K [V.ref a] H (fun x H1 => t { nx := fun _ H' => Q .non H', rt := Q } ((L2.start N [V.ref a]).set 1 (some x)) H1) E2
  refine ⟨a, ns, rfl, hS, hl, fun p c F' H' x w hp => ?_⟩
  refine h p c F' H' F' H' _ .refl w ?_ _ ⟨fun _ _ _ _ _ _ _ _ z => z.elim, fun v F2 H2 y s2 w2 d e => ?_, fun _ _ _ _ _ _ _ _ _ _ _ _ z => z.elim, fun _ _ _ _ _ _ _ _ z => z.elim, fun _ _ _ _ _ _ _ _ z => z.elim⟩
  · have hN' : N.length - 1 = (N.length - 2) + 1 := by omega
    have hst : (L2.start N [V.ref a]).set 1 (some (.ref p)) = some (.ref a) :: some (.ref p) :: List.replicate (N.length - 2) none := by
      unfold L2.start
      show ((some (V.ref a) :: ([] ++ List.replicate (N.length - 1) none)).set 1 (some (V.ref p)) : L2.St) = _
      rw [hN', List.nil_append, List.replicate_succ]
      rfl
    rw [hst]
    refine ⟨by simp, fun i y e => ?_, fun i ds e => ?_, fun i j ds es r e => ?_⟩
    · match i, e with
      | 0, e => cases e
      | 1, e => cases e; exact ⟨_, rfl, .bag rfl⟩
      | i + 2, e =>
        have e' : (List.replicate (N.length - 2) En.u)[i]? = some (.d y) := e
        rw [List.getElem?_replicate] at e'
        split at e' <;> cases e'
    · match i, e with
      | 0, e => cases e
      | 1, e => cases e
      | i + 2, e =>
        have e' : (List.replicate (N.length - 2) En.u)[i]? = some (.o ds) := e
        rw [List.getElem?_replicate] at e'
        split at e' <;> cases e'
    · match i, e with
      | 0, e => cases e
      | 1, e => cases e
      | i + 2, e =>
        have e' : (List.replicate (N.length - 2) En.u)[i]? = some (.o ds) := e
        rw [List.getElem?_replicate] at e'
        split at e' <;> cases e'
  · have e' : y = .bl true := e
    subst e'
    cases d
    exact q _
end
/-! the rules, the written part told -/
section
variable {X : Cx} {K : PySem.W.Frag}
theorem kIx (h : X.K = K := by rfl) : IxR X (rIx K) := h ▸ ix_seq
theorem kLen (h : X.K = K := by rfl) : CallR X (.builtin "len") (rLen K) := h ▸ call_lenS
theorem kList (h : X.K = K := by rfl) : CallR X (.type "list") (rList K) := h ▸ call_listS
theorem kTuple (h : X.K = K := by rfl) : CallR X (.type "tuple") (rTuple K) := h ▸ call_tupleS
theorem kAll (hc : X.calm = true := by rfl) (h : X.K = K := by rfl) : CallR X (.builtin "all") (rAll K) := h ▸ cr_all hc
theorem kAny (hc : X.calm = true := by rfl) (h : X.K = K := by rfl) : CallR X (.builtin "any") (rAny K) := h ▸ cr_any hc
theorem kSum (hc : X.calm = true := by rfl) (h : X.K = K := by rfl) : CallR X (.builtin "sum") (rSum K) := h ▸ cr_sum hc
theorem kSorted (hu : X.A.units + 100 < cLine) (h : X.K = K := by rfl) : CallR X (.builtin "sorted") (rSrt K) := h ▸ call_srt hu
theorem kRepr (hg : X.A.guards = some []) (hu : X.A.units + 100 < cLine) (h : X.K = K := by rfl) : CallR X (.builtin "repr") (rRepr K) := h ▸ call_reprD hg hu
theorem kEq (hu : X.A.units + 100 < cLine) (h : X.K = K := by rfl) : OpR X (compareOp .Eq) (rEqD K) := h ▸ op_eqD (by omega)
theorem kNe (hu : X.A.units + 100 < cLine) (h : X.K = K := by rfl) : OpR X (compareOp .NotEq) (rNeD K) := h ▸ op_neD (by omega)
theorem kIn (hu : X.A.units + 100 < cLine) (h : X.K = K := by rfl) : OpR X (compareOp .In) (rInD K) := h ▸ op_inD (by omega)
theorem kNotIn (hu : X.A.units + 100 < cLine) (h : X.K = K := by rfl) : OpR X (compareOp .NotIn) (rNotInD K) := h ▸ op_notInD (by omega)
theorem kSlL (h : X.K = K := by rfl) : SlR X (rSlL K) := h ▸ sl_list
theorem kSlT (h : X.K = K := by rfl) : SlR X (rSlT K) := h ▸ sl_tup
theorem kCatT (h : X.K = K := by rfl) : OpR X (binaryOp .Add) (rCatT K) := h ▸ op_catT
theorem room100 {A : Around} {k : Nat} (hr : Room k A) : A.units + 100 < cLine := by have := hr.un; omega
end
end DL

namespace DL
open PySem PySem.Spec PyProof.Rows L2
def rAbs : List V → Hp → VK → Prop := fun xs H Q => ∃ i, xs = [.int i] ∧ Q (.int (if i < 0 then -i else i)) H
def rMax2 : List V → Hp → VK → Prop := fun xs H Q => ∃ i j, xs = [.int i, .int j] ∧ Q (.int (if j > i then j else i)) H
def rMin2 : List V → Hp → VK → Prop := fun xs H Q => ∃ i j, xs = [.int i, .int j] ∧ Q (.int (if j < i then j else i)) H
def rInt1 : List V → Hp → VK → Prop := fun xs H Q => (∃ i, xs = [.int i] ∧ Q (.int i) H) ∨ ∃ k, xs = [.bl k] ∧ Q (.int (if k then 1 else 0)) H
def rSl (K : PySem.W.Frag) : V → Option Int → Option Int → Hp → VK → Prop := fun x lo hi H Q => rSlL K x lo hi H Q ∨ rSlT K x lo hi H Q
section
variable {X : Cx} {K : PySem.W.Frag}
theorem kAbs : CallR X (.builtin "abs") rAbs := call_abs
theorem kMax2 (hc : X.calm = true := by rfl) : CallR X (.builtin "max") rMax2 := call_max2 hc
theorem kMin2 (hc : X.calm = true := by rfl) : CallR X (.builtin "min") rMin2 := call_min2 hc
theorem kInt1 : CallR X (.type "int") rInt1 := call_int1
theorem kSl (h : X.K = K := by rfl) : SlR X (rSl K) := fun pins s σ H x v vl vu lo hi sl Q I rx hs pl pu q => by
  rcases q with q | q
  · exact kSlL (K := K) h pins s σ H x v vl vu lo hi sl Q I rx hs pl pu q
  · exact kSlT (K := K) h pins s σ H x v vl vu lo hi sl Q I rx hs pl pu q
theorem kGet (h : X.K = K := by rfl) : PGet X (rIxL K) := h ▸ get_list
theorem pe_revK {e : Expr} {te : TE} {k : Nat} {p1 p2 p3 pos : Pos} (he : PE X e te) (h : X.K = K := by rfl) : PE X (.Subscript e (.Slice none none (some (.UnaryOp .USub (.Constant (.int 1) k p1) p2)) p3) pos) (tRevL K te) := h ▸ pe_revL he
theorem bt_len : bootBuiltins "len" = some (.builtin "len") := by decide +kernel
theorem bt_abs : bootBuiltins "abs" = some (.builtin "abs") := by decide +kernel
theorem bt_all : bootBuiltins "all" = some (.builtin "all") := by decide +kernel
theorem bt_any : bootBuiltins "any" = some (.builtin "any") := by decide +kernel
theorem bt_sum : bootBuiltins "sum" = some (.builtin "sum") := by decide +kernel
theorem bt_max : bootBuiltins "max" = some (.builtin "max") := by decide +kernel
theorem bt_min : bootBuiltins "min" = some (.builtin "min") := by decide +kernel
theorem bt_sorted : bootBuiltins "sorted" = some (.builtin "sorted") := by decide +kernel
theorem bt_repr : bootBuiltins "repr" = some (.builtin "repr") := by decide +kernel
theorem bt_list : bootBuiltins "list" = some (.type "list") := by decide +kernel
theorem bt_tuple : bootBuiltins "tuple" = some (.type "tuple") := by decide +kernel
theorem bt_int : bootBuiltins "int" = some (.type "int") := by decide +kernel
end
section
variable {K : PySem.W.Frag} {b : Bg} {E : Env'} {te : TE} {Φ : D → Prop}
theorem rd_eqS {x y : Str} (q : Φ (.bl (decide (V.str x = V.str y)))) : rd2 K b rEq (.str x) (.str y) Φ := fun F H v u w d1 d2 Q k => by
  cases d1; cases d2; exact ⟨rfl, k _ F H _ .refl w (.bl _) q⟩
theorem rcAbs {i : Int} (q : Φ (.int (if i < 0 then -i else i))) : rdc K b rAbs [.int i] Φ := rc_abs q
theorem rcMax {i j : Int} (q : Φ (.int (if j > i then j else i))) : rdc K b rMax2 [.int i, .int j] Φ := rc_max q
theorem rcMin {i j : Int} (q : Φ (.int (if j < i then j else i))) : rdc K b rMin2 [.int i, .int j] Φ := rc_min q
theorem rcIntB {c : Bool} (q : Φ (.int (if c then 1 else 0))) : rdc K b rInt1 [.bl c] Φ := fun F H vs w d Q k => by
  cases d with | cons d1 d => (cases d; cases d1; exact .inr ⟨c, rfl, k _ F H _ .refl w (.int _) q⟩)
theorem wpl_slL {tl th : TO} {Φ : List D → Prop} (h : wpe K b te E fun x => wpo K b tl E fun lo => wpo K b th E fun hi => ∃ ds, x = .lst ds ∧ Φ (cutD ds lo hi)) : wpl K b (tSl (rSl K) te tl th) E Φ := fun H0 F H σ w e Q k =>
  h H0 F H σ w e _ fun v F1 H1 x s1 w1 d1 p1 => p1 H0 F1 H1 σ w1 (e.step s1) _ fun lo F2 H2 s2 w2 p2 => p2 H0 F2 H2 σ w2 ((e.step s1).step s2) _ fun hi F3 H3 s3 w3 p3 => by
    obtain ⟨ds, rfl, q⟩ := p3
    cases d1 with
    | lst s a =>
      have s13 := (s1.trans s2 w1).trans s3 w2
      have x13 := s2.ex.trans s3.ex
      refine .inl ⟨_, _, rfl, SqL.of (w3.ex _ _ (x13 _ _ s)), fun p hp => ?_⟩
      obtain ⟨w4, s4⟩ := w3.newO (o := .lst _) hp
      exact k p _ F3 _ _ (s13.trans s4 w3) w4 (s13.fresh w3 hp) (w3.outN hp) upd_same (dva_cut (a.up x13)) q
theorem wpe_slTu {tl th : TO} (h : wpe K b te E fun x => wpo K b tl E fun lo => wpo K b th E fun hi => ∃ ds, x = .tup ds ∧ ¬ (HT.sIx ds.length 0 lo = 0 ∧ HT.sIx ds.length ds.length hi = ds.length) ∧ Φ (.tup (cutD ds lo hi))) : wpe K b (tSl (rSl K) te tl th) E Φ := fun H0 F H σ w e Q k =>
  h H0 F H σ w e _ fun v F1 H1 x s1 w1 d1 p1 => p1 H0 F1 H1 σ w1 (e.step s1) _ fun lo F2 H2 s2 w2 p2 => p2 H0 F2 H2 σ w2 ((e.step s1).step s2) _ fun hi F3 H3 s3 w3 p3 => by
    obtain ⟨ds, rfl, hn, q⟩ := p3
    cases d1 with
    | tup s a =>
      have s13 := (s1.trans s2 w1).trans s3 w2
      have x13 := s2.ex.trans s3.ex
      refine .inr ⟨_, _, rfl, exT (x13.trans w3.ex) s, by rw [a.len]; exact hn, fun p hp => ?_⟩
      obtain ⟨w4, s4⟩ := w3.newD (o := .tup _) hp
      exact k _ _ _ _ (s13.trans s4 w3) w4 (.tup (.inl (.inl upd_same)) (dva_cut (a.up (x13.trans s4.ex)))) q
end
end DL

namespace DL
open PySem PySem.Spec PyProof.Rows L2
theorem ln_of {K : PySem.W.Frag} {n : Nat} {pre : Bg → List D → Prop} {post : List D → D → Prop} {vs : List V} {H : Hp} {Q : VK} {EE : XK} (h : Sd K n pre post vs H Q EE) : vs.length = n := by
  obtain ⟨_, _, _, h, _⟩ := h
  exact h
theorem r_of {K : PySem.W.Frag} {n : Nat} {pre : Bg → List D → Prop} {post : List D → D → Prop} {vs : List V} {H : Hp} {Q : VK} {EE : XK} {N : List Str} {t : TS}
    (w : ∀ b ds, ds.length = n → pre b ds → wps K b t (startE N.length ds) { nx := fun _ => post ds .non, rt := post ds, rl := fun es => post ds (.lst es) }) (h : Sd K n pre post vs H Q EE) :
    t { nx := fun _ H' => Q .non H', rt := Q } (L2.start N vs) H := by
  obtain ⟨b, F, ds, hl, hw, hd, hp, q⟩ := h
  exact run_d (post := post ds) hw hd (w b ds (hd.len.symm.trans hl) hp) q
theorem ll_of {K : PySem.W.Frag} {n : Nat} {pre : Bg → List D → Prop} {post : List D → List D → Prop} {vs : List V} {H : Hp} {Q : VK} {EE : XK} (h : Sl K n pre post vs H Q EE) : vs.length = n := by
  obtain ⟨_, _, _, h, _⟩ := h
  exact h
theorem rl_of {K : PySem.W.Frag} {n : Nat} {pre : Bg → List D → Prop} {post : List D → List D → Prop} {vs : List V} {H : Hp} {Q : VK} {EE : XK} {N : List Str} {t : TS}
    (w : ∀ b ds, ds.length = n → pre b ds → wps K b t (startE N.length ds) { nx := fun _ => False, rt := fun _ => False, rl := post ds }) (h : Sl K n pre post vs H Q EE) :
    t { nx := fun _ H' => Q .non H', rt := Q } (L2.start N vs) H := by
  obtain ⟨b, F, ds, hl, hw, hd, hp, q⟩ := h
  exact run_l (post := post ds) hw hd (w b ds (hd.len.symm.trans hl) hp) q
theorem len_le {n m : Nat} (h : Nat.ble n m = true) : n ≤ m := Nat.le_of_ble_eq_true h
theorem ifB {c : Bool} {p q : Prop} (h1 : c = true → p) (h2 : c = false → q) : if c = true then p else q := by
  cases c with
  | true => exact (if_pos rfl : (if true = true then p else q) = p).symm ▸ h1 rfl
  | false => exact (if_neg Bool.false_ne_true : (if false = true then p else q) = q).symm ▸ h2 rfl
theorem ifT {p q : Prop} (h : p) : if true = true then p else q := ifB (fun _ => h) fun z => Bool.noConfusion z
theorem ifF {p q : Prop} (h : q) : if false = true then p else q := ifB (fun z => Bool.noConfusion z) fun _ => h
/-! the law's bag, made -/
def tBag (K : PySem.W.Frag) : TS := tRet (tLst (tCons (tC (.int 0)) (tCons (tC (.int 1234567891)) (tCons (tC (.int 0)) (tCons (tLc (iList K (tSl (rSl K) (tVar 0) tNoPart (tPart (tC (.int 63))))) (gName 1) tYes (tCB rAbs (tCons (tVar 1) tNil)) [1]) tNil)))))
theorem cut_map (ns : List Int) (lo hi : Option Int) : ∃ ms : List Int, cutV (ns.map V.int) lo hi = ms.map V.int ∧ ms.length ≤ ns.length := by
  refine ⟨((ns.drop (HT.sIx ns.length 0 lo)).take (HT.sIx ns.length ns.length hi - HT.sIx ns.length 0 lo)), ?_, ?_⟩
  · unfold cutV
    rw [List.length_map, List.map_take, List.map_drop]
  · rw [List.length_take, List.length_drop]; omega
theorem r_bag {K : PySem.W.Frag} {vs : List V} {H : Hp} {Q : VK} {EE : XK} (h : spBag K vs H Q EE) : tBag K { nx := fun _ H' => Q .non H', rt := Q } (L2.start ["script", "cell"] vs) H := by
  obtain ⟨a, ns, rfl, hS, hl, q⟩ := h
  obtain ⟨ms, em, lm⟩ := cut_map ns none (some 63)
  show tBag K { nx := fun _ H' => Q .non H', rt := Q } [some (.ref a), none] H
  refine ⟨.ref a, rfl, 63, rfl, .inl ⟨a, _, rfl, hS, fun p hp => ?_⟩⟩
  rw [em]
  have x1 : Ex H (upd H p (.lst (ms.map V.int))) := Ex.new hp
  refine ⟨p, rfl, ⟨_, SqL.of upd_same⟩, fun c hc => ?_⟩
  have hcp : p ≠ c := ne_of_none upd_same hc
  refine lc_list (K := K) (a := p) (xs := ms.map V.int) (fun i H' => Ex H H' ∧ H' p = some (.lst (ms.map V.int)) ∧ ∃ ks : List Int, H' c = some (.lst (ks.map V.int)) ∧ ks.length = i ∧ ∀ k ∈ ks, 0 ≤ k)
    ⟨x1.trans (Ex.new hc), by rw [upd_ne hcp]; exact upd_same, [], upd_same, rfl, fun _ z => nomatch z⟩ (fun i H' _ pv => SqL.of pv.2.1) (fun i x H' hx pv => ?_) (fun H' pv => ?_)
  · obtain ⟨e1, e2, ks, e3, e4, e5⟩ := pv
    rw [List.getElem?_map] at hx
    cases hm : ms[i]? with
    | none => rw [hm] at hx; cases hx
    | some m =>
      rw [hm] at hx
      cases hx
      have hi : i < ms.length := (List.getElem?_eq_some_iff.mp hm).1
      refine ⟨rfl, .int m, rfl, m, rfl, ks.map V.int, e3, ?_, ?_⟩
      · rw [List.length_map, e4]; exact Nat.lt_of_lt_of_le hi (Nat.le_trans (Nat.le_trans lm hl) (by decide))
      · have nc : H c = none := by
          cases z : H c with
          | none => rfl
          | some o => rw [x1 c o z] at hc; cases hc
        refine ⟨fun b o z => by rw [upd_ne (ne_of_none z nc)]; exact e1 b o z, by rw [upd_ne hcp]; exact e2, ks ++ [if m < 0 then -m else m], ?_, by rw [List.length_append, e4]; rfl, fun k hk => ?_⟩
        · rw [upd_same, List.map_append]; rfl
        · rcases List.mem_append.mp hk with hk | hk
          · exact e5 k hk
          · have : k = if m < 0 then -m else m := by simpa using hk
            rw [this]; split <;> omega
  · obtain ⟨e1, e2, ks, e3, e4, e5⟩ := pv
    show 4 ≤ sizeLine ∧ _
    refine ⟨by decide, fun r hr => ?_⟩
    have n0 : H r = none := by
      cases z : H r with
      | none => rfl
      | some o => rw [e1 r o z] at hr; cases hr
    refine q r c H' _ e1 ⟨Ex.new hr, fun a' c' e => ?_⟩ n0
    cases e
    exact ⟨hr, ⟨0, 1234567891, 0, upd_same, by omega, by omega, by omega, by omega⟩, ⟨ks, SqL.of e3, e5⟩⟩
/-! a draw -/
def tTake (K : PySem.W.Frag) : TS :=
  (tSeq (tIfS (tTest (tOp (rEqD K) (tOp (rIx K) (tVar 0) (tC (.int 0))) (tC (.int 0))))
    (tSeq (tAsg (tC (.int 0)) (gName 2))
    (tSeq (tIfS (tTest (tOp (rI0 fun i j => .bl (decide (i < j))) (tOp (rIx K) (tVar 0) (tC (.int 2))) (tCB (rLen K) (tCons (tOp (rIx K) (tVar 0) (tC (.int 3))) tNil))))
    (tAsg (tOp (rIx K) (tOp (rIx K) (tVar 0) (tC (.int 3))) (tOp (rIx K) (tVar 0) (tC (.int 2)))) (gName 2))
    tNext)
    (tSeq (tAugS (tVar 0) (tC (.int 2)) (tC (.int 1)) (rIxL K) (ipI fun i j => i + j) rSetL)
    (tSeq (tIfS (tTest (tOp (rI0 fun i j => .bl (decide (j ≤ i))) (tVar 2) (tC (.int 1000000000000000000))))
    (tAsg (tVar 2) (gSub (tVar 0) (tC (.int 0)) rSetL))
    tNext)
    (tAsg (tOp (rI (fun _ j => 0 < j) fun i j => .int (i % j)) (tOp (rI0 fun i j => .int (i + j)) (tOp (rI0 fun i j => .int (i + j)) (tOp (rI CMul fun i j => .int (i * j)) (tOp (rIx K) (tVar 0) (tC (.int 1))) (tC (.int 48271))) (tOp (rI (fun _ j => 0 < j) fun i j => .int (i % j)) (tVar 2) (tC (.int 2147483647)))) (tOp (rI CMul fun i j => .int (i * j)) (tC (.int 7919)) (tOp (rIx K) (tVar 0) (tC (.int 2))))) (tC (.int 2147483647))) (gSub (tVar 0) (tC (.int 1)) rSetL))))))
    tNext)
    (tSeq (tIfS (tTest (tOp (rI0 fun i j => .bl (decide (j < i))) (tOp (rIx K) (tVar 0) (tC (.int 0))) (tC (.int 0))))
    (tSeq (tAsg (tOp (rI (fun _ j => 0 < j) fun i j => .int (i % j)) (tOp (rIx K) (tVar 0) (tC (.int 0))) (tVar 1)) (gName 3))
    (tSeq (tAsg (tOp (rI CDivW fun i j => .int (i / j)) (tOp (rIx K) (tVar 0) (tC (.int 0))) (tVar 1)) (gSub (tVar 0) (tC (.int 0)) rSetL))
    (tRet (tVar 3))))
    tNext)
    (tSeq (tAsg (tOp (rI (fun _ j => 0 < j) fun i j => .int (i % j)) (tOp (rI CMul fun i j => .int (i * j)) (tOp (rI0 fun i j => .int (i + j)) (tOp (rIx K) (tVar 0) (tC (.int 1))) (tC (.int 1))) (tC (.int 39373))) (tC (.int 1000000007))) (gName 4))
    (tSeq (tAsg (tOp (rI (fun _ j => 0 < j) fun i j => .int (i % j)) (tOp (rI CMul fun i j => .int (i * j)) (tOp (rI (fun _ j => 0 < j) fun i j => .int (i % j)) (tOp (rI CMul fun i j => .int (i * j)) (tVar 4) (tVar 4)) (tC (.int 998244353))) (tC (.int 30011))) (tC (.int 998244353))) (gName 5))
    (tSeq (tIfS (tTest (tOp (rI0 fun i j => .bl (decide (j < i))) (tVar 1) (tC (.int 1000000))))
    (tRet (tOp (rI (fun _ j => 0 < j) fun i j => .int (i % j)) (tOp (rI0 fun i j => .int (i + j)) (tOp (rI CMul fun i j => .int (i * j)) (tVar 5) (tC (.int 1000000007))) (tVar 4)) (tVar 1)))
    tNext)
    (tRet (tOp (rI (fun _ j => 0 < j) fun i j => .int (i % j)) (tOp (rI CDivW fun i j => .int (i / j)) (tVar 5) (tC (.int 7))) (tVar 1))))))))
section
variable {K : PySem.W.Frag}
/-- the bag at a, by its parts -/
def bagL (x y z : Int) (c : Addr) : HO := .lst [.int x, .int y, .int z, .ref c]
theorem ite_of {c : Prop} [Decidable c] {p q : Prop} (h1 : c → p) (h2 : ¬ c → q) : if c then p else q := by
  by_cases h : c
  · rw [if_pos h]; exact h1 h
  · rw [if_neg h]; exact h2 h
theorem r_take {vs : List V} {H : Hp} {Q : VK} {EE : XK} (h : spTake K vs H Q EE) : tTake K { nx := fun _ H' => Q .non H', rt := Q } (L2.start ["bag", "many", "cell", "value", "first", "second"] vs) H := by
  obtain ⟨b, F, ds, hl, hw, hd, ⟨hb, n, rfl, n0, n1⟩, q⟩ := h
  obtain ⟨v0, v1, rfl, d0, d1⟩ : ∃ v0 v1, vs = [v0, v1] ∧ Dv K b F v0 .bag ∧ Dv K b F v1 (.int n) := by
    cases hd with | cons x y => cases y with | cons x2 y2 => cases y2; exact ⟨_, _, rfl, x, x2⟩
  cases d1
  cases d0 with
  | @bag a c hbg =>
  have B := hw.bag a c hbg
  obtain ⟨x, y, z, hH, x0, y0, y1, z0⟩ := B.bag
  obtain ⟨ns, hc, hns⟩ := B.cell
  have hcH : SqL K H c (ns.map V.int) := exL hw.ex hc
  have hout : F a = none := B.out
  have ca : ∀ {G : Hp} {o : HO}, SqL K F c (ns.map V.int) := fun {G o} => hc
  -- what is known at each moment: H with other parts in the bag
  have fin : ∀ (x y z v : Int), 0 ≤ x → 0 ≤ y → y < 2147483647 → 0 ≤ z → 0 ≤ v → v < n → Q (.int v) (upd H a (bagL x y z c)) := fun x y z v hx hy hy1 hz h0 h1 =>
    q (.int v) F (upd H a (bagL x y z c)) (.int v) ⟨Ex.refl _, fun a' o nb e => by rw [upd_ne (show a' ≠ a from fun z => nb c (by rw [z]; exact hbg))]; exact e, fun a' e _ => e⟩
      ⟨fun a' o e => by rw [upd_ne (ne_of_none e hout)]; exact hw.ex a' o e, fun a' c' e => by
        rw [hbg] at e
        cases e
        exact ⟨hout, ⟨x, y, z, upd_same, hx, hy, hy1, hz⟩, ⟨ns, hc, hns⟩⟩⟩ (.int v) ⟨n, v, rfl, rfl, h0, h1⟩
  have hcU : ∀ (o : HO), SqL K (upd H a o) c (ns.map V.int) := fun o => exL (fun a' u e => by rw [upd_ne (ne_of_none e hout)]; exact hw.ex a' u e) hc
  show tTake K { nx := fun _ H' => Q .non H', rt := Q } [some (.ref a), some (.int n), none, none, none, none] H
  -- the second half, from any bag
  have tail : ∀ (x y z : Int) (s2 : Option V), 0 ≤ x → 0 ≤ y → y < 2147483647 → 0 ≤ z →
      (tSeq (tIfS (tTest (tOp (rI0 fun i j => .bl (decide (j < i))) (tOp (rIx K) (tVar 0) (tC (.int 0))) (tC (.int 0))))
    (tSeq (tAsg (tOp (rI (fun _ j => 0 < j) fun i j => .int (i % j)) (tOp (rIx K) (tVar 0) (tC (.int 0))) (tVar 1)) (gName 3))
    (tSeq (tAsg (tOp (rI CDivW fun i j => .int (i / j)) (tOp (rIx K) (tVar 0) (tC (.int 0))) (tVar 1)) (gSub (tVar 0) (tC (.int 0)) rSetL))
    (tRet (tVar 3))))
    tNext)
    (tSeq (tAsg (tOp (rI (fun _ j => 0 < j) fun i j => .int (i % j)) (tOp (rI CMul fun i j => .int (i * j)) (tOp (rI0 fun i j => .int (i + j)) (tOp (rIx K) (tVar 0) (tC (.int 1))) (tC (.int 1))) (tC (.int 39373))) (tC (.int 1000000007))) (gName 4))
    (tSeq (tAsg (tOp (rI (fun _ j => 0 < j) fun i j => .int (i % j)) (tOp (rI CMul fun i j => .int (i * j)) (tOp (rI (fun _ j => 0 < j) fun i j => .int (i % j)) (tOp (rI CMul fun i j => .int (i * j)) (tVar 4) (tVar 4)) (tC (.int 998244353))) (tC (.int 30011))) (tC (.int 998244353))) (gName 5))
    (tSeq (tIfS (tTest (tOp (rI0 fun i j => .bl (decide (j < i))) (tVar 1) (tC (.int 1000000))))
    (tRet (tOp (rI (fun _ j => 0 < j) fun i j => .int (i % j)) (tOp (rI0 fun i j => .int (i + j)) (tOp (rI CMul fun i j => .int (i * j)) (tVar 5) (tC (.int 1000000007))) (tVar 4)) (tVar 1)))
    tNext)
    (tRet (tOp (rI (fun _ j => 0 < j) fun i j => .int (i % j)) (tOp (rI CDivW fun i j => .int (i / j)) (tVar 5) (tC (.int 7))) (tVar 1))))))) { nx := fun _ H' => Q .non H', rt := Q } [some (.ref a), some (.int n), s2, none, none, none] (upd H a (bagL x y z c)) := by
    intro x y z s2 hx hy hy1 hz
    have rd : ∀ {i : Int} {v : V}, atI [.int x, .int y, .int z, .ref c] i = some v → ∀ (Q' : VK), Q' v (upd H a (bagL x y z c)) → rIx K (.ref a) (.int i) (upd H a (bagL x y z c)) Q' := fun {i v} e Q' h =>
      .inl ⟨a, _, i, v, rfl, rfl, SqL.of upd_same, e, h⟩
    refine ⟨.ref a, rfl, rd (i := 0) rfl _ ⟨x, 0, rfl, rfl, _, rfl, ite_of (fun e => ?_) (fun e => ?_)⟩⟩
    · have hx1 : 0 < x := of_decide_eq_true e
      refine ⟨.ref a, rfl, rd (i := 0) rfl _ ⟨.int n, rfl, x, n, rfl, rfl, n0, ?_⟩⟩
      refine ⟨.ref a, rfl, rd (i := 0) rfl _ ⟨.int n, rfl, x, n, rfl, rfl, wide_div n0 (b := 62) (by omega) (by decide) (by decide), .ref a, rfl, a, _, 0, 0, rfl, rfl, upd_same, rfl, ?_⟩⟩
      refine ⟨.int (x % n), rfl, ?_⟩
      rw [upd_upd]
      exact fin (x / n) y z (x % n) (Int.ediv_nonneg hx (by omega)) hy hy1 hz (Int.emod_nonneg _ (by omega)) (Int.emod_lt_of_pos _ n0)
    · refine ⟨.ref a, rfl, rd (i := 1) rfl _ ⟨y, 1, rfl, rfl, y + 1, 39373, rfl, rfl, .inl (by omega), (y + 1) * 39373, 1000000007, rfl, rfl, (show (0 : Int) < 1000000007 from by decide), ?_⟩⟩
      obtain ⟨f, f0, hf⟩ : ∃ f : Int, (0 ≤ f ∧ f < 1000000007) ∧ (y + 1) * 39373 % 1000000007 = f := ⟨_, by omega, rfl⟩
      simp only [hf]
      refine ⟨.int f, rfl, .int f, rfl, f, f, rfl, rfl, .inl (by omega), f * f, 998244353, rfl, rfl, (show (0 : Int) < 998244353 from by decide), f * f % 998244353, 30011, rfl, rfl, .inr (by decide), _, 998244353, rfl, rfl, (show (0 : Int) < 998244353 from by decide), ?_⟩
      obtain ⟨g, g0, hg⟩ : ∃ g : Int, (0 ≤ g ∧ g < 998244353) ∧ f * f % 998244353 * 30011 % 998244353 = g := ⟨_, by omega, rfl⟩
      simp only [hg]
      refine ⟨.int n, rfl, n, 1000000, rfl, rfl, _, rfl, ite_of (fun e => ?_) (fun e => ?_)⟩
      · refine ⟨.int g, rfl, g, 1000000007, rfl, rfl, .inl (by omega), .int f, rfl, g * 1000000007, f, rfl, rfl, .int n, rfl, _, n, rfl, rfl, n0, ?_⟩
        exact fin x y z _ hx hy hy1 hz (Int.emod_nonneg _ (by omega)) (Int.emod_lt_of_pos _ n0)
      · refine ⟨.int g, rfl, g, 7, rfl, rfl, ⟨by decide, by decide +kernel⟩, .int n, rfl, g / 7, n, rfl, rfl, n0, ?_⟩
        exact fin x y z _ hx hy hy1 hz (Int.emod_nonneg _ (by omega)) (Int.emod_lt_of_pos _ n0)
  have eH : upd H a (bagL x y z c) = H := by
    funext a'
    by_cases e : a' = a
    · subst e; rw [upd_same]; exact hH.symm
    · rw [upd_ne e]
  have rd : ∀ (x y z : Int) {i : Int} {v : V}, atI [.int x, .int y, .int z, .ref c] i = some v → ∀ (Q' : VK), Q' v (upd H a (bagL x y z c)) → rIx K (.ref a) (.int i) (upd H a (bagL x y z c)) Q' := fun x y z {i v} e Q' h =>
      .inl ⟨a, _, i, v, rfl, rfl, SqL.of upd_same, e, h⟩
  rw [← eH]
  refine ⟨.ref a, rfl, rd x y z (i := 0) rfl _ ⟨.int x, .int 0, .int _, .int _, rfl, rfl, _, rfl, ite_of (fun e => ?_) (fun e => ?_)⟩⟩
  · -- a new cell
    have mid : ∀ (N : L2.St → Hp → Prop) (m : Int), 0 ≤ m → (∀ x y z s2, 0 ≤ x → 0 ≤ y → y < 2147483647 → 0 ≤ z → N [some (.ref a), some (.int n), s2, none, none, none] (upd H a (bagL x y z c))) →
        (tSeq (tAugS (tVar 0) (tC (.int 2)) (tC (.int 1)) (rIxL K) (ipI fun i j => i + j) rSetL)
    (tSeq (tIfS (tTest (tOp (rI0 fun i j => .bl (decide (j ≤ i))) (tVar 2) (tC (.int 1000000000000000000))))
    (tAsg (tVar 2) (gSub (tVar 0) (tC (.int 0)) rSetL))
    tNext)
    (tAsg (tOp (rI (fun _ j => 0 < j) fun i j => .int (i % j)) (tOp (rI0 fun i j => .int (i + j)) (tOp (rI0 fun i j => .int (i + j)) (tOp (rI CMul fun i j => .int (i * j)) (tOp (rIx K) (tVar 0) (tC (.int 1))) (tC (.int 48271))) (tOp (rI (fun _ j => 0 < j) fun i j => .int (i % j)) (tVar 2) (tC (.int 2147483647)))) (tOp (rI CMul fun i j => .int (i * j)) (tC (.int 7919)) (tOp (rIx K) (tVar 0) (tC (.int 2))))) (tC (.int 2147483647))) (gSub (tVar 0) (tC (.int 1)) rSetL))))
        { nx := N, rt := Q } [some (.ref a), some (.int n), some (.int m), none, none, none] (upd H a (bagL x y z c)) := by
      intro N m hm hN
      refine ⟨.ref a, rfl, a, _, 2, .int z, rfl, rfl, SqL.of upd_same, rfl, z, 1, rfl, rfl, a, _, 2, 2, rfl, rfl, upd_same, rfl, ?_⟩
      rw [upd_upd]
      have last : ∀ (x : Int), 0 ≤ x → (tAsg (tOp (rI (fun _ j => 0 < j) fun i j => .int (i % j)) (tOp (rI0 fun i j => .int (i + j)) (tOp (rI0 fun i j => .int (i + j)) (tOp (rI CMul fun i j => .int (i * j)) (tOp (rIx K) (tVar 0) (tC (.int 1))) (tC (.int 48271))) (tOp (rI (fun _ j => 0 < j) fun i j => .int (i % j)) (tVar 2) (tC (.int 2147483647)))) (tOp (rI CMul fun i j => .int (i * j)) (tC (.int 7919)) (tOp (rIx K) (tVar 0) (tC (.int 2))))) (tC (.int 2147483647))) (gSub (tVar 0) (tC (.int 1)) rSetL))
          { nx := N, rt := Q } [some (.ref a), some (.int n), some (.int m), none, none, none] (upd H a (bagL x y (z + 1) c)) := by
        intro x hx
        refine ⟨.ref a, rfl, rd x y (z + 1) (i := 1) rfl _ ⟨y, 48271, rfl, rfl, .inl (by omega), .int m, rfl, m, 2147483647, rfl, rfl, (show (0 : Int) < 2147483647 from by decide), y * 48271, m % 2147483647, rfl, rfl, .ref a, rfl, rd x y (z + 1) (i := 2) rfl _ ⟨7919, z + 1, rfl, rfl, .inl (by decide), _, _, rfl, rfl, _, 2147483647, rfl, rfl, (show (0 : Int) < 2147483647 from by decide), .ref a, rfl, a, _, 1, 1, rfl, rfl, upd_same, rfl, ?_⟩⟩⟩
        rw [upd_upd]
        exact hN x _ (z + 1) (some (.int m)) hx (Int.emod_nonneg _ (by decide)) (Int.emod_lt_of_pos _ (by decide)) (by omega)
      refine ⟨.int m, rfl, m, 1000000000000000000, rfl, rfl, _, rfl, ite_of (fun e2 => ?_) (fun e2 => ?_)⟩
      · refine ⟨.int m, rfl, .ref a, rfl, a, _, 0, 0, rfl, rfl, upd_same, rfl, ?_⟩
        rw [upd_upd]
        exact last m hm
      · exact last x x0
    refine ⟨.ref a, rfl, rd x y z (i := 2) rfl _ ⟨.ref a, rfl, rd x y z (i := 3) rfl _ ⟨c, _, rfl, .inl (hcU _), z, _, rfl, rfl, _, rfl, ite_of (fun e2 => ?_) (fun e2 => ?_)⟩⟩⟩
    · have hz : z < ((ns.map V.int).length : Int) := of_decide_eq_true e2
      have hlt : z.toNat < ns.length := by rw [List.length_map] at hz; omega
      have at1 : atI (ns.map V.int) z = some (.int ns[z.toNat]) := by
        have := atI_nat (xs := ns.map V.int) (j := z.toNat) (v := .int ns[z.toNat]) (by rw [List.getElem?_map, List.getElem?_eq_getElem hlt]; rfl)
        rw [Int.toNat_of_nonneg z0] at this
        exact this
      refine ⟨.ref a, rfl, rd x y z (i := 3) rfl _ ⟨.ref a, rfl, rd x y z (i := 2) rfl _ (.inl ⟨c, _, z, _, rfl, rfl, hcU _, at1, ?_⟩)⟩⟩
      exact mid _ _ (hns _ (List.getElem_mem _)) tail
    · exact mid _ 0 (Int.le_refl _) tail
  · exact tail x y z none x0 y0 y1 z0
end
section
variable {K : PySem.W.Frag} {b : Bg} {E : Env'} {tb : TE} {Φ : D → Prop} {EE : XK}
theorem wtake {i : Nat} (hb : b.isSome = true) (hi : E[i]? = some (.d .bag)) (h : wpe K b tb E fun y => ∃ n : Int, y = .int n ∧ 0 < n ∧ n ≤ 4000000000000000000 ∧ ∀ v, 0 ≤ v → v < n → Φ (.int v)) :
    wpe K b (tCall (spTake K) [] EE (tCons (tVar i) (tCons tb tNil))) E Φ := wpe_take hb (wpe_var hi ⟨rfl, h⟩)
theorem wtakeC {i : Nat} {n : Int} (hb : b.isSome = true) (hi : E[i]? = some (.d .bag)) (h0 : 0 < n) (h1 : n ≤ 4000000000000000000) (h : ∀ v, 0 ≤ v → v < n → Φ (.int v)) :
    wpe K b (tCall (spTake K) [] EE (tCons (tVar i) (tCons (tC (.int n)) tNil))) E Φ := wtake hb hi (wpe_int ⟨n, rfl, h0, h1, h⟩)
end
end DL

namespace DL
open PySem PySem.Spec PyProof.Rows L2
/-! sides, bounds, wishes, rows as data -/
abbrev Bnd := Int × Bool × Int
def wayS : Bool → Str
  | true => "most"
  | false => "least"
def encB (q : Bnd) : D := .tup [.int q.1, .str (wayS q.2.1), .int q.2.2]
def encR (r : List Int) : D := .tup (r.map D.int)
def encW (ws : List Bnd) : D := .lst (ws.map encB)
def rget (r : List Int) (c : Int) : Int := r.getD c.toNat 0
/-- whether a row meets a bound -/
def mb (r : List Int) (q : Bnd) : Bool := if q.2.1 then decide (rget r q.1 ≤ q.2.2) else decide (q.2.2 ≤ rget r q.1)
def inW (n : Nat) (q : Bnd) : Prop := 0 ≤ q.1 ∧ q.1 < n
theorem wayS_ok (m : Bool) : (wayS m).cps.all (· < 0x110000) = true := by cases m <;> decide +kernel
theorem wayS_len (m : Bool) : (wayS m).length ≤ 5 := by cases m <;> decide +kernel
theorem wayS_least (m : Bool) : D.eq (.str (wayS m)) (.str ("least" : Str)) = !m := by cases m <;> decide +kernel
theorem wayS_most (m : Bool) : D.eq (.str (wayS m)) (.str ("most" : Str)) = m := by cases m <;> decide +kernel
theorem ok_str {n : Nat} {x : Str} (h : x.cps.all (· < 0x110000) = true) : D.ok n (.str x) = true := by
  unfold D.ok
  exact h
theorem encB_ok (n : Nat) (q : Bnd) : D.ok (n + 1) (encB q) = true := by
  unfold encB D.ok D.okA D.ok D.okA D.okA D.ok
  cases n <;> simp [D.okA, D.ok, wayS_ok]
theorem encW_ok (n : Nat) (ws : List Bnd) : D.ok (n + 2) (encW ws) = true := by
  unfold encW D.ok
  refine okA_of fun d hd => ?_
  obtain ⟨q, _, rfl⟩ := List.mem_map.mp hd
  exact encB_ok n q
theorem encR_ok (n : Nat) (r : List Int) : D.ok (n + 1) (encR r) = true := by
  unfold encR D.ok
  refine okA_of fun d hd => ?_
  obtain ⟨q, _, rfl⟩ := List.mem_map.mp hd
  cases n <;> rfl
theorem rget_at {r : List Int} {c : Int} (h0 : 0 ≤ c) (h1 : c < r.length) : atI (r.map D.int) c = some (.int (rget r c)) := by
  have hl : c.toNat < r.length := by omega
  have := atI_nat (xs := r.map D.int) (j := c.toNat) (v := .int r[c.toNat]) (by rw [List.getElem?_map, List.getElem?_eq_getElem hl]; rfl)
  rw [Int.toNat_of_nonneg h0] at this
  rw [this]
  unfold rget
  rw [List.getD, List.getElem?_eq_getElem hl]
  rfl
theorem encB_cost (q : Bnd) : (encB q).cost ≤ 200 := by
  have := wayS_len q.2.1
  unfold encB
  simp only [D.cost, D.costA]
  omega
theorem encW_cost (ws : List Bnd) : (encW ws).cost ≤ ws.length * 202 + 5 := by
  unfold encW
  have h := costA_le (c := 200) (ds := ws.map encB) (fun d hd => by
    obtain ⟨q, _, rfl⟩ := List.mem_map.mp hd
    exact encB_cost q)
  rw [List.length_map] at h
  simp only [D.cost]
  omega
def smB (q : Bnd) : Prop := q.1.natAbs < 10 ^ 50 ∧ q.2.2.natAbs < 10 ^ 50
theorem encB_sm {q : Bnd} (h : smB q) : (encB q).sm = true := by
  unfold encB
  simp only [D.sm, D.smA, Bool.and_true, Bool.true_and, Bool.and_eq_true]
  exact ⟨decide_eq_true h.1, decide_eq_true h.2⟩
theorem encW_sm {ws : List Bnd} (h : ∀ q ∈ ws, smB q) : (encW ws).sm = true := by
  unfold encW
  simp only [D.sm]
  refine smA_of fun d hd => ?_
  obtain ⟨q, hq, rfl⟩ := List.mem_map.mp hd
  exact encB_sm (h q hq)
/-! the order of bounds -/
theorem encB_py (q : Bnd) : (encB q).py = .tuple [.int q.1, .str (wayS q.2.1), .int q.2.2] := by unfold encB; simp only [D.py, D.pyA]
theorem alikeB (p q : Bnd) : PySem.W.alike (encB p).py (encB q).py = true := by
  rw [encB_py, encB_py]
  simp [PySem.W.alike, PySem.W.alikeAll]
theorem allAlikeB (ws : List Bnd) : PySem.W.AllAlike ((ws.map encB).map D.py) := by
  rw [List.map_map]
  exact PySem.W.AllAlike.of (enc := D.py ∘ encB) fun p q => alikeB p q
theorem sortableB (ws : List Bnd) : PySem.W.Sortable ((ws.map encB).map D.py) := by
  rw [List.map_map]
  refine PySem.W.Sortable.tuples (enc := D.py ∘ encB) fun q => ⟨.int q.1, [.str (wayS q.2.1), .int q.2.2], ?_⟩
  exact encB_py q
def ltB (p q : Bnd) : Bool := if p.1 = q.1 then (if p.2.1 = q.2.1 then decide (p.2.2 < q.2.2) else q.2.1) else decide (p.1 < q.1)
theorem ltB_data (p q : Bnd) : PySem.W.dataLt (encB p).py (encB q).py = ltB p q := by
  obtain ⟨a, m, v⟩ := p
  obtain ⟨a', m', v'⟩ := q
  rw [encB_py, encB_py, PySem.W.dataLt_tuple]
  rw [PySem.W.dataLt_cons (by simp [PySem.W.alike]), PySem.W.dataLt_cons (by simp [PySem.W.alike]), PySem.W.dataLt_cons (by simp [PySem.W.alike])]
  rw [PySem.W.dataLt_int, PySem.W.dataLt_int, PySem.W.dataLt_str]
  unfold ltB
  have z1 : PyData.eqv (.int a) (.int a') = decide (a = a') := by show (a == a') = _; rfl
  have z2 : PyData.eqv (.str (wayS m)) (.str (wayS m')) = decide (m = m') := by cases m <;> cases m' <;> decide +kernel
  have z3 : PyData.eqv (.int v) (.int v') = decide (v = v') := by show (v == v') = _; rfl
  show (if PyData.eqv (.int a) (.int a') = true then (if PyData.eqv (.str (wayS m)) (.str (wayS m')) = true then (if PyData.eqv (.int v) (.int v') = true then PyProof.Rows.lexLt itemOrd (PySem.W.keyToksAll []) (PySem.W.keyToksAll []) else decide (v < v')) else decide ((wayS m).cps.toList < (wayS m').cps.toList)) else decide (a < a')) = _
  rw [z1, z2, z3]
  by_cases h1 : a = a'
  · rw [if_pos (decide_eq_true h1), if_pos (show (a, m, v).1 = (a', m', v').1 from h1)]
    by_cases h2 : m = m'
    · rw [if_pos (decide_eq_true h2), if_pos (show (a, m, v).2.1 = (a', m', v').2.1 from h2)]
      by_cases h3 : v = v'
      · rw [if_pos (decide_eq_true h3), h3]
        show false = decide (v' < v')
        rw [decide_eq_false (by omega)]
      · rw [if_neg (by simpa using h3)]
    · rw [if_neg (by simpa using h2), if_neg (show ¬ (a, m, v).2.1 = (a', m', v').2.1 from h2)]
      show decide ((wayS m).cps.toList < (wayS m').cps.toList) = m'
      cases m <;> cases m' <;> first | exact absurd rfl h2 | decide +kernel
  · rw [if_neg (by simpa using h1), if_neg (show ¬ (a, m, v).1 = (a', m', v').1 from h1)]
theorem leD_total : PySem.W.TotalLe leD := PySem.W.sortLe_total (listOrd itemOrd) false fun d : D => PySem.W.keyToks d.py
theorem leD_B (p q : Bnd) : leD (encB p) (encB q) = !ltB q p := by
  rw [← ltB_data]; rfl
theorem leD_antisymm {p q : Bnd} (h1 : leD (encB p) (encB q) = true) (h2 : leD (encB q) (encB p) = true) : p = q := by
  rw [leD_B] at h1 h2
  obtain ⟨a, m, v⟩ := p
  obtain ⟨a', m', v'⟩ := q
  unfold ltB at h1 h2
  simp only [Bool.not_eq_true'] at h1 h2
  by_cases e1 : a = a'
  · subst e1
    by_cases e2 : m = m'
    · subst e2
      simp at h1 h2
      have : v = v' := by omega
      rw [this]
    · have e3 : ¬ m' = m := fun z => e2 z.symm
      simp [e2, e3] at h1 h2
      exact absurd (h1.trans h2.symm) e2
  · have e3 : ¬ a' = a := fun z => e1 z.symm
    simp [e1, e3] at h1 h2
    omega
/-- the sorted bounds -/
def sortB (ws : List Bnd) : List Bnd := ws.mergeSort fun p q => leD (encB p) (encB q)
theorem sortB_map (ws : List Bnd) : (ws.map encB).mergeSort leD = (sortB ws).map encB :=
  (PySem.W.sort_maps (r := fun p q => leD (encB p) (encB q)) (s := leD) encB (fun _ _ _ _ => rfl)).symm
theorem sortB_perm (ws : List Bnd) : (sortB ws).Perm ws := List.mergeSort_perm _ _
theorem sortB_pw (ws : List Bnd) : (sortB ws).Pairwise fun p q => leD (encB p) (encB q) = true :=
  List.pairwise_mergeSort (le := fun p q => leD (encB p) (encB q)) (fun a b c h1 h2 => leD_total.trans _ _ _ h1 h2) (fun a b => by
    show (leD (encB a) (encB b) || leD (encB b) (encB a)) = true
    rcases leD_total.total (encB a) (encB b) with h | h
    · rw [h]; rfl
    · rw [h, Bool.or_true]) ws
theorem sortB_eq {ws us : List Bnd} (h : ws.Perm us) : sortB ws = sortB us :=
  List.Perm.eq_of_pairwise (fun a b _ _ h1 h2 => leD_antisymm h1 h2) (sortB_pw ws) (sortB_pw us) (((sortB_perm ws).trans h).trans (sortB_perm us).symm)
theorem eq_self {d : D} (n : Nat) (h : D.ok n d = true) : D.eq d d = true := PySem.SeqAt.eqv_refl d.py (ok_lay n d h).1
/-! draws -/
theorem any_bl {bs : List Bool} : ∀ {ds : List D}, ds = bs.map D.bl → ds = bs.map D.bl := id
end DL

namespace PK
open PySem PySem.Spec PyProof.Rows L2 DL
abbrev top (i : Nat) : Stmt := PySem.Challenge.pw_packedseats_k12_bounds_met_and_missed.main.body.getD i (.Pass ⟨0, 0, 0, 0⟩)
abbrev s_meets : Stmt := top 1
theorem sc_meets : FnScope ["row", "wish", "bound"] ["row", "wish"] (defScope s_meets) :=
  ⟨by rfl, by rfl, by rfl, by decide +kernel, by rfl, by decide +kernel, by decide +kernel⟩
abbrev s_missed : Stmt := top 2
theorem sc_missed : FnScope ["row", "wish", "bound"] ["row", "wish"] (defScope s_missed) :=
  ⟨by rfl, by rfl, by rfl, by decide +kernel, by rfl, by decide +kernel, by decide +kernel⟩
abbrev s_meets_bound : Stmt := top 3
theorem sc_meets_bound : FnScope ["row", "bound", "column", "way", "value"] ["row", "bound"] (defScope s_meets_bound) :=
  ⟨by rfl, by rfl, by rfl, by decide +kernel, by rfl, by decide +kernel, by decide +kernel⟩
abbrev s_law_bag : Stmt := top 5
theorem sc_law_bag : FnScope ["script", "cell"] ["script"] (defScope s_law_bag) :=
  ⟨by rfl, by rfl, by rfl, by decide +kernel, by rfl, by decide +kernel, by decide +kernel⟩
abbrev s_law_take : Stmt := top 6
theorem sc_law_take : FnScope ["bag", "many", "cell", "value", "first", "second"] ["bag", "many"] (defScope s_law_take) :=
  ⟨by rfl, by rfl, by rfl, by decide +kernel, by rfl, by decide +kernel, by decide +kernel⟩
abbrev s_law_alike : Stmt := top 7
theorem sc_law_alike : FnScope ["found", "due"] ["found", "due"] (defScope s_law_alike) :=
  ⟨by rfl, by rfl, by rfl, by decide +kernel, by rfl, by decide +kernel, by decide +kernel⟩
abbrev s_law_meets : Stmt := top 8
theorem sc_law_meets : FnScope ["row", "wish", "column", "way", "value"] ["row", "wish"] (defScope s_law_meets) :=
  ⟨by rfl, by rfl, by rfl, by decide +kernel, by rfl, by decide +kernel, by decide +kernel⟩
abbrev s_law_wide_value : Stmt := top 9
theorem sc_law_wide_value : FnScope ["bag", "far", "some"] ["bag"] (defScope s_law_wide_value) :=
  ⟨by rfl, by rfl, by rfl, by decide +kernel, by rfl, by decide +kernel, by decide +kernel⟩
abbrev s_law_beside : Stmt := top 10
theorem sc_law_beside : FnScope ["bag", "row", "found", "k", "column", "way", "value", "bound"] ["bag", "row"] (defScope s_law_beside) :=
  ⟨by rfl, by rfl, by rfl, by decide +kernel, by rfl, by decide +kernel, by decide +kernel⟩
abbrev s_law : Stmt := top 11
theorem sc_law : FnScope ["script", "bag", "k", "row", "wish", "due", "handed", "kept", "told", "column", "bound"] ["script"] (defScope s_law) :=
  ⟨by rfl, by rfl, by rfl, by decide +kernel, by rfl, by decide +kernel, by decide +kernel⟩
def sp_law_bag (K : PySem.W.Frag) : Sp := spBag K
def sp_law (K : PySem.W.Frag) : Sp := spLaw K
abbrev sp_law_take (K : PySem.W.Frag) : Sp := spTake K
def rowOk (r : List Int) : Prop := 0 < r.length ∧ r.length ≤ 6 ∧ ∀ v ∈ r, v.natAbs ≤ 10 ^ 18
def wishOk (n : Nat) (ws : List Bnd) : Prop := ws.length ≤ 20 ∧ ∀ q ∈ ws, inW n q ∧ q.2.2.natAbs ≤ 10 ^ 18
abbrev sp_meets_bound (K : PySem.W.Frag) : Sp := Sd K 2 (fun _ ds => ∃ r q, ds = [encR r, encB q] ∧ inW r.length q) fun ds x => ∀ r q, ds = [encR r, encB q] → x = .bl (mb r q)
abbrev sp_meets (K : PySem.W.Frag) : Sp := Sd K 2 (fun _ ds => ∃ r ws, ds = [encR r, encW ws] ∧ wishOk r.length ws) fun ds x => ∀ r ws, ds = [encR r, encW ws] → x = .bl (ws.all (mb r))
abbrev sp_law_meets (K : PySem.W.Frag) : Sp := Sd K 2 (fun _ ds => ∃ r ws, ds = [encR r, encW ws] ∧ wishOk r.length ws) fun ds x => ∀ r ws, ds = [encR r, encW ws] → x = .bl (ws.all (mb r))
abbrev sp_missed (K : PySem.W.Frag) : Sp := Sl K 2 (fun _ ds => ∃ r ws, ds = [encR r, encW ws] ∧ wishOk r.length ws) fun ds es => ∀ r ws, ds = [encR r, encW ws] → es = (sortB (ws.filter fun q => !mb r q)).map encB
abbrev sp_law_alike (K : PySem.W.Frag) : Sp := Sd K 2 (fun _ ds => ∃ x, ds = [x, x] ∧ D.ok 9 x = true ∧ D.sm x = true ∧ x.cost ≤ 10000000) fun _ z => z = .bl true
abbrev sp_law_wide_value (K : PySem.W.Frag) : Sp := Sd K 1 (fun b ds => b.isSome = true ∧ ds = [.bag]) fun _ z => ∃ v : Int, z = .int v ∧ v.natAbs ≤ 10 ^ 18
abbrev sp_law_beside (K : PySem.W.Frag) : Sp := Sd K 2 (fun b ds => b.isSome = true ∧ ∃ r, ds = [.bag, encR r] ∧ rowOk r) fun ds z => ∀ r, ds = [.bag, encR r] → ∃ ws, z = encW ws ∧ wishOk r.length ws

def t_meets (K : PySem.W.Frag) : TS :=
  (tRet (tCB (rAll K) (tCons (tLc (iList K (tVar 1)) (gName 2) tYes (tCall (sp_meets_bound K) [] E0 (tCons (tVar 0) (tCons (tVar 2) tNil))) [2]) tNil)))
def t_missed (K : PySem.W.Frag) : TS :=
  (tRet (tCB (rSrt K) (tCons (tLc (iList K (tVar 1)) (gName 2) (tNot (tB (tCall (sp_meets_bound K) [] E0 (tCons (tVar 0) (tCons (tVar 2) tNil))))) (tVar 2) [2]) tNil)))
def t_meets_bound (K : PySem.W.Frag) : TS :=
  (tSeq (tAsg (tVar 1) (gTup K 3 (gCons (gName 2) (gCons (gName 3) (gCons (gName 4) gNil)))))
    (tSeq (tIfS (tTest (tOp (rEqD K) (tVar 3) (tC (.str ("least" : Str)))))
    (tRet (tOp (rI0 fun i j => .bl (decide (j ≤ i))) (tOp (rIx K) (tVar 0) (tVar 2)) (tVar 4)))
    tNext)
    (tRet (tOp (rI0 fun i j => .bl (decide (i ≤ j))) (tOp (rIx K) (tVar 0) (tVar 2)) (tVar 4)))))
def t_law_bag (K : PySem.W.Frag) : TS :=
  (tRet (tLst (tCons (tC (.int 0)) (tCons (tC (.int 1234567891)) (tCons (tC (.int 0)) (tCons (tLc (iList K (tSl (rSl K) (tVar 0) tNoPart (tPart (tC (.int 63))))) (gName 1) tYes (tCB rAbs (tCons (tVar 1) tNil)) [1]) tNil))))))
def t_law_take (K : PySem.W.Frag) : TS :=
  (tSeq (tIfS (tTest (tOp (rEqD K) (tOp (rIx K) (tVar 0) (tC (.int 0))) (tC (.int 0))))
    (tSeq (tAsg (tC (.int 0)) (gName 2))
    (tSeq (tIfS (tTest (tOp (rI0 fun i j => .bl (decide (i < j))) (tOp (rIx K) (tVar 0) (tC (.int 2))) (tCB (DL.rLen K) (tCons (tOp (rIx K) (tVar 0) (tC (.int 3))) tNil))))
    (tAsg (tOp (rIx K) (tOp (rIx K) (tVar 0) (tC (.int 3))) (tOp (rIx K) (tVar 0) (tC (.int 2)))) (gName 2))
    tNext)
    (tSeq (tAugS (tVar 0) (tC (.int 2)) (tC (.int 1)) (rIxL K) (ipI fun i j => i + j) rSetL)
    (tSeq (tIfS (tTest (tOp (rI0 fun i j => .bl (decide (j ≤ i))) (tVar 2) (tC (.int 1000000000000000000))))
    (tAsg (tVar 2) (gSub (tVar 0) (tC (.int 0)) rSetL))
    tNext)
    (tAsg (tOp (rI (fun _ j => 0 < j) fun i j => .int (i % j)) (tOp (rI0 fun i j => .int (i + j)) (tOp (rI0 fun i j => .int (i + j)) (tOp (rI CMul fun i j => .int (i * j)) (tOp (rIx K) (tVar 0) (tC (.int 1))) (tC (.int 48271))) (tOp (rI (fun _ j => 0 < j) fun i j => .int (i % j)) (tVar 2) (tC (.int 2147483647)))) (tOp (rI CMul fun i j => .int (i * j)) (tC (.int 7919)) (tOp (rIx K) (tVar 0) (tC (.int 2))))) (tC (.int 2147483647))) (gSub (tVar 0) (tC (.int 1)) rSetL))))))
    tNext)
    (tSeq (tIfS (tTest (tOp (rI0 fun i j => .bl (decide (j < i))) (tOp (rIx K) (tVar 0) (tC (.int 0))) (tC (.int 0))))
    (tSeq (tAsg (tOp (rI (fun _ j => 0 < j) fun i j => .int (i % j)) (tOp (rIx K) (tVar 0) (tC (.int 0))) (tVar 1)) (gName 3))
    (tSeq (tAsg (tOp (rI CDivW fun i j => .int (i / j)) (tOp (rIx K) (tVar 0) (tC (.int 0))) (tVar 1)) (gSub (tVar 0) (tC (.int 0)) rSetL))
    (tRet (tVar 3))))
    tNext)
    (tSeq (tAsg (tOp (rI (fun _ j => 0 < j) fun i j => .int (i % j)) (tOp (rI CMul fun i j => .int (i * j)) (tOp (rI0 fun i j => .int (i + j)) (tOp (rIx K) (tVar 0) (tC (.int 1))) (tC (.int 1))) (tC (.int 39373))) (tC (.int 1000000007))) (gName 4))
    (tSeq (tAsg (tOp (rI (fun _ j => 0 < j) fun i j => .int (i % j)) (tOp (rI CMul fun i j => .int (i * j)) (tOp (rI (fun _ j => 0 < j) fun i j => .int (i % j)) (tOp (rI CMul fun i j => .int (i * j)) (tVar 4) (tVar 4)) (tC (.int 998244353))) (tC (.int 30011))) (tC (.int 998244353))) (gName 5))
    (tSeq (tIfS (tTest (tOp (rI0 fun i j => .bl (decide (j < i))) (tVar 1) (tC (.int 1000000))))
    (tRet (tOp (rI (fun _ j => 0 < j) fun i j => .int (i % j)) (tOp (rI0 fun i j => .int (i + j)) (tOp (rI CMul fun i j => .int (i * j)) (tVar 5) (tC (.int 1000000007))) (tVar 4)) (tVar 1)))
    tNext)
    (tRet (tOp (rI (fun _ j => 0 < j) fun i j => .int (i % j)) (tOp (rI CDivW fun i j => .int (i / j)) (tVar 5) (tC (.int 7))) (tVar 1))))))))
def t_law_alike (K : PySem.W.Frag) : TS :=
  (tRet (tAndV (tOp (rEqD K) (tVar 0) (tVar 1)) (tOp rEq (tCB (rRepr K) (tCons (tVar 0) tNil)) (tCB (rRepr K) (tCons (tVar 1) tNil)))))
def t_law_meets (K : PySem.W.Frag) : TS :=
  (tSeq (tFor (iList K (tVar 1)) (gTup K 3 (gCons (gName 2) (gCons (gName 3) (gCons (gName 4) gNil))))
    (tIfS (tOr (tAnd (tTest (tOp (rEqD K) (tVar 3) (tC (.str ("least" : Str))))) (tTest (tOp (rI0 fun i j => .bl (decide (i < j))) (tOp (rIx K) (tVar 0) (tVar 2)) (tVar 4)))) (tAnd (tTest (tOp (rEqD K) (tVar 3) (tC (.str ("most" : Str))))) (tTest (tOp (rI0 fun i j => .bl (decide (j < i))) (tOp (rIx K) (tVar 0) (tVar 2)) (tVar 4)))))
    (tRet (tC (.bl false)))
    tNext))
    (tRet (tC (.bl true))))
def t_law_wide_value (K : PySem.W.Frag) : TS :=
  (tSeq (tAsg (tOp (rI CPow fun i j => .int (i ^ j.toNat)) (tC (.int 10)) (tC (.int 18))) (gName 1))
    (tSeq (tAsg (tLst (tCons (tOp (rI0 fun i j => .int (i - j)) (tCall (sp_law_take K) [] E0 (tCons (tVar 0) (tCons (tC (.int 5)) tNil))) (tC (.int 2))) (tCons (tOp (rI0 fun i j => .int (i - j)) (tCall (sp_law_take K) [] E0 (tCons (tVar 0) (tCons (tC (.int 5)) tNil))) (tC (.int 2))) (tCons (tOp (rI0 fun i j => .int (i - j)) (tVar 1) (tCall (sp_law_take K) [] E0 (tCons (tVar 0) (tCons (tC (.int 3)) tNil)))) (tCons (tOp (rI0 fun i j => .int (i - j)) (tCall (sp_law_take K) [] E0 (tCons (tVar 0) (tCons (tC (.int 3)) tNil))) (tVar 1)) tNil))))) (gName 2))
    (tRet (tOp (rIx K) (tOp rCat (tVar 2) (tLst (tCons (tOp (rI0 fun i j => .int (i - j)) (tCall (sp_law_take K) [] E0 (tCons (tVar 0) (tCons (tOp (rI0 fun i j => .int (i + j)) (tOp (rI CMul fun i j => .int (i * j)) (tC (.int 2)) (tVar 1)) (tC (.int 1))) tNil))) (tVar 1)) tNil))) (tCall (sp_law_take K) [] E0 (tCons (tVar 0) (tCons (tC (.int 5)) tNil)))))))
def t_law_beside (K : PySem.W.Frag) : TS :=
  (tSeq (tAsg (tLst tNil) (gName 2))
    (tSeq (tFor (iRng1 (tCons (tCall (sp_law_take K) [] E0 (tCons (tVar 0) (tCons (tOp (rI0 fun i j => .int (i + j)) (tOp (rI CMul fun i j => .int (i * j)) (tC (.int 2)) (tCB (DL.rLen K) (tCons (tVar 1) tNil))) (tC (.int 1))) tNil))) tNil)) (gName 3)
    (tSeq (tPar 4 5 (tCons (tCall (sp_law_take K) [] E0 (tCons (tVar 0) (tCons (tCB (DL.rLen K) (tCons (tVar 1) tNil)) tNil))) (tCons (tOp (rIx K) (tLst (tCons (tC (.str ("least" : Str))) (tCons (tC (.str ("most" : Str))) tNil))) (tCall (sp_law_take K) [] E0 (tCons (tVar 0) (tCons (tC (.int 2)) tNil)))) tNil)))
    (tSeq (tAsg (tOp (rIx K) (tLst (tCons (tOp (rIx K) (tVar 1) (tVar 4)) (tCons (tOp (rI0 fun i j => .int (i + j)) (tOp (rIx K) (tVar 1) (tVar 4)) (tC (.int 1))) (tCons (tOp (rI0 fun i j => .int (i - j)) (tOp (rIx K) (tVar 1) (tVar 4)) (tC (.int 1))) (tCons (tCall (sp_law_wide_value K) [] E0 (tCons (tVar 0) tNil)) tNil))))) (tCall (sp_law_take K) [] E0 (tCons (tVar 0) (tCons (tC (.int 4)) tNil)))) (gName 6))
    (tIfS (tTest (tOp (rNotInD K) (tTup (tCons (tVar 4) (tCons (tVar 5) tNil))) (tLc (iList K (tVar 2)) (gName 7) tYes (tSl (rSl K) (tVar 7) tNoPart (tPart (tC (.int 2)))) [7])))
    (tDrop (tBM K "list" rInsert (tVar 2) (tCons (tCall (sp_law_take K) [] E0 (tCons (tVar 0) (tCons (tOp (rI0 fun i j => .int (i + j)) (tCB (DL.rLen K) (tCons (tVar 2) tNil)) (tC (.int 1))) tNil))) (tCons (tTup (tCons (tVar 4) (tCons (tVar 5) (tCons (tCB rMin2 (tCons (tOp (rI CPow fun i j => .int (i ^ j.toNat)) (tC (.int 10)) (tC (.int 18))) (tCons (tCB rMax2 (tCons (tUn (rU fun i => .int (-i)) (tOp (rI CPow fun i j => .int (i ^ j.toNat)) (tC (.int 10)) (tC (.int 18)))) (tCons (tVar 6) tNil))) tNil))) tNil)))) tNil))))
    tNext))))
    (tRet (tVar 2))))
def t_law1 (K : PySem.W.Frag) : TS :=
  (tSeq (tFor (iRng1 (tCons (tC (.int 8)) tNil)) (gName 2)
    (tSeq (tAsg (tCB (rTuple K) (tCons (tLc (iRng1 (tCons (tOp (rI0 fun i j => .int (i + j)) (tC (.int 1)) (tCall (sp_law_take K) [] E0 (tCons (tVar 1) (tCons (tC (.int 6)) tNil)))) tNil)) (gName 9) tYes (tCall (sp_law_wide_value K) [] E0 (tCons (tVar 1) tNil)) [9]) tNil)) (gName 3))
    (tSeq (tAsg (tCall (sp_law_beside K) [] E0 (tCons (tVar 1) (tCons (tVar 3) tNil))) (gName 4))
    (tSeq (tIfS (tTest (tOp (rEqD K) (tCall (sp_law_take K) [] E0 (tCons (tVar 1) (tCons (tC (.int 4)) tNil))) (tC (.int 0))))
    (tAsg (tLc (iList K (tVar 4)) (gName 10) (tB (tCall (sp_law_meets K) [] E0 (tCons (tVar 3) (tCons (tLst (tCons (tVar 10) tNil)) tNil)))) (tVar 10) [10]) (gName 4))
    tNext)
    (tSeq (tAsg (tCB (rSrt K) (tCons (tLc (iList K (tVar 4)) (gName 10) (tNot (tB (tCall (sp_law_meets K) [] E0 (tCons (tVar 3) (tCons (tLst (tCons (tVar 10) tNil)) tNil))))) (tVar 10) [10]) tNil)) (gName 5))
    (tFor (iList K (tLst (tCons (tVar 4) (tCons (tRevL K (tVar 4)) (tCons (tVar 4) tNil))))) (gName 6)
    (tSeq (tAsg (tCB (rList K) (tCons (tVar 6) tNil)) (gName 7))
    (tSeq (tAsg (tCall (sp_missed K) [] E0 (tCons (tVar 3) (tCons (tVar 6) tNil))) (gName 8))
    (tSeq (tIfS (tOr (tNot (tB (tCall (sp_law_alike K) [] E0 (tCons (tVar 8) (tCons (tVar 5) tNil))))) (tOr (tNot (tB (tCall (sp_law_alike K) [] E0 (tCons (tCall (sp_meets K) [] E0 (tCons (tVar 3) (tCons (tVar 6) tNil))) (tCons (tOp (rEqD K) (tVar 5) (tLst tNil)) tNil))))) (tTest (tOp (rNeD K) (tVar 6) (tVar 7)))))
    (tRet (tC (.bl false)))
    tNext)
    (tDrop (tBM K "list" rAppend (tVar 8) (tCons (tC (.str ("x" : Str))) tNil))))))))))))
    (tRet (tAndV (tOp rIsB (tCall (sp_meets K) [] E0 (tCons (tTup (tCons (tC (.int 0)) tNil)) (tCons (tLst tNil) tNil))) (tC (.bl true))) (tOp (rEqD K) (tCall (sp_missed K) [] E0 (tCons (tTup (tCons (tC (.int 0)) tNil)) (tCons (tLst tNil) tNil))) (tLst tNil)))))
def t_law (K : PySem.W.Frag) : TS := tSeq (tAsg (tCall (sp_law_bag K) [] E0 (tCons (tVar 0) tNil)) (gName 1)) (t_law1 K)
end PK

namespace PK
open PySem PySem.Spec PyProof.Rows L2 DL
section
variable {K : PySem.W.Frag} {b : Bg} {P : Po}
theorem w_meets_bound {r : List Int} {q : Bnd} (h : inW r.length q) (k : P.rt (.bl (mb r q))) : wps K b (t_meets_bound K) [.d (encR r), .d (encB q), .u, .u, .u] P := by
  obtain ⟨c, m, v⟩ := q
  have e := rget_at h.1 h.2
  unfold t_meets_bound
  refine wps_seq (wps_asgt [2, 3, 4] (wpe_var (by rfl) (wpg_tup (by rfl) (wpgs_cons (wpg_name (by simp) (wpgs_cons (wpg_name (by simp) (wpgs_cons (wpg_name (by simp) (wpgs_nil ?_)))))))))) 
  refine wps_seq (wps_if (wpt_test (wpe_op (wpe_var (by rfl) (wpe_str (rd_eqD 9 (by decide) (ok_str (wayS_ok _)) (ok_str (by decide +kernel)) ⟨_, rfl, ?_⟩))))))
  rw [show D.eq (.str (wayS (c, m, v).2.1)) (.str ("least" : Str)) = !m from wayS_least m]
  refine ifB (fun z => ?_) (fun z => ?_)
  · have hm : m = false := by simpa using z
    subst hm
    exact wps_ret (wpe_op (wpe_op (wpe_var (by rfl) (wpe_var (by rfl) (rd_ixt e (wpe_var (by rfl) (rd_I0b k)))))))
  · have hm : m = true := by simpa using z
    subst hm
    exact wps_next (wps_ret (wpe_op (wpe_op (wpe_var (by rfl) (wpe_var (by rfl) (rd_ixt e (wpe_var (by rfl) (rd_I0b k))))))))
theorem map_mem {α β : Type} {f : α → β} {l : List α} {i : Nat} {y : β} (h : (l.map f)[i]? = some y) : ∃ x, l[i]? = some x ∧ y = f x ∧ x ∈ l := by
  rw [List.getElem?_map] at h
  cases q : l[i]? with
  | none => rw [q] at h; cases h
  | some x => rw [q] at h; cases h; exact ⟨x, rfl, rfl, List.mem_of_getElem? q⟩
theorem take_succ' {α : Type} {l : List α} {i : Nat} {x : α} (h : l[i]? = some x) : l.take (i + 1) = l.take i ++ [x] := by
  rw [List.take_add_one, h]; rfl
theorem w_meets {r : List Int} {ws : List Bnd} (h : wishOk r.length ws) (k : P.rt (.bl (ws.all (mb r)))) : wps K b (t_meets K) [.d (encR r), .d (encW ws), .u] P := by
  unfold t_meets
  refine wps_ret (wpe_cb (wpa_cons (wpe_l (wpl_lc (wpi_list (wpe_var (by rfl) ⟨_, rfl, by rw [List.length_map]; have := h.1; omega, fun i acc => acc = ((ws.take i).map (mb r)).map D.bl, rfl, fun i d acc hd hl hI => ?_, fun acc hI => ?_⟩))))))
  · obtain ⟨q, hq, rfl, hm⟩ := map_mem hd
    refine wpg_name (by simp) (wpt_yes (ifT (wpe_call (wpa_cons (wpe_var (by rfl) (wpa_cons (wpe_var (by rfl) (wpa_nil ⟨rfl, ⟨r, q, rfl, (h.2 q hm).1⟩, fun x hx => ?_⟩))))))))
    rw [hx r q rfl, hI]
    show _ = List.map D.bl (List.map (mb r) (List.take (i + 1) ws))
    rw [take_succ' hq, List.map_append, List.map_append]; rfl
  · rw [List.length_map, List.take_length] at hI
    subst hI
    refine wpa_nil (rc_all ?_)
    rw [List.all_map]
    exact k
theorem filter_succ {α : Type} {l : List α} {i : Nat} {x : α} {f : α → Bool} (h : l[i]? = some x) : (l.take (i + 1)).filter f = (l.take i).filter f ++ if f x then [x] else [] := by
  rw [take_succ' h, List.filter_append]
  cases e : f x <;> simp [List.filter, e]
theorem w_missed {r : List Int} {ws : List Bnd} (h : wishOk r.length ws) (k : P.rl ((sortB (ws.filter fun q => !mb r q)).map encB)) : wps K b (t_missed K) [.d (encR r), .d (encW ws), .u] P := by
  unfold t_missed
  refine wps_retl (wpl_cb (wpa_cons (wpe_l (wpl_lc (wpi_list (wpe_var (by rfl) ⟨_, rfl, by rw [List.length_map]; have := h.1; omega, fun i acc => acc = ((ws.take i).filter fun q => !mb r q).map encB, rfl, fun i d acc hd hl hI => ?_, fun acc hI => ?_⟩))))))
  · obtain ⟨q, hq, rfl, hm⟩ := map_mem hd
    refine wpg_name (by simp) (wpt_not (wpt_B (wpe_call (wpa_cons (wpe_var (by rfl) (wpa_cons (wpe_var (by rfl) (wpa_nil ⟨rfl, ⟨r, q, rfl, (h.2 q hm).1⟩, fun x hx => ?_⟩))))))))
    refine ⟨_, hx r q rfl, ifB (fun z => ?_) (fun z => ?_)⟩
    · refine wpe_var (by rfl) ?_
      rw [hI]
      show _ = List.map encB (List.filter (fun q => !mb r q) (List.take (i + 1) ws))
      rw [filter_succ hq, if_pos z, List.map_append]; rfl
    · rw [hI]
      show _ = List.map encB (List.filter (fun q => !mb r q) (List.take (i + 1) ws))
      rw [filter_succ hq, if_neg (by rw [z]; exact Bool.false_ne_true), List.append_nil]
  · rw [List.length_map, List.take_length] at hI
    subst hI
    refine wpa_nil (rcl_sorted 9 (by decide) ?_ (allAlikeB _) (sortableB _) ?_)
    · exact okA_of fun d hd => by
        obtain ⟨q, _, rfl⟩ := List.mem_map.mp hd
        exact encB_ok 8 q
    · rw [sortB_map]; exact k
theorem w_law_meets {r : List Int} {ws : List Bnd} (h : wishOk r.length ws) (k : P.rt (.bl (ws.all (mb r)))) : wps K b (t_law_meets K) [.d (encR r), .d (encW ws), .u, .u, .u] P := by
  unfold t_law_meets
  refine wps_seq (wps_for [2, 3, 4] (wpi_list (wpe_var (by rfl) ⟨_, rfl, fun i E => (ws.take i).all (mb r) = true ∧ ∃ a c d, E = [.d (encR r), .d (encW ws), a, c, d], ⟨rfl, _, _, _, rfl⟩, fun i d E hd hI => ?_, fun E hI => ?_⟩)))
  · obtain ⟨q, hq, rfl, hm⟩ := map_mem hd
    obtain ⟨hI, a1, a2, a3, rfl⟩ := hI
    have hin := (h.2 q hm).1
    obtain ⟨c, m, v⟩ := q
    have e := rget_at hin.1 hin.2
    refine wpg_tup (by rfl) (wpgs_cons (wpg_name (by simp) (wpgs_cons (wpg_name (by simp) (wpgs_cons (wpg_name (by simp) (wpgs_nil ?_)))))))
    have all1 : ((ws.take (i + 1)).all (mb r)) = (mb r (c, m, v)) := by
      rw [take_succ' hq, List.all_append, hI]; simp
    have yes : mb r (c, m, v) = false → P.rt (.bl false) := fun z => by
      have : ws.all (mb r) = false := by
        rw [List.all_eq_false]
        exact ⟨_, hm, by rw [z]; exact Bool.false_ne_true⟩
      rw [this] at k; exact k
    refine wps_if (wpt_or (wpt_and (wpt_test (wpe_op (wpe_var (by rfl) (wpe_str (rd_eqD 9 (by decide) (ok_str (wayS_ok _)) (ok_str (by decide +kernel)) ⟨_, rfl, ?_⟩)))))))
    rw [show D.eq (.str (wayS (c, m, v).2.1)) (.str ("least" : Str)) = !m from wayS_least m]
    cases m with
    | false =>
      refine ifT (wpt_test (wpe_op (wpe_op (wpe_var (by rfl) (wpe_var (by rfl) (rd_ixt e (wpe_var (by rfl) (rd_I0b ⟨_, rfl, ?_⟩))))))))
      refine ifB (fun z => ?_) (fun z => ?_)
      · refine ifT (wps_ret (wpe_bl (yes ?_)))
        have y : rget r c < v := of_decide_eq_true z
        exact decide_eq_false (show ¬ v ≤ rget r c by omega)
      · refine wpt_and (wpt_test (wpe_op (wpe_var (by rfl) (wpe_str (rd_eqD 9 (by decide) (ok_str (wayS_ok _)) (ok_str (by decide +kernel)) ⟨_, rfl, ?_⟩)))))
        rw [show D.eq (.str (wayS (c, false, v).2.1)) (.str ("most" : Str)) = false from wayS_most false]
        refine ifF (ifF (wps_next ⟨?_, _, _, _, rfl⟩))
        rw [all1]
        have y : ¬ rget r c < v := of_decide_eq_false z
        exact decide_eq_true (show v ≤ rget r c by omega)
    | true =>
      refine ifF (ifF (wpt_and (wpt_test (wpe_op (wpe_var (by rfl) (wpe_str (rd_eqD 9 (by decide) (ok_str (wayS_ok _)) (ok_str (by decide +kernel)) ⟨_, rfl, ?_⟩)))))))
      rw [show D.eq (.str (wayS (c, true, v).2.1)) (.str ("most" : Str)) = true from wayS_most true]
      refine ifT (wpt_test (wpe_op (wpe_op (wpe_var (by rfl) (wpe_var (by rfl) (rd_ixt e (wpe_var (by rfl) (rd_I0b ⟨_, rfl, ?_⟩))))))))
      refine ifB (fun z => ?_) (fun z => ?_)
      · refine wps_ret (wpe_bl (yes ?_))
        have y : v < rget r c := of_decide_eq_true z
        exact decide_eq_false (show ¬ rget r c ≤ v by omega)
      · refine wps_next ⟨?_, _, _, _, rfl⟩
        rw [all1]
        have y : ¬ v < rget r c := of_decide_eq_false z
        exact decide_eq_true (show rget r c ≤ v by omega)
  · obtain ⟨hI, a1, a2, a3, rfl⟩ := hI
    rw [List.length_map, List.take_length] at hI
    refine wps_ret (wpe_bl ?_)
    rw [hI] at k; exact k
theorem w_law_alike {x : D} (h1 : D.ok 9 x = true) (h2 : D.sm x = true) (h3 : x.cost ≤ 10000000) (k : P.rt (.bl true)) : wps K b (t_law_alike K) [.d x, .d x] P := by
  unfold t_law_alike
  refine wps_ret (wpe_and (wpe_op (wpe_var (by rfl) (wpe_var (by rfl) (rd_eqD 9 (by decide) h1 h1 ⟨_, rfl, ?_⟩)))))
  rw [eq_self 9 h1]
  refine ifT (wpe_op (wpe_cb (wpa_cons (wpe_var (by rfl) (wpa_nil (rc_repr 9 (by decide) h1 h2 h3 (wpe_cb (wpa_cons (wpe_var (by rfl) (wpa_nil (rc_repr 9 (by decide) h1 h2 h3 ?_)))))))))))
  refine rd_eqS ?_
  rw [decide_eq_true rfl]
  exact k
end

end PK

namespace PK
open PySem PySem.Spec PyProof.Rows L2 DL
section
variable {K : PySem.W.Frag} {b : Bg} {P : Po}
theorem pow18 : (10 : Int) ^ (18 : Int).toNat = 1000000000000000000 := by decide +kernel
theorem atI_mem {α : Type} {ds : List α} {i : Int} (h0 : 0 ≤ i) (h1 : i < ds.length) : ∃ d, atI ds i = some d ∧ d ∈ ds := by
  have hl : i.toNat < ds.length := by omega
  have := atI_nat (xs := ds) (j := i.toNat) (v := ds[i.toNat]) (List.getElem?_eq_getElem hl)
  rw [Int.toNat_of_nonneg h0] at this
  exact ⟨_, this, List.getElem_mem _⟩
theorem w_law_wide_value (hb : b.isSome = true) (k : ∀ v : Int, v.natAbs ≤ 10 ^ 18 → P.rt (.int v)) : wps K b (t_law_wide_value K) [.d .bag, .u, .u] P := by
  unfold t_law_wide_value
  refine wps_seq (wps_asg (wpe_op (wpe_int (wpe_int (rd_I ⟨by decide, by decide, by decide⟩ ?_)))))
  rw [pow18]
  refine wps_seq (wps_asg (wpe_l (wpl_lst (wpa_cons (wpe_op ?_)))))
  refine wtakeC hb (by rfl) (by decide) (by decide) fun v1 a1 b1 => wpe_int (rd_I0i ?_)
  refine wpa_cons (wpe_op ?_)
  refine wtakeC hb (by rfl) (by decide) (by decide) fun v2 a2 b2 => wpe_int (rd_I0i ?_)
  refine wpa_cons (wpe_op (wpe_var (by rfl) ?_))
  refine wtakeC hb (by rfl) (by decide) (by decide) fun v3 a3 b3 => rd_I0i ?_
  refine wpa_cons (wpe_op ?_)
  refine wtakeC hb (by rfl) (by decide) (by decide) fun v4 a4 b4 => wpe_var (by rfl) (rd_I0i ?_)
  refine wpa_nil ⟨len_le rfl, ?_⟩
  refine wps_ret (wpe_op (wpe_l (wpl_op (wpe_var (by rfl) (wpe_l (wpl_lst (wpa_cons (wpe_op ?_))))))))
  refine wtake hb (by rfl) (wpe_op (wpe_op (wpe_int (wpe_var (by rfl) (rd_I (.inl (by decide)) (wpe_int (rd_I0i ?_)))))))
  refine ⟨_, rfl, by decide, by decide, fun v5 a5 b5 => wpe_var (by rfl) (rd_I0i ?_)⟩
  refine wpa_nil ⟨len_le rfl, rd_cat (len_le rfl) ?_⟩
  refine wtakeC hb (by rfl) (by decide) (by decide) fun v6 a6 b6 => ?_
  obtain ⟨d, e, hd⟩ := atI_mem (ds := [D.int (v1 - 2), .int (v2 - 2), .int (1000000000000000000 - v3), .int (v4 - 1000000000000000000)] ++ [D.int (v5 - 1000000000000000000)]) a6 (by simpa using b6)
  refine rd_ixl e ?_
  simp only [List.cons_append, List.nil_append, List.mem_cons, List.not_mem_nil, or_false] at hd
  rcases hd with rfl | rfl | rfl | rfl | rfl <;> exact k _ (by omega)
theorem clamp18 (v : Int) : (if (if v > -1000000000000000000 then v else -1000000000000000000) < 1000000000000000000 then (if v > -1000000000000000000 then v else -1000000000000000000) else (1000000000000000000 : Int)).natAbs ≤ 10 ^ 18 := by
  split <;> split <;> omega
theorem w_law_beside {r : List Int} (hb : b.isSome = true) (hr : rowOk r) (k : ∀ ws, wishOk r.length ws → P.rl (ws.map encB)) : wps K b (t_law_beside K) [.d .bag, .d (encR r), .u, .u, .u, .u, .u, .u] P := by
  unfold t_law_beside
  refine wps_seq (wps_asgl (wpl_lst (wpa_nil ⟨by decide, ?_⟩)))
  refine wps_seq (wps_for [3] (wpi_rng1 (wpa_cons ?_)))
  refine wtake hb (by rfl) (wpe_op (wpe_op (wpe_int (wpe_cb (wpa_cons (wpe_var (by rfl) (wpa_nil (rc_lenT ?_))))))))
  refine rd_I (.inl (by decide)) (wpe_int (rd_I0i ⟨_, rfl, ?_, ?_, fun n n0 n1 => ?_⟩))
  · rw [List.length_map]; omega
  · rw [List.length_map]; have := hr.2.1; omega
  rw [List.length_map] at n1
  have h6 := hr.2.1
  refine wpa_nil ⟨n, rfl, by omega, by omega, fun i E => ∃ ws a3 a4 a5 a6 a7, E = [.d .bag, .d (encR r), .o (ws.map encB), a3, a4, a5, a6, a7] ∧ ws.length ≤ i ∧ ∀ q ∈ ws, inW r.length q ∧ q.2.2.natAbs ≤ 10 ^ 18,
    ⟨[], _, _, _, _, _, rfl, Nat.le_refl _, fun _ z => nomatch z⟩, fun i d E hd hI => ?_, fun E hI => ?_⟩
  · obtain ⟨ws, a3, a4, a5, a6, a7, rfl, hl, hw⟩ := hI
    obtain ⟨hi, rfl⟩ := rangeD_at hd
    have hi13 : i ≤ 12 := by omega
    refine wpg_name (by simp) ?_
    refine wps_seq (wps_par (wpa_cons ?_))
    refine wtake hb (by rfl) (wpe_cb (wpa_cons (wpe_var (by rfl) (wpa_nil (rc_lenT ⟨_, rfl, ?_, ?_, fun c c0 c1 => ?_⟩)))))
    · rw [List.length_map]; have := hr.1; omega
    · rw [List.length_map]; omega
    rw [List.length_map] at c1
    refine wpa_cons (wpe_op (wpe_l (wpl_lst (wpa_cons (wpe_str (wpa_cons (wpe_str (wpa_nil ⟨by decide, ?_⟩))))))))
    refine wtakeC hb (by rfl) (by decide) (by decide) fun m m0 m1 => ?_
    have hat : atI [D.str ("least" : Str), .str ("most" : Str)] m = some (.str (wayS (decide (m = 1)))) := by
      have : m = 0 ∨ m = 1 := by omega
      rcases this with rfl | rfl <;> rfl
    refine rd_ixl hat (wpa_nil ⟨_, _, rfl, ?_⟩)
    generalize hway : decide (m = 1) = way
    have e := rget_at c0 c1
    have rb : (rget r c).natAbs ≤ 10 ^ 18 := by
      have hl : c.toNat < r.length := by omega
      have : rget r c = r[c.toNat] := by unfold rget; rw [List.getD, List.getElem?_eq_getElem hl]; rfl
      rw [this]; exact hr.2.2 _ (List.getElem_mem _)
    refine wps_seq (wps_asg (wpe_op (wpe_l (wpl_lst (wpa_cons (wpe_op (wpe_var (by rfl) (wpe_var (by rfl) (rd_ixt e ?_)))))))))
    refine wpa_cons (wpe_op (wpe_op (wpe_var (by rfl) (wpe_var (by rfl) (rd_ixt e (wpe_int (rd_I0i ?_)))))))
    refine wpa_cons (wpe_op (wpe_op (wpe_var (by rfl) (wpe_var (by rfl) (rd_ixt e (wpe_int (rd_I0i ?_)))))))
    refine wpa_cons (wpe_call (wpa_cons (wpe_var (by rfl) (wpa_nil ⟨rfl, ⟨hb, rfl⟩, fun x hx => ?_⟩))))
    obtain ⟨w, rfl, hw18⟩ := hx
    refine wpa_nil ⟨len_le rfl, ?_⟩
    refine wtakeC hb (by rfl) (by decide) (by decide) fun u u0 u1 => ?_
    obtain ⟨d, ed, hd⟩ := atI_mem (ds := [D.int (rget r c), .int (rget r c + 1), .int (rget r c - 1), .int w]) u0 (by simpa using u1)
    refine rd_ixl ed ?_
    have hv : ∃ v : Int, d = .int v := by
      simp only [List.mem_cons, List.not_mem_nil, or_false] at hd
      rcases hd with rfl | rfl | rfl | rfl <;> exact ⟨_, rfl⟩
    obtain ⟨v, rfl⟩ := hv
    refine wps_if (wpt_lend 2 (by rfl) (wpt_test (wpe_op (wpe_tup (wpa_cons (wpe_var (by rfl) (wpa_cons (wpe_var (by rfl) (wpa_nil ⟨len_le rfl, ?_⟩)))))))))
    refine wpe_l (wpl_lc (wpi_list (wpe_var (by rfl) ⟨_, rfl, by rw [List.length_map]; omega, fun i acc => acc = (ws.take i).map fun q => D.tup [.int q.1, .str (wayS q.2.1)], rfl, fun j d acc hd hl hI => ?_, fun acc hI => ?_⟩)))
    · obtain ⟨q, hq, rfl, hm⟩ := map_mem hd
      refine wpg_name (by simp) (wpt_yes (ifT (wpe_slTu (wpe_var (by rfl) (wpo_none (wpo_some (wpe_int ⟨2, rfl, [.int q.1, .str (wayS q.2.1), .int q.2.2], rfl, (show ¬ (HT.sIx 3 0 none = 0 ∧ HT.sIx 3 3 (some 2) = 3) by decide), ?_⟩)))))))
      rw [hI]
      show _ = List.map _ (List.take (j + 1) ws)
      rw [take_succ' hq, List.map_append]; rfl
    · rw [List.length_map, List.take_length] at hI
      subst hI
      refine rd_notIn 9 (by decide) ?_ ?_ ⟨_, rfl, ifB (fun z => ?_) (fun z => ?_)⟩
      · simp only [D.ok, D.okA, wayS_ok, Bool.and_true, Bool.true_and]
      · unfold D.ok
        refine okA_of fun d hd => ?_
        obtain ⟨q, _, rfl⟩ := List.mem_map.mp hd
        simp only [D.ok, D.okA, wayS_ok, Bool.and_true, Bool.true_and]
      · refine wps_insert (by rfl) (wtake hb (by rfl) (wpe_op (wpe_lend 2 (by rfl) (wpe_cb (wpa_cons (wpe_var (by rfl) (wpa_nil (rc_lenL ⟨trivial, ?_⟩))))))))
        refine wpe_int (rd_I0i ⟨_, rfl, ?_, ?_, fun at' at0 at1 => ?_⟩)
        · omega
        · rw [List.length_map]; omega
        rw [List.length_map] at at1
        refine wpe_tup (wpa_cons (wpe_var (by rfl) (wpa_cons (wpe_var (by rfl) (wpa_cons (wpe_cb (wpa_cons (wpe_op ?_))))))))
        refine wpe_int (wpe_int (rd_I ⟨by decide, by decide, by decide⟩ ?_))
        rw [pow18]
        refine wpa_cons (wpe_cb (wpa_cons (wpe_un (wpe_op ?_))))
        refine wpe_int (wpe_int (rd_I ⟨by decide, by decide, by decide⟩ (rd_neg ?_)))
        rw [pow18]
        refine wpa_cons (wpe_var (by rfl) (wpa_nil (rcMax (wpa_nil (rcMin (wpa_nil ⟨len_le rfl, at', rfl, at0, by omega, by rw [List.length_map]; omega, ?_⟩))))))
        refine ⟨ws.take at'.toNat ++ [(c, way, (if (if v > -1000000000000000000 then v else -1000000000000000000) < 1000000000000000000 then (if v > -1000000000000000000 then v else -1000000000000000000) else 1000000000000000000))] ++ ws.drop at'.toNat, .d (.int (0 + (i : Nat))), .d (.int c), .d (.str (wayS way)), .d (.int v), a7, ?_, ?_, ?_⟩
        · rw [List.map_append, List.map_append, List.map_take, List.map_drop]; rfl
        · rw [List.length_append, List.length_append, List.length_take, List.length_drop]
          show _ + 1 + _ ≤ _
          omega
        · intro q hq
          rcases List.mem_append.mp hq with hq | hq
          · rcases List.mem_append.mp hq with hq | hq
            · exact hw q (List.mem_of_mem_take hq)
            · have : q = _ := List.mem_singleton.mp hq
              subst this
              refine ⟨⟨c0, c1⟩, ?_⟩
              exact clamp18 v
          · exact hw q (List.mem_of_mem_drop hq)
      · exact wps_next ⟨ws, _, _, _, _, _, rfl, by omega, hw⟩
  · obtain ⟨ws, a3, a4, a5, a6, a7, rfl, hl, hw⟩ := hI
    rw [rangeD_len] at hl
    exact wps_reto (by rfl) (k ws ⟨by omega, hw⟩)
end

end PK

namespace PK
open PySem PySem.Spec PyProof.Rows L2 DL
section
variable {K : PySem.W.Frag} {b : Bg} {P : Po}
theorem wishOk_sub {n : Nat} {ws us : List Bnd} (h : wishOk n ws) (hl : us.length ≤ ws.length) (hm : ∀ q ∈ us, q ∈ ws) : wishOk n us := ⟨Nat.le_trans hl h.1, fun q hq => h.2 q (hm q hq)⟩
theorem wish_sm {n : Nat} (hn : n ≤ 6) {ws : List Bnd} (h : wishOk n ws) : (encW ws).sm = true := encW_sm fun q hq => by
  obtain ⟨⟨a, c⟩, d⟩ := h.2 q hq
  have e : (10 : Nat) ^ 18 < 10 ^ 50 := by decide
  exact ⟨by have : q.1.natAbs < 6 := by omega
            exact Nat.lt_trans this (by decide), Nat.lt_of_le_of_lt d e⟩
theorem eq_nil (ws : List Bnd) : D.eq (encW ws) (.lst []) = ws.isEmpty := by
  cases ws with
  | nil => decide +kernel
  | cons q ws => rfl
theorem sort_nil (ws : List Bnd) : (sortB ws).isEmpty = ws.isEmpty := by
  have := (sortB_perm ws).length_eq
  cases h : sortB ws with
  | nil => cases ws with
    | nil => rfl
    | cons q ws => rw [h] at this; simp at this
  | cons q us => cases ws with
    | nil => rw [h] at this; simp at this
    | cons q ws => rfl
theorem all_filter (ws : List Bnd) (f : Bnd → Bool) : (ws.filter fun q => !f q).isEmpty = ws.all f := by
  induction ws with
  | nil => rfl
  | cons q ws ih =>
    cases e : f q
    · simp [List.filter, e]
    · simp only [List.filter, e, Bool.not_true, List.all_cons, Bool.true_and]; exact ih
/-- what stands at a turn's start -/
def atK (E : Env') : Prop := ∃ a2 a3 a4 a5 a6 a7 a8 a9 a10, E = [.u, .d .bag, a2, a3, a4, a5, a6, a7, a8, a9, a10]
theorem ok_nil : D.ok 9 (.lst []) = true := by decide +kernel
theorem w_law1 (hb : b.isSome = true) (h : P.rt (.bl true)) : wps K b (t_law1 K) [.u, .d .bag, .u, .u, .u, .u, .u, .u, .u, .u, .u] P := by
  unfold t_law1
  refine wps_seq (wps_for [2] (wpi_rng1 (wpa_cons (wpe_int (wpa_nil ⟨8, rfl, by decide, by decide, fun _ E => atK E, ⟨_, _, _, _, _, _, _, _, _, rfl⟩, fun i d E hd hI => ?_, fun E hI => ?_⟩)))))
  · obtain ⟨a2, a3, a4, a5, a6, a7, a8, a9, a10, rfl⟩ := hI
    refine wpg_name (by simp) ?_
    -- row = tuple([..])
    refine wps_seq (wps_asg (wpe_cb (wpa_cons (wpe_l (wpl_lc (wpi_rng1 (wpa_cons (wpe_op (wpe_int ?_)))))))))
    refine wtakeC hb (by rfl) (by decide) (by decide) fun n n0 n1 => rd_I0i ?_
    refine wpa_nil ⟨1 + n, rfl, by omega, by omega, by rw [rangeD_len]; omega, fun i acc => ∃ ns : List Int, acc = ns.map D.int ∧ ns.length = i ∧ ∀ v ∈ ns, v.natAbs ≤ 10 ^ 18, ⟨[], rfl, rfl, fun _ z => nomatch z⟩, fun j d acc hd hl hI => ?_, fun acc hI => ?_⟩
    · obtain ⟨ns, rfl, l1, l2⟩ := hI
      refine wpg_name (by simp) (wpt_yes (ifT (wpe_call (wpa_cons (wpe_var (by rfl) (wpa_nil ⟨rfl, ⟨hb, rfl⟩, fun x hx => ?_⟩))))))
      obtain ⟨v, rfl, hv⟩ := hx
      refine ⟨ns ++ [v], by rw [List.map_append]; rfl, by rw [List.length_append, l1]; rfl, fun w hw => ?_⟩
      rcases List.mem_append.mp hw with hw | hw
      · exact l2 w hw
      · rw [List.mem_singleton.mp hw]; exact hv
    obtain ⟨r, rfl, l1, l2⟩ := hI
    rw [rangeD_len] at l1
    have hr : rowOk r := ⟨by omega, by omega, l2⟩
    have h6 : r.length ≤ 6 := hr.2.1
    refine wpa_nil (rc_tupleL ?_)
    -- wish
    refine wps_seq (wps_asg (wpe_call (wpa_cons (wpe_var (by rfl) (wpa_cons (wpe_var (by rfl) (wpa_nil ⟨rfl, ⟨hb, r, rfl, hr⟩, fun x hx => ?_⟩)))))))
    obtain ⟨ws0, rfl, hw0⟩ := hx r rfl
    refine wps_seq (wps_mono (P := { nx := fun E => ∃ ws, wishOk r.length ws ∧ ∃ a2 a10, E = [.u, .d .bag, a2, .d (encR r), .d (encW ws), a5, a6, a7, a8, a9, a10], rt := fun _ => False }) (wps_if (wpt_test (wpe_op ?_))) ?_ (fun _ z => z.elim) (fun _ z => z.elim) (fun _ z => z.elim) (fun _ z => z.elim))
    · refine wtakeC hb (by rfl) (by decide) (by decide) fun m m0 m1 => wpe_int (rd_eqD 9 (by decide) (by rfl) (by rfl) ⟨_, rfl, ifB (fun _ => ?_) (fun _ => ?_)⟩)
      · refine wps_asg (wpe_l (wpl_lc (wpi_list (wpe_var (by rfl) ⟨_, rfl, by rw [List.length_map]; have := hw0.1; omega, fun i acc => acc = ((ws0.take i).filter (mb r)).map encB, rfl, fun j d acc hd hl hI => ?_, fun acc hI => ?_⟩))))
        · obtain ⟨q, hq, rfl, hm⟩ := map_mem hd
          refine wpg_name (by simp) (wpt_B (wpe_call (wpa_cons (wpe_var (by rfl) (wpa_cons (wpe_l (wpl_lst (wpa_cons (wpe_var (by rfl) (wpa_nil ⟨len_le rfl, ?_⟩))))))))))
          refine wpa_nil ⟨rfl, ⟨r, [q], rfl, wishOk_sub hw0 (List.length_pos_of_mem hm) (fun z hz => by rw [List.mem_singleton.mp hz]; exact hm)⟩, fun x hx => ?_⟩
          have e1 := hx r [q] rfl
          rw [List.all_cons, List.all_nil, Bool.and_true] at e1
          refine ⟨_, e1, ifB (fun z => ?_) (fun z => ?_)⟩
          · refine wpe_var (by rfl) ?_
            rw [hI]
            show _ = List.map encB (List.filter (mb r) (List.take (j + 1) ws0))
            rw [filter_succ hq, if_pos z, List.map_append]; rfl
          · rw [hI]
            show _ = List.map encB (List.filter (mb r) (List.take (j + 1) ws0))
            rw [filter_succ hq, if_neg (by rw [z]; exact Bool.false_ne_true), List.append_nil]
        · rw [List.length_map, List.take_length] at hI
          subst hI
          exact ⟨ws0.filter (mb r), wishOk_sub hw0 (List.length_filter_le ..) (fun q hq => (List.mem_filter.mp hq).1), _, _, rfl⟩
      · exact wps_next ⟨ws0, hw0, _, _, rfl⟩
    rintro E ⟨ws, hw, a2', a10', rfl⟩
    -- due
    refine wps_seq (wps_asg (wpe_l (wpl_cb (wpa_cons (wpe_l (wpl_lc (wpi_list (wpe_var (by rfl) ⟨_, rfl, by rw [List.length_map]; have := hw.1; omega, fun i acc => acc = ((ws.take i).filter fun q => !mb r q).map encB, rfl, fun j d acc hd hl hI => ?_, fun acc hI => ?_⟩))))))))
    · obtain ⟨q, hq, rfl, hm⟩ := map_mem hd
      refine wpg_name (by simp) (wpt_not (wpt_B (wpe_call (wpa_cons (wpe_var (by rfl) (wpa_cons (wpe_l (wpl_lst (wpa_cons (wpe_var (by rfl) (wpa_nil ⟨len_le rfl, ?_⟩)))))))))))
      refine wpa_nil ⟨rfl, ⟨r, [q], rfl, wishOk_sub hw (List.length_pos_of_mem hm) (fun z hz => by rw [List.mem_singleton.mp hz]; exact hm)⟩, fun x hx => ?_⟩
      have e1 := hx r [q] rfl
      rw [List.all_cons, List.all_nil, Bool.and_true] at e1
      refine ⟨_, e1, ifB (fun z => ?_) (fun z => ?_)⟩
      · refine wpe_var (by rfl) ?_
        rw [hI]
        show _ = List.map encB (List.filter (fun q => !mb r q) (List.take (j + 1) ws))
        rw [filter_succ hq, if_pos z, List.map_append]; rfl
      · rw [hI]
        show _ = List.map encB (List.filter (fun q => !mb r q) (List.take (j + 1) ws))
        rw [filter_succ hq, if_neg (by rw [z]; exact Bool.false_ne_true), List.append_nil]
    rw [List.length_map, List.take_length] at hI
    subst hI
    refine wpa_nil (rcl_sorted 9 (by decide) ?_ (allAlikeB _) (sortableB _) ?_)
    · exact okA_of fun d hd => by
        obtain ⟨q, _, rfl⟩ := List.mem_map.mp hd
        exact encB_ok 8 q
    rw [sortB_map]
    -- the due list, and what is known of it
    generalize hdue : sortB (ws.filter fun q => !mb r q) = due
    have dueOk : wishOk r.length due := by
      rw [← hdue]
      refine wishOk_sub hw ?_ fun q hq => ?_
      · rw [(sortB_perm _).length_eq]; exact List.length_filter_le ..
      · exact (List.mem_filter.mp ((sortB_perm _).mem_iff.mp hq)).1
    have dueE : due.isEmpty = ws.all (mb r) := by rw [← hdue, sort_nil, all_filter]
    have smD : (encW due).sm = true := wish_sm h6 dueOk
    have coD : (encW due).cost ≤ 10000000 := by have := encW_cost due; have := dueOk.1; omega
    -- the handed wishes
    refine wps_for [6] (wpi_list (wpe_l (wpl_lst (wpa_cons (wpe_var (by rfl) (wpa_cons (wpe_l (wpl_rev (wpe_var (by rfl) ⟨_, rfl, ?_⟩)))))))))
    refine wpa_cons (wpe_var (by rfl) (wpa_nil ⟨len_le rfl, ?_⟩))
    refine ⟨_, rfl, fun _ E => ∃ a2 a6 a7 a8 a9 a10, E = [.u, .d .bag, a2, .d (encR r), .d (encW ws), .d (encW due), a6, a7, a8, a9, a10], ⟨_, _, _, _, _, _, rfl⟩, fun j d E hd hI => ?_, fun E hI => ?_⟩
    · obtain ⟨b2, b6, b7, b8, b9, b10, rfl⟩ := hI
      have hd2 : ∃ us, d = encW us ∧ us.Perm ws := by
        have hmem := List.mem_of_getElem? hd
        simp only [List.mem_cons, List.not_mem_nil, or_false] at hmem
        rcases hmem with rfl | rfl | rfl
        · exact ⟨ws, rfl, .refl _⟩
        · exact ⟨ws.reverse, by unfold encW; rw [List.map_reverse], List.reverse_perm ws⟩
        · exact ⟨ws, rfl, .refl _⟩
      obtain ⟨us, rfl, hp⟩ := hd2
      have hu : wishOk r.length us := wishOk_sub hw (Nat.le_of_eq hp.length_eq) fun q hq => hp.mem_iff.mp hq
      have eqd : sortB (us.filter fun q => !mb r q) = due := by rw [← hdue]; exact sortB_eq (hp.filter _)
      have allu : us.all (mb r) = ws.all (mb r) := by
        rw [← all_filter, ← all_filter, ← sort_nil, ← sort_nil (ws.filter _), eqd, hdue]
      refine wpg_name (by simp) ?_
      refine wps_seq (wps_asg (wpe_l (wpl_cb (wpa_cons (wpe_var (by rfl) (wpa_nil (rcl_listL ?_)))))))
      refine wps_seq (wps_asgl (wpl_call (wpa_cons (wpe_var (by rfl) (wpa_cons (wpe_var (by rfl) (wpa_nil ⟨rfl, ⟨r, us, rfl, hu⟩, fun es hes => ?_⟩)))))))
      have hes' := hes r us rfl
      rw [eqd] at hes'
      subst hes'
      refine wps_seq (wps_if (wpt_lend 8 (by rfl) (wpt_or (wpt_not (wpt_B ?_)))))
      refine wpe_call (wpa_cons (wpe_var (by rfl) (wpa_cons (wpe_var (by rfl) (wpa_nil ⟨rfl, ⟨encW due, rfl, encW_ok 7 due, smD, coD⟩, fun x hx => ?_⟩)))))
      refine ⟨_, hx, ifF (wpt_or (wpt_not (wpt_B ?_)))⟩
      refine wpe_call (wpa_cons (wpe_call (wpa_cons (wpe_var (by rfl) (wpa_cons (wpe_var (by rfl) (wpa_nil ⟨rfl, ⟨r, us, rfl, hu⟩, fun y hy => ?_⟩)))))))
      have hy' := hy r us rfl
      refine wpa_cons (wpe_op (wpe_var (by rfl) (wpe_l (wpl_lst (wpa_nil ⟨by decide, rd_eqD 9 (by decide) (encW_ok 7 due) ok_nil ?_⟩)))))
      refine wpa_nil ⟨rfl, ⟨.bl (ws.all (mb r)), ?_, by rfl, by rfl, by show (10 : Nat) ≤ _; decide⟩, fun x hx => ?_⟩
      · rw [hy', allu, eq_nil, dueE]
      refine ⟨_, hx, ifF (wpt_test (wpe_op (wpe_var (by rfl) (wpe_var (by rfl) (rd_neD 9 (by decide) (encW_ok 7 us) (encW_ok 7 us) ⟨_, rfl, ?_⟩)))))⟩
      rw [eq_self 9 (encW_ok 7 us)]
      refine ifF (wps_next ?_)
      exact wps_append (by rfl) (wpe_str ⟨by rw [List.length_map]; have := dueOk.1; omega, _, _, _, _, _, _, rfl⟩)
    · obtain ⟨b2, b6, b7, b8, b9, b10, rfl⟩ := hI
      exact ⟨_, _, _, _, _, _, _, _, _, rfl⟩
  · obtain ⟨a2, a3, a4, a5, a6, a7, a8, a9, a10, rfl⟩ := hI
    have e0 : wishOk ([0] : List Int).length [] := ⟨by decide, fun _ z => nomatch z⟩
    refine wps_ret (wpe_and (wpe_op (wpe_call (wpa_cons (wpe_tup (wpa_cons (wpe_int (wpa_nil ⟨len_le rfl, ?_⟩))))))))
    refine wpa_cons (wpe_l (wpl_lst (wpa_nil ⟨by decide, wpa_nil ⟨rfl, ⟨[0], [], rfl, e0⟩, fun x hx => ?_⟩⟩)))
    rw [hx [0] [] rfl]
    refine wpe_bl (rd_isB ⟨_, rfl, ifT (wpe_op (wpe_l (wpl_call (wpa_cons (wpe_tup (wpa_cons (wpe_int (wpa_nil ⟨len_le rfl, ?_⟩))))))))⟩)
    refine wpa_cons (wpe_l (wpl_lst (wpa_nil ⟨by decide, wpa_nil ⟨rfl, ⟨[0], [], rfl, e0⟩, fun x hx => ?_⟩⟩)))
    rw [hx [0] [] rfl]
    refine wpe_l (wpl_lst (wpa_nil ⟨by decide, rd_eqD 9 (by decide) (encW_ok 7 _) ok_nil ?_⟩))
    have e3 := (eq_nil (sortB (List.filter (fun q => !mb [0] q) []))).trans (sort_nil _)
    have e4 : D.eq (D.lst (List.map encB (sortB (List.filter (fun q => !mb [0] q) [])))) (.lst []) = true := e3
    rw [e4]
    exact h
end
section
variable {K : PySem.W.Frag} {vs : List V} {H : Hp} {Q : VK} {E : XK}
theorem ln_meets (h : sp_meets K vs H Q E) : vs.length = 2 := ln_of h
theorem ln_missed (h : sp_missed K vs H Q E) : vs.length = 2 := ll_of h
theorem ln_meets_bound (h : sp_meets_bound K vs H Q E) : vs.length = 2 := ln_of h
theorem ln_law_bag (h : sp_law_bag K vs H Q E) : vs.length = 1 := by obtain ⟨a, ns, rfl, _⟩ := h; rfl
theorem ln_law_take (h : sp_law_take K vs H Q E) : vs.length = 2 := ln_of h
theorem ln_law_alike (h : sp_law_alike K vs H Q E) : vs.length = 2 := ln_of h
theorem ln_law_meets (h : sp_law_meets K vs H Q E) : vs.length = 2 := ln_of h
theorem ln_law_wide_value (h : sp_law_wide_value K vs H Q E) : vs.length = 1 := ln_of h
theorem ln_law_beside (h : sp_law_beside K vs H Q E) : vs.length = 2 := ln_of h
theorem ln_law (h : sp_law K vs H Q E) : vs.length = 1 := by obtain ⟨a, ns, rfl, _⟩ := h; rfl
theorem encB_inj {p q : Bnd} (h : encB p = encB q) : p = q := by
  obtain ⟨a, m, v⟩ := p
  obtain ⟨a', m', v'⟩ := q
  unfold encB at h
  injection h with h
  simp only [List.cons.injEq, D.int.injEq, D.str.injEq, and_true] at h
  obtain ⟨h1, h2, h3⟩ := h
  have : m = m' := by cases m <;> cases m' <;> first | rfl | (exfalso; exact absurd h2 (by decide +kernel))
  rw [h1, this, h3]
theorem map_inj' {α β : Type} {f : α → β} (hf : ∀ a b, f a = f b → a = b) : ∀ {l m : List α}, l.map f = m.map f → l = m
  | [], [], _ => rfl
  | [], _ :: _, h => by cases h
  | _ :: _, [], h => by cases h
  | a :: l, b :: m, h => by
    rw [List.map_cons, List.map_cons] at h
    injection h with h1 h2
    rw [hf a b h1, map_inj' hf h2]
theorem encW_inj {ws us : List Bnd} (h : encW ws = encW us) : ws = us := by
  unfold encW at h
  injection h with h
  exact map_inj' (fun _ _ => encB_inj) h
theorem encR_inj {r s : List Int} (h : encR r = encR s) : r = s := by
  unfold encR at h
  injection h with h
  exact map_inj' (fun _ _ e => D.int.inj e) h
theorem pair_inj {α : Type} {a b c d : α} (h : [a, b] = [c, d]) : a = c ∧ b = d := by
  injection h with h1 h2
  injection h2 with h2 _
  exact ⟨h1, h2⟩
theorem r_meets (h : sp_meets K vs H Q E) : t_meets K { nx := fun _ H' => Q .non H', rt := Q } (L2.start ["row", "wish", "bound"] vs) H := r_of (fun b ds hl hp => by
  obtain ⟨r, ws, rfl, hw⟩ := hp
  exact w_meets hw fun r' ws' e => by
    obtain ⟨e1, e2⟩ := pair_inj e
    rw [encR_inj e1, encW_inj e2]) h
theorem r_law_meets (h : sp_law_meets K vs H Q E) : t_law_meets K { nx := fun _ H' => Q .non H', rt := Q } (L2.start ["row", "wish", "column", "way", "value"] vs) H := r_of (fun b ds hl hp => by
  obtain ⟨r, ws, rfl, hw⟩ := hp
  exact w_law_meets hw fun r' ws' e => by
    obtain ⟨e1, e2⟩ := pair_inj e
    rw [encR_inj e1, encW_inj e2]) h
theorem r_missed (h : sp_missed K vs H Q E) : t_missed K { nx := fun _ H' => Q .non H', rt := Q } (L2.start ["row", "wish", "bound"] vs) H := rl_of (fun b ds hl hp => by
  obtain ⟨r, ws, rfl, hw⟩ := hp
  exact w_missed hw fun r' ws' e => by
    obtain ⟨e1, e2⟩ := pair_inj e
    rw [encR_inj e1, encW_inj e2]) h
theorem r_meets_bound (h : sp_meets_bound K vs H Q E) : t_meets_bound K { nx := fun _ H' => Q .non H', rt := Q } (L2.start ["row", "bound", "column", "way", "value"] vs) H := r_of (fun b ds hl hp => by
  obtain ⟨r, q, rfl, hw⟩ := hp
  exact w_meets_bound hw fun r' ws' e => by
    obtain ⟨e1, e2⟩ := pair_inj e
    rw [encR_inj e1, encB_inj e2]) h
theorem r_law_bag (h : sp_law_bag K vs H Q E) : t_law_bag K { nx := fun _ H' => Q .non H', rt := Q } (L2.start ["script", "cell"] vs) H := r_bag h
theorem r_law_take (h : sp_law_take K vs H Q E) : t_law_take K { nx := fun _ H' => Q .non H', rt := Q } (L2.start ["bag", "many", "cell", "value", "first", "second"] vs) H := r_take h
theorem r_law_alike (h : sp_law_alike K vs H Q E) : t_law_alike K { nx := fun _ H' => Q .non H', rt := Q } (L2.start ["found", "due"] vs) H := r_of (fun b ds hl hp => by
  obtain ⟨x, rfl, h1, h2, h3⟩ := hp
  exact w_law_alike h1 h2 h3 rfl) h
theorem r_law_wide_value (h : sp_law_wide_value K vs H Q E) : t_law_wide_value K { nx := fun _ H' => Q .non H', rt := Q } (L2.start ["bag", "far", "some"] vs) H := r_of (fun b ds hl hp => by
  obtain ⟨hb, rfl⟩ := hp
  exact w_law_wide_value hb fun v hv => ⟨v, rfl, hv⟩) h
theorem r_law_beside (h : sp_law_beside K vs H Q E) : t_law_beside K { nx := fun _ H' => Q .non H', rt := Q } (L2.start ["bag", "row", "found", "k", "column", "way", "value", "bound"] vs) H := r_of (fun b ds hl hp => by
  obtain ⟨hb, r, rfl, hr⟩ := hp
  exact w_law_beside hb hr fun ws hw r' e => by
    obtain ⟨_, e2⟩ := pair_inj e
    rw [← encR_inj e2]
    exact ⟨ws, rfl, hw⟩) h
theorem r_law (h : sp_law K vs H Q E) : t_law K { nx := fun _ H' => Q .non H', rt := Q } (L2.start ["script", "bag", "k", "row", "wish", "due", "handed", "kept", "told", "column", "bound"] vs) H :=
  law_run (t := t_law1 K) h (by decide) fun p c => w_law1 rfl rfl
end

end PK

namespace PK
open PySem PySem.Spec PyProof.Rows L2 DL
structure Txt (K : PySem.W.Frag) (mg : Str → Option Value) where
  f_meets : Addr
  d_meets : FuncData
  F_meets : Fun K "meets" "meets" s_meets f_meets d_meets
  g_meets : mg "meets" = some (.ref f_meets)
  f_missed : Addr
  d_missed : FuncData
  F_missed : Fun K "missed" "missed" s_missed f_missed d_missed
  g_missed : mg "missed" = some (.ref f_missed)
  f_meets_bound : Addr
  d_meets_bound : FuncData
  F_meets_bound : Fun K "_meets_bound" "_meets_bound" s_meets_bound f_meets_bound d_meets_bound
  g_meets_bound : mg "_meets_bound" = some (.ref f_meets_bound)
  f_law_bag : Addr
  d_law_bag : FuncData
  F_law_bag : Fun K "_law_bag" "_law_bag" s_law_bag f_law_bag d_law_bag
  g_law_bag : mg "_law_bag" = some (.ref f_law_bag)
  f_law_take : Addr
  d_law_take : FuncData
  F_law_take : Fun K "_law_take" "_law_take" s_law_take f_law_take d_law_take
  g_law_take : mg "_law_take" = some (.ref f_law_take)
  f_law_alike : Addr
  d_law_alike : FuncData
  F_law_alike : Fun K "_law_alike" "_law_alike" s_law_alike f_law_alike d_law_alike
  g_law_alike : mg "_law_alike" = some (.ref f_law_alike)
  f_law_meets : Addr
  d_law_meets : FuncData
  F_law_meets : Fun K "_law_meets" "_law_meets" s_law_meets f_law_meets d_law_meets
  g_law_meets : mg "_law_meets" = some (.ref f_law_meets)
  f_law_wide_value : Addr
  d_law_wide_value : FuncData
  F_law_wide_value : Fun K "_law_wide_value" "_law_wide_value" s_law_wide_value f_law_wide_value d_law_wide_value
  g_law_wide_value : mg "_law_wide_value" = some (.ref f_law_wide_value)
  f_law_beside : Addr
  d_law_beside : FuncData
  F_law_beside : Fun K "_law_beside" "_law_beside" s_law_beside f_law_beside d_law_beside
  g_law_beside : mg "_law_beside" = some (.ref f_law_beside)
  f_law : Addr
  d_law : FuncData
  F_law : Fun K "law" "law" s_law f_law d_law
  g_law : mg "law" = some (.ref f_law)
  m_abs : mg "abs" = none
  m_all : mg "all" = none
  m_len : mg "len" = none
  m_list : mg "list" = none
  m_max : mg "max" = none
  m_min : mg "min" = none
  m_range : mg "range" = none
  m_repr : mg "repr" = none
  m_sorted : mg "sorted" = none
  m_tuple : mg "tuple" = none
section
variable {P : Program} {w : World} {K : PySem.W.Frag} {mg : Str → Option Value} {base : Heap}
theorem bd_meets (T : Txt K mg) : L2.Binds K T.d_meets ["row", "wish"] [] :=
  T.F_meets.binds fun _ _ _ _ _ _ us hl => match us, hl with | [_, _], _ => rfl
theorem bd_missed (T : Txt K mg) : L2.Binds K T.d_missed ["row", "wish"] [] :=
  T.F_missed.binds fun _ _ _ _ _ _ us hl => match us, hl with | [_, _], _ => rfl
theorem bd_meets_bound (T : Txt K mg) : L2.Binds K T.d_meets_bound ["row", "bound"] [] :=
  T.F_meets_bound.binds fun _ _ _ _ _ _ us hl => match us, hl with | [_, _], _ => rfl
theorem bd_law_bag (T : Txt K mg) : L2.Binds K T.d_law_bag ["script"] [] :=
  T.F_law_bag.binds fun _ _ _ _ _ _ us hl => match us, hl with | [_], _ => rfl
theorem bd_law_take (T : Txt K mg) : L2.Binds K T.d_law_take ["bag", "many"] [] :=
  T.F_law_take.binds fun _ _ _ _ _ _ us hl => match us, hl with | [_, _], _ => rfl
theorem bd_law_alike (T : Txt K mg) : L2.Binds K T.d_law_alike ["found", "due"] [] :=
  T.F_law_alike.binds fun _ _ _ _ _ _ us hl => match us, hl with | [_, _], _ => rfl
theorem bd_law_meets (T : Txt K mg) : L2.Binds K T.d_law_meets ["row", "wish"] [] :=
  T.F_law_meets.binds fun _ _ _ _ _ _ us hl => match us, hl with | [_, _], _ => rfl
theorem bd_law_wide_value (T : Txt K mg) : L2.Binds K T.d_law_wide_value ["bag"] [] :=
  T.F_law_wide_value.binds fun _ _ _ _ _ _ us hl => match us, hl with | [_], _ => rfl
theorem bd_law_beside (T : Txt K mg) : L2.Binds K T.d_law_beside ["bag", "row"] [] :=
  T.F_law_beside.binds fun _ _ _ _ _ _ us hl => match us, hl with | [_, _], _ => rfl
theorem bd_law (T : Txt K mg) : L2.Binds K T.d_law ["script"] [] :=
  T.F_law.binds fun _ _ _ _ _ _ us hl => match us, hl with | [_], _ => rfl
theorem ok_meets_bound (T : Txt K mg) : GL.FnG P w K mg base 1 T.f_meets_bound T.d_meets_bound ["row", "bound"] (sp_meets_bound K) := by
  refine GL.okG (k := 0) T.F_meets_bound sc_meets_bound (fun vs H Q E h => ln_meets_bound h) (fun cdv A outer s H vs Q E hg hr h => ?_)
  exact ⟨t_meets_bound K, (pss_cons (ps_asg (pv 1) (pg_tup (by rfl) (pgs_cons (pg_name (i := 2) sc_meets_bound.nd (by rfl) (by first | exact .inl rfl | exact .inr rfl)) (pgs_cons (pg_name (i := 3) sc_meets_bound.nd (by rfl) (by first | exact .inl rfl | exact .inr rfl)) (pgs_cons (pg_name (i := 4) sc_meets_bound.nd (by rfl) (by first | exact .inl rfl | exact .inr rfl)) pgs_nil)))))
    (pss_cons (ps_if (pt_cmpR (kEq (K := K) (room100 hr)) (pv 3) pe_str (nomark _))
    (pss_one (ps_ret (pe_cmpR op_ge (pe_ix (kIx (K := K)) (pv 0) (pv 2) (fun _ _ => rfl)) (pv 4) (nomark _))))
    pss_nil)
    (pss_one (ps_ret (pe_cmpR op_le (pe_ix (kIx (K := K)) (pv 0) (pv 2) (fun _ _ => rfl)) (pv 4) (nomark _)))))), r_meets_bound h⟩
theorem ok_law_bag (T : Txt K mg) : GL.FnG P w K mg base 1 T.f_law_bag T.d_law_bag ["script"] (sp_law_bag K) := by
  refine GL.okG (k := 0) T.F_law_bag sc_law_bag (fun vs H Q E h => ln_law_bag h) (fun cdv A outer s H vs Q E hg hr h => ?_)
  exact ⟨t_law_bag K, (pss_one (ps_ret (pe_lst (pa_cons pe_int (pa_cons pe_int (pa_cons pe_int (pa_cons (pe_lc (own := [("cell", 1)]) (wi := (iList K (tSl (rSl K) (tVar 0) tNoPart (tPart (tC (.int 63)))))) (g := (gName 1)) (tt := tYes) (te := (tCB rAbs (tCons (tVar 1) tNil))) (by rfl) sc_law_bag.nd (pi_list (pe_slice (kSl (K := K)) (pv 0) po_none (po_some pe_int))) (blkOk_by (own := [("cell", 1)]) (N := ["script", "cell"]) (sc := defScope s_law_bag) (by decide +kernel)) (fun _ _ _ _ _ => (pg_name (i := 1) sc_law_bag.nd (by rfl) (by first | exact .inl rfl | exact .inr rfl))) (fun _ _ _ _ _ => pts_nil) (fun _ _ _ _ _ => (pe_callB kAbs (by rfl) T.m_abs bt_abs (pa_cons (pv 1) pa_nil)))) pa_nil))))))), r_law_bag h⟩
theorem ok_law_take (T : Txt K mg) : GL.FnG P w K mg base 1 T.f_law_take T.d_law_take ["bag", "many"] (sp_law_take K) := by
  refine GL.okG (k := 0) T.F_law_take sc_law_take (fun vs H Q E h => ln_law_take h) (fun cdv A outer s H vs Q E hg hr h => ?_)
  exact ⟨t_law_take K, (pss_cons (ps_if (pt_cmpR (kEq (K := K) (room100 hr)) (pe_ix (kIx (K := K)) (pv 0) pe_int (fun _ _ => rfl)) pe_int (nomark _))
    (pss_cons (ps_set (i := 2) sc_law_take.nd (by rfl) (by first | exact .inl rfl | exact .inr rfl) pe_int)
    (pss_cons (ps_if (pt_cmpR op_lt (pe_ix (kIx (K := K)) (pv 0) pe_int (fun _ _ => rfl)) (pe_callB (kLen (K := K)) (by rfl) T.m_len bt_len (pa_cons (pe_ix (kIx (K := K)) (pv 0) pe_int (fun _ _ => rfl)) pa_nil)) (nomark _))
    (pss_one (ps_set (i := 2) sc_law_take.nd (by rfl) (by first | exact .inl rfl | exact .inr rfl) (pe_ix (kIx (K := K)) (pe_ix (kIx (K := K)) (pv 0) pe_int (fun _ _ => rfl)) (pe_ix (kIx (K := K)) (pv 0) pe_int (fun _ _ => rfl)) (fun _ _ => rfl))))
    pss_nil)
    (pss_cons (ps_augS (pv 0) pe_int (kGet (K := K)) pe_int ip_add set_list)
    (pss_cons (ps_if (pt_cmpR op_ge (pv 2) pe_int (nomark _))
    (pss_one (ps_asg (pv 2) (pg_sub (pv 0) pe_int set_list)))
    pss_nil)
    (pss_one (ps_asg (pe_op op_mod (pe_op op_add (pe_op op_add (pe_op op_mul (pe_ix (kIx (K := K)) (pv 0) pe_int (fun _ _ => rfl)) pe_int) (pe_op op_mod (pv 2) pe_int)) (pe_op op_mul pe_int (pe_ix (kIx (K := K)) (pv 0) pe_int (fun _ _ => rfl)))) pe_int) (pg_sub (pv 0) pe_int set_list)))))))
    pss_nil)
    (pss_cons (ps_if (pt_cmpR op_gt (pe_ix (kIx (K := K)) (pv 0) pe_int (fun _ _ => rfl)) pe_int (nomark _))
    (pss_cons (ps_set (i := 3) sc_law_take.nd (by rfl) (by first | exact .inl rfl | exact .inr rfl) (pe_op op_mod (pe_ix (kIx (K := K)) (pv 0) pe_int (fun _ _ => rfl)) (pv 1)))
    (pss_cons (ps_asg (pe_op op_fdivW (pe_ix (kIx (K := K)) (pv 0) pe_int (fun _ _ => rfl)) (pv 1)) (pg_sub (pv 0) pe_int set_list))
    (pss_one (ps_ret (pv 3)))))
    pss_nil)
    (pss_cons (ps_set (i := 4) sc_law_take.nd (by rfl) (by first | exact .inl rfl | exact .inr rfl) (pe_op op_mod (pe_op op_mul (pe_op op_add (pe_ix (kIx (K := K)) (pv 0) pe_int (fun _ _ => rfl)) pe_int) pe_int) pe_int))
    (pss_cons (ps_set (i := 5) sc_law_take.nd (by rfl) (by first | exact .inl rfl | exact .inr rfl) (pe_op op_mod (pe_op op_mul (pe_op op_mod (pe_op op_mul (pv 4) (pv 4)) pe_int) pe_int) pe_int))
    (pss_cons (ps_if (pt_cmpR op_gt (pv 1) pe_int (nomark _))
    (pss_one (ps_ret (pe_op op_mod (pe_op op_add (pe_op op_mul (pv 5) pe_int) (pv 4)) (pv 1))))
    pss_nil)
    (pss_one (ps_ret (pe_op op_mod (pe_op op_fdivW (pv 5) pe_int) (pv 1))))))))), r_law_take h⟩
theorem ok_law_alike (T : Txt K mg) : GL.FnG P w K mg base 1 T.f_law_alike T.d_law_alike ["found", "due"] (sp_law_alike K) := by
  refine GL.okG (k := 0) T.F_law_alike sc_law_alike (fun vs H Q E h => ln_law_alike h) (fun cdv A outer s H vs Q E hg hr h => ?_)
  exact ⟨t_law_alike K, (pss_one (ps_ret (pe_and (pe_cmpR (kEq (K := K) (room100 hr)) (pv 0) (pv 1) (nomark _)) (pe_one (pe_cmpR op_eq (pe_callB (kRepr (K := K) hg (room100 hr)) (by rfl) T.m_repr bt_repr (pa_cons (pv 0) pa_nil)) (pe_callB (kRepr (K := K) hg (room100 hr)) (by rfl) T.m_repr bt_repr (pa_cons (pv 1) pa_nil)) (nomark _)))))), r_law_alike h⟩
theorem ok_law_meets (T : Txt K mg) : GL.FnG P w K mg base 1 T.f_law_meets T.d_law_meets ["row", "wish"] (sp_law_meets K) := by
  refine GL.okG (k := 0) T.F_law_meets sc_law_meets (fun vs H Q E h => ln_law_meets h) (fun cdv A outer s H vs Q E hg hr h => ?_)
  exact ⟨t_law_meets K, (pss_cons (ps_for PassesOwn.never (by rfl) (pi_list (pv 1)) (pg_tup (by rfl) (pgs_cons (pg_name (i := 2) sc_law_meets.nd (by rfl) (by first | exact .inl rfl | exact .inr rfl)) (pgs_cons (pg_name (i := 3) sc_law_meets.nd (by rfl) (by first | exact .inl rfl | exact .inr rfl)) (pgs_cons (pg_name (i := 4) sc_law_meets.nd (by rfl) (by first | exact .inl rfl | exact .inr rfl)) pgs_nil))))
    (pss_one (ps_if (PW.pt (pw_or (PW.pt (pw_and (pt_cmpR (kEq (K := K) (room100 hr)) (pv 3) pe_str (nomark _)) (pw_and1 (pt_cmpR op_lt (pe_ix (kIx (K := K)) (pv 0) (pv 2) (fun _ _ => rfl)) (pv 4) (nomark _))))) (pw_or1 (PW.pt (pw_and (pt_cmpR (kEq (K := K) (room100 hr)) (pv 3) pe_str (nomark _)) (pw_and1 (pt_cmpR op_gt (pe_ix (kIx (K := K)) (pv 0) (pv 2) (fun _ _ => rfl)) (pv 4) (nomark _))))))))
    (pss_one (ps_ret pe_bl))
    pss_nil)))
    (pss_one (ps_ret pe_bl))), r_law_meets h⟩
theorem ok_meets (T : Txt K mg) : GL.FnG P w K mg base 2 T.f_meets T.d_meets ["row", "wish"] (sp_meets K) := by
  refine GL.okG (k := 1) T.F_meets sc_meets (fun vs H Q E h => ln_meets h) (fun cdv A outer s H vs Q E hg hr h => ?_)
  exact ⟨t_meets K, (pss_one (ps_ret (pe_callB (kAll (K := K)) (by rfl) T.m_all bt_all (pa_cons (pe_lc (own := [("bound", 2)]) (wi := (iList K (tVar 1))) (g := (gName 2)) (tt := tYes) (te := (tCall (sp_meets_bound K) [] E0 (tCons (tVar 0) (tCons (tVar 2) tNil)))) (by rfl) sc_meets.nd (pi_list (pv 1)) (blkOk_by (own := [("bound", 2)]) (N := ["row", "wish", "bound"]) (sc := defScope s_meets) (by decide +kernel)) (fun _ _ _ _ _ => (pg_name (i := 2) sc_meets.nd (by rfl) (by first | exact .inl rfl | exact .inr rfl))) (fun _ _ _ _ _ => pts_nil) (fun _ _ _ _ _ => (GL.pe_callG (ok_meets_bound T) hg (hr.mono (by decide)) (by rfl) T.g_meets_bound T.F_meets_bound.kp (bd_meets_bound T) pass0 (pa_cons (pv 0) (pa_cons (pv 2) pa_nil))))) pa_nil)))), r_meets h⟩
theorem ok_missed (T : Txt K mg) : GL.FnG P w K mg base 2 T.f_missed T.d_missed ["row", "wish"] (sp_missed K) := by
  refine GL.okG (k := 1) T.F_missed sc_missed (fun vs H Q E h => ln_missed h) (fun cdv A outer s H vs Q E hg hr h => ?_)
  exact ⟨t_missed K, (pss_one (ps_ret (pe_callB (kSorted (K := K) (room100 hr)) (by rfl) T.m_sorted bt_sorted (pa_cons (pe_lc (own := [("bound", 2)]) (wi := (iList K (tVar 1))) (g := (gName 2)) (tt := (tNot (tB (tCall (sp_meets_bound K) [] E0 (tCons (tVar 0) (tCons (tVar 2) tNil)))))) (te := (tVar 2)) (by rfl) sc_missed.nd (pi_list (pv 1)) (blkOk_by (own := [("bound", 2)]) (N := ["row", "wish", "bound"]) (sc := defScope s_missed) (by decide +kernel)) (fun _ _ _ _ _ => (pg_name (i := 2) sc_missed.nd (by rfl) (by first | exact .inl rfl | exact .inr rfl))) (fun _ _ _ _ _ => (pts_one (pt_not (pt_val (GL.pe_callG (ok_meets_bound T) hg (hr.mono (by decide)) (by rfl) T.g_meets_bound T.F_meets_bound.kp (bd_meets_bound T) pass0 (pa_cons (pv 0) (pa_cons (pv 2) pa_nil))))))) (fun _ _ _ _ _ => (pv 2))) pa_nil)))), r_missed h⟩
theorem ok_law_wide_value (T : Txt K mg) : GL.FnG P w K mg base 2 T.f_law_wide_value T.d_law_wide_value ["bag"] (sp_law_wide_value K) := by
  refine GL.okG (k := 1) T.F_law_wide_value sc_law_wide_value (fun vs H Q E h => ln_law_wide_value h) (fun cdv A outer s H vs Q E hg hr h => ?_)
  exact ⟨t_law_wide_value K, (pss_cons (ps_set (i := 1) sc_law_wide_value.nd (by rfl) (by first | exact .inl rfl | exact .inr rfl) (pe_op op_pow pe_int pe_int))
    (pss_cons (ps_set (i := 2) sc_law_wide_value.nd (by rfl) (by first | exact .inl rfl | exact .inr rfl) (pe_lst (pa_cons (pe_op op_sub (GL.pe_callG (ok_law_take T) hg (hr.mono (by decide)) (by rfl) T.g_law_take T.F_law_take.kp (bd_law_take T) pass0 (pa_cons (pv 0) (pa_cons pe_int pa_nil))) pe_int) (pa_cons (pe_op op_sub (GL.pe_callG (ok_law_take T) hg (hr.mono (by decide)) (by rfl) T.g_law_take T.F_law_take.kp (bd_law_take T) pass0 (pa_cons (pv 0) (pa_cons pe_int pa_nil))) pe_int) (pa_cons (pe_op op_sub (pv 1) (GL.pe_callG (ok_law_take T) hg (hr.mono (by decide)) (by rfl) T.g_law_take T.F_law_take.kp (bd_law_take T) pass0 (pa_cons (pv 0) (pa_cons pe_int pa_nil)))) (pa_cons (pe_op op_sub (GL.pe_callG (ok_law_take T) hg (hr.mono (by decide)) (by rfl) T.g_law_take T.F_law_take.kp (bd_law_take T) pass0 (pa_cons (pv 0) (pa_cons pe_int pa_nil))) (pv 1)) pa_nil))))))
    (pss_one (ps_ret (pe_ix (kIx (K := K)) (pe_op op_cat (pv 2) (pe_lst (pa_cons (pe_op op_sub (GL.pe_callG (ok_law_take T) hg (hr.mono (by decide)) (by rfl) T.g_law_take T.F_law_take.kp (bd_law_take T) pass0 (pa_cons (pv 0) (pa_cons (pe_op op_add (pe_op op_mul pe_int (pv 1)) pe_int) pa_nil))) (pv 1)) pa_nil))) (GL.pe_callG (ok_law_take T) hg (hr.mono (by decide)) (by rfl) T.g_law_take T.F_law_take.kp (bd_law_take T) pass0 (pa_cons (pv 0) (pa_cons pe_int pa_nil))) (fun _ _ => rfl)))))), r_law_wide_value h⟩
theorem ok_law_beside (T : Txt K mg) : GL.FnG P w K mg base 3 T.f_law_beside T.d_law_beside ["bag", "row"] (sp_law_beside K) := by
  refine GL.okG (k := 2) T.F_law_beside sc_law_beside (fun vs H Q E h => ln_law_beside h) (fun cdv A outer s H vs Q E hg hr h => ?_)
  exact ⟨t_law_beside K, (pss_cons (ps_set (i := 2) sc_law_beside.nd (by rfl) (by first | exact .inl rfl | exact .inr rfl) (pe_lst pa_nil))
    (pss_cons (ps_for PassesOwn.never (by rfl) (pi_range1 (by rfl) T.m_range (pa_cons (GL.pe_callG (ok_law_take T) hg (hr.mono (by decide)) (by rfl) T.g_law_take T.F_law_take.kp (bd_law_take T) pass0 (pa_cons (pv 0) (pa_cons (pe_op op_add (pe_op op_mul pe_int (pe_callB (kLen (K := K)) (by rfl) T.m_len bt_len (pa_cons (pv 1) pa_nil))) pe_int) pa_nil))) pa_nil)) (pg_name (i := 3) sc_law_beside.nd (by rfl) (by first | exact .inl rfl | exact .inr rfl))
    (pss_cons (ps_par (i := 4) (j := 5) (by rfl) sc_law_beside.nd (by rfl) (by rfl) (by decide) (by rfl) (by rfl) (pa_cons (GL.pe_callG (ok_law_take T) hg (hr.mono (by decide)) (by rfl) T.g_law_take T.F_law_take.kp (bd_law_take T) pass0 (pa_cons (pv 0) (pa_cons (pe_callB (kLen (K := K)) (by rfl) T.m_len bt_len (pa_cons (pv 1) pa_nil)) pa_nil))) (pa_cons (pe_ix (kIx (K := K)) (pe_lst (pa_cons pe_str (pa_cons pe_str pa_nil))) (GL.pe_callG (ok_law_take T) hg (hr.mono (by decide)) (by rfl) T.g_law_take T.F_law_take.kp (bd_law_take T) pass0 (pa_cons (pv 0) (pa_cons pe_int pa_nil))) (fun _ _ => rfl)) pa_nil)) (by rfl))
    (pss_cons (ps_set (i := 6) sc_law_beside.nd (by rfl) (by first | exact .inl rfl | exact .inr rfl) (pe_ix (kIx (K := K)) (pe_lst (pa_cons (pe_ix (kIx (K := K)) (pv 1) (pv 4) (fun _ _ => rfl)) (pa_cons (pe_op op_add (pe_ix (kIx (K := K)) (pv 1) (pv 4) (fun _ _ => rfl)) pe_int) (pa_cons (pe_op op_sub (pe_ix (kIx (K := K)) (pv 1) (pv 4) (fun _ _ => rfl)) pe_int) (pa_cons (GL.pe_callG (ok_law_wide_value T) hg (hr.mono (by decide)) (by rfl) T.g_law_wide_value T.F_law_wide_value.kp (bd_law_wide_value T) pass0 (pa_cons (pv 0) pa_nil)) pa_nil))))) (GL.pe_callG (ok_law_take T) hg (hr.mono (by decide)) (by rfl) T.g_law_take T.F_law_take.kp (bd_law_take T) pass0 (pa_cons (pv 0) (pa_cons pe_int pa_nil))) (fun _ _ => rfl)))
    (pss_one (ps_if (pt_cmpR (kNotIn (K := K) (room100 hr)) (pe_tup (pa_cons (pv 4) (pa_cons (pv 5) pa_nil))) (pe_lc (own := [("bound", 7)]) (wi := (iList K (tVar 2))) (g := (gName 7)) (tt := tYes) (te := (tSl (rSl K) (tVar 7) tNoPart (tPart (tC (.int 2))))) (by rfl) sc_law_beside.nd (pi_list (pv 2)) (blkOk_by (own := [("bound", 7)]) (N := ["bag", "row", "found", "k", "column", "way", "value", "bound"]) (sc := defScope s_law_beside) (by decide +kernel)) (fun _ _ _ _ _ => (pg_name (i := 7) sc_law_beside.nd (by rfl) (by first | exact .inl rfl | exact .inr rfl))) (fun _ _ _ _ _ => pts_nil) (fun _ _ _ _ _ => (pe_slice (kSl (K := K)) (pv 7) po_none (po_some pe_int)))) (by rfl))
    (pss_one (ps_expr (pe_bm PySem.F.plainAttrs_list PySem.F.slot_list_insert PySem.F.type_list_insert mt_ins (pv 2) (pa_cons (GL.pe_callG (ok_law_take T) hg (hr.mono (by decide)) (by rfl) T.g_law_take T.F_law_take.kp (bd_law_take T) pass0 (pa_cons (pv 0) (pa_cons (pe_op op_add (pe_callB (kLen (K := K)) (by rfl) T.m_len bt_len (pa_cons (pv 2) pa_nil)) pe_int) pa_nil))) (pa_cons (pe_tup (pa_cons (pv 4) (pa_cons (pv 5) (pa_cons (pe_callB kMin2 (by rfl) T.m_min bt_min (pa_cons (pe_op op_pow pe_int pe_int) (pa_cons (pe_callB kMax2 (by rfl) T.m_max bt_max (pa_cons (pe_un un_neg (pe_op op_pow pe_int pe_int)) (pa_cons (pv 6) pa_nil))) pa_nil))) pa_nil)))) pa_nil)))))
    pss_nil)))))
    (pss_one (ps_ret (pv 2))))), r_law_beside h⟩
theorem ok_law (T : Txt K mg) : GL.FnG P w K mg base 4 T.f_law T.d_law ["script"] (sp_law K) := by
  refine GL.okG (k := 3) T.F_law sc_law (fun vs H Q E h => ln_law h) (fun cdv A outer s H vs Q E hg hr h => ?_)
  exact ⟨t_law K, (pss_cons (ps_set (i := 1) sc_law.nd (by rfl) (by first | exact .inl rfl | exact .inr rfl) (GL.pe_callG (ok_law_bag T) hg (hr.mono (by decide)) (by rfl) T.g_law_bag T.F_law_bag.kp (bd_law_bag T) pass0 (pa_cons (pv 0) pa_nil)))
    (pss_cons (ps_for PassesOwn.never (by rfl) (pi_range1 (by rfl) T.m_range (pa_cons pe_int pa_nil)) (pg_name (i := 2) sc_law.nd (by rfl) (by first | exact .inl rfl | exact .inr rfl))
    (pss_cons (ps_set (i := 3) sc_law.nd (by rfl) (by first | exact .inl rfl | exact .inr rfl) (pe_callTy (kTuple (K := K)) (by rfl) T.m_tuple bt_tuple (pa_cons (pe_lc (own := [("column", 9)]) (wi := (iRng1 (tCons (tOp (rI0 fun i j => .int (i + j)) (tC (.int 1)) (tCall (sp_law_take K) [] E0 (tCons (tVar 1) (tCons (tC (.int 6)) tNil)))) tNil))) (g := (gName 9)) (tt := tYes) (te := (tCall (sp_law_wide_value K) [] E0 (tCons (tVar 1) tNil))) (by rfl) sc_law.nd (pi_range1 (by rfl) T.m_range (pa_cons (pe_op op_add pe_int (GL.pe_callG (ok_law_take T) hg (hr.mono (by decide)) (by rfl) T.g_law_take T.F_law_take.kp (bd_law_take T) pass0 (pa_cons (pv 1) (pa_cons pe_int pa_nil)))) pa_nil)) (blkOk_by (own := [("column", 9)]) (N := ["script", "bag", "k", "row", "wish", "due", "handed", "kept", "told", "column", "bound"]) (sc := defScope s_law) (by decide +kernel)) (fun _ _ _ _ _ => (pg_name (i := 9) sc_law.nd (by rfl) (by first | exact .inl rfl | exact .inr rfl))) (fun _ _ _ _ _ => pts_nil) (fun _ _ _ _ _ => (GL.pe_callG (ok_law_wide_value T) hg (hr.mono (by decide)) (by rfl) T.g_law_wide_value T.F_law_wide_value.kp (bd_law_wide_value T) pass0 (pa_cons (pv 1) pa_nil)))) pa_nil)))
    (pss_cons (ps_set (i := 4) sc_law.nd (by rfl) (by first | exact .inl rfl | exact .inr rfl) (GL.pe_callG (ok_law_beside T) hg (hr.mono (by decide)) (by rfl) T.g_law_beside T.F_law_beside.kp (bd_law_beside T) pass0 (pa_cons (pv 1) (pa_cons (pv 3) pa_nil))))
    (pss_cons (ps_if (pt_cmpR (kEq (K := K) (room100 hr)) (GL.pe_callG (ok_law_take T) hg (hr.mono (by decide)) (by rfl) T.g_law_take T.F_law_take.kp (bd_law_take T) pass0 (pa_cons (pv 1) (pa_cons pe_int pa_nil))) pe_int (nomark _))
    (pss_one (ps_setLc (i := 4) (own := [("bound", 10)]) (wi := (iList K (tVar 4))) (g := (gName 10)) (tt := (tB (tCall (sp_law_meets K) [] E0 (tCons (tVar 3) (tCons (tLst (tCons (tVar 10) tNil)) tNil))))) (te := (tVar 10)) (by rfl) sc_law.nd (by rfl) (by rfl) (sw_true (by rfl) (by rfl) (by rfl) (by decide +kernel)) (pi_list (pv 4)) (blkOk_by (own := [("bound", 10)]) (N := ["script", "bag", "k", "row", "wish", "due", "handed", "kept", "told", "column", "bound"]) (sc := defScope s_law) (by decide +kernel)) (fun _ _ _ _ _ => (pg_name (i := 10) sc_law.nd (by rfl) (by first | exact .inl rfl | exact .inr rfl))) (fun _ _ _ _ _ => (pts_one (pt_val (GL.pe_callG (ok_law_meets T) hg (hr.mono (by decide)) (by rfl) T.g_law_meets T.F_law_meets.kp (bd_law_meets T) pass0 (pa_cons (pv 3) (pa_cons (pe_lst (pa_cons (pv 10) pa_nil)) pa_nil)))))) (fun _ _ _ _ _ => (pv 10))))
    pss_nil)
    (pss_cons (ps_set (i := 5) sc_law.nd (by rfl) (by first | exact .inl rfl | exact .inr rfl) (pe_callB (kSorted (K := K) (room100 hr)) (by rfl) T.m_sorted bt_sorted (pa_cons (pe_lc (own := [("bound", 10)]) (wi := (iList K (tVar 4))) (g := (gName 10)) (tt := (tNot (tB (tCall (sp_law_meets K) [] E0 (tCons (tVar 3) (tCons (tLst (tCons (tVar 10) tNil)) tNil)))))) (te := (tVar 10)) (by rfl) sc_law.nd (pi_list (pv 4)) (blkOk_by (own := [("bound", 10)]) (N := ["script", "bag", "k", "row", "wish", "due", "handed", "kept", "told", "column", "bound"]) (sc := defScope s_law) (by decide +kernel)) (fun _ _ _ _ _ => (pg_name (i := 10) sc_law.nd (by rfl) (by first | exact .inl rfl | exact .inr rfl))) (fun _ _ _ _ _ => (pts_one (pt_not (pt_val (GL.pe_callG (ok_law_meets T) hg (hr.mono (by decide)) (by rfl) T.g_law_meets T.F_law_meets.kp (bd_law_meets T) pass0 (pa_cons (pv 3) (pa_cons (pe_lst (pa_cons (pv 10) pa_nil)) pa_nil))))))) (fun _ _ _ _ _ => (pv 10))) pa_nil)))
    (pss_one (ps_for PassesOwn.never (by rfl) (pi_list (pe_lst (pa_cons (pv 4) (pa_cons (DL.pe_revK (K := K) (pv 4)) (pa_cons (pv 4) pa_nil))))) (pg_name (i := 6) sc_law.nd (by rfl) (by first | exact .inl rfl | exact .inr rfl))
    (pss_cons (ps_set (i := 7) sc_law.nd (by rfl) (by first | exact .inl rfl | exact .inr rfl) (pe_callTy (kList (K := K)) (by rfl) T.m_list bt_list (pa_cons (pv 6) pa_nil)))
    (pss_cons (ps_set (i := 8) sc_law.nd (by rfl) (by first | exact .inl rfl | exact .inr rfl) (GL.pe_callG (ok_missed T) hg (hr.mono (by decide)) (by rfl) T.g_missed T.F_missed.kp (bd_missed T) pass0 (pa_cons (pv 3) (pa_cons (pv 6) pa_nil))))
    (pss_cons (ps_if (PW.pt (pw_or (pt_not (pt_val (GL.pe_callG (ok_law_alike T) hg (hr.mono (by decide)) (by rfl) T.g_law_alike T.F_law_alike.kp (bd_law_alike T) pass0 (pa_cons (pv 8) (pa_cons (pv 5) pa_nil))))) (pw_or (pt_not (pt_val (GL.pe_callG (ok_law_alike T) hg (hr.mono (by decide)) (by rfl) T.g_law_alike T.F_law_alike.kp (bd_law_alike T) pass0 (pa_cons (GL.pe_callG (ok_meets T) hg (hr.mono (by decide)) (by rfl) T.g_meets T.F_meets.kp (bd_meets T) pass0 (pa_cons (pv 3) (pa_cons (pv 6) pa_nil))) (pa_cons (pe_cmpR (kEq (K := K) (room100 hr)) (pv 5) (pe_lst pa_nil) (nomark _)) pa_nil))))) (pw_or1 (pt_cmpR (kNe (K := K) (room100 hr)) (pv 6) (pv 7) (nomark _))))))
    (pss_one (ps_ret pe_bl))
    pss_nil)
    (pss_one (ps_expr (pe_bm PySem.F.plainAttrs_list PySem.F.slot_list_append PySem.F.type_list_append mt_append (pv 8) (pa_cons pe_str pa_nil))))))))))))))
    (pss_one (ps_ret (pe_and (pe_cmpR op_isBl (GL.pe_callG (ok_meets T) hg (hr.mono (by decide)) (by rfl) T.g_meets T.F_meets.kp (bd_meets T) pass0 (pa_cons (pe_tup (pa_cons pe_int pa_nil)) (pa_cons (pe_lst pa_nil) pa_nil))) pe_bl (nomark _)) (pe_one (pe_cmpR (kEq (K := K) (room100 hr)) (GL.pe_callG (ok_missed T) hg (hr.mono (by decide)) (by rfl) T.g_missed T.F_missed.kp (bd_missed T) pass0 (pa_cons (pe_tup (pa_cons pe_int pa_nil)) (pa_cons (pe_lst pa_nil) pa_nil))) (pe_lst pa_nil) (nomark _)))))))), r_law h⟩
end
theorem all_mk {l : PySem.W.OpenLaw} {w : World} {K : PySem.W.Frag} {h : Heap} {mg : Str → Option Value} {fa f0 f1 f2 f3 f4 f5 f6 f7 f8 f9 : Addr} (X : K.In h) (G : h.Ns mainGlobals mg) (hfa : mg "law" = some (.ref fa))
    {od0 an0 od1 an1 od2 an2 od3 an3 od4 an4 od5 an5 od6 an6 od7 an7 od8 an8 od9 an9 : Option Addr} {sl0 sl1 sl2 sl3 sl4 sl5 sl6 sl7 sl8 sl9 : Array (Option Value)} {oc0 kV0 dc0 pm0 cd0 ct0 oc1 kV1 dc1 pm1 cd1 ct1 oc2 kV2 dc2 pm2 cd2 ct2 oc3 kV3 dc3 pm3 cd3 ct3 oc4 kV4 dc4 pm4 cd4 ct4 oc5 kV5 dc5 pm5 cd5 ct5 oc6 kV6 dc6 pm6 cd6 ct6 oc7 kV7 dc7 pm7 cd7 ct7 oc8 kV8 dc8 pm8 cd8 ct8 oc9 kV9 dc9 pm9 cd9 ct9 : Value}
    (a0 : PySem.W.nsIn K mainGlobals "meets" = some (some (.ref f0))) (l0 : K.lookup f0 = some ⟨oc0, od0, .func (PySem.W.fnOf "meets" "meets" (defArgs s_meets) (defBody s_meets) (defScope s_meets) .none kV0 dc0 pm0 an0 cd0 ct0), sl0⟩) (c0 : PySem.W.codeIn K cd0 "meets" = true) (k0 : PySem.W.keepIn K (.ref f0) = true)
    (a1 : PySem.W.nsIn K mainGlobals "missed" = some (some (.ref f1))) (l1 : K.lookup f1 = some ⟨oc1, od1, .func (PySem.W.fnOf "missed" "missed" (defArgs s_missed) (defBody s_missed) (defScope s_missed) .none kV1 dc1 pm1 an1 cd1 ct1), sl1⟩) (c1 : PySem.W.codeIn K cd1 "missed" = true) (k1 : PySem.W.keepIn K (.ref f1) = true)
    (a2 : PySem.W.nsIn K mainGlobals "_meets_bound" = some (some (.ref f2))) (l2 : K.lookup f2 = some ⟨oc2, od2, .func (PySem.W.fnOf "_meets_bound" "_meets_bound" (defArgs s_meets_bound) (defBody s_meets_bound) (defScope s_meets_bound) .none kV2 dc2 pm2 an2 cd2 ct2), sl2⟩) (c2 : PySem.W.codeIn K cd2 "_meets_bound" = true) (k2 : PySem.W.keepIn K (.ref f2) = true)
    (a3 : PySem.W.nsIn K mainGlobals "_law_bag" = some (some (.ref f3))) (l3 : K.lookup f3 = some ⟨oc3, od3, .func (PySem.W.fnOf "_law_bag" "_law_bag" (defArgs s_law_bag) (defBody s_law_bag) (defScope s_law_bag) .none kV3 dc3 pm3 an3 cd3 ct3), sl3⟩) (c3 : PySem.W.codeIn K cd3 "_law_bag" = true) (k3 : PySem.W.keepIn K (.ref f3) = true)
    (a4 : PySem.W.nsIn K mainGlobals "_law_take" = some (some (.ref f4))) (l4 : K.lookup f4 = some ⟨oc4, od4, .func (PySem.W.fnOf "_law_take" "_law_take" (defArgs s_law_take) (defBody s_law_take) (defScope s_law_take) .none kV4 dc4 pm4 an4 cd4 ct4), sl4⟩) (c4 : PySem.W.codeIn K cd4 "_law_take" = true) (k4 : PySem.W.keepIn K (.ref f4) = true)
    (a5 : PySem.W.nsIn K mainGlobals "_law_alike" = some (some (.ref f5))) (l5 : K.lookup f5 = some ⟨oc5, od5, .func (PySem.W.fnOf "_law_alike" "_law_alike" (defArgs s_law_alike) (defBody s_law_alike) (defScope s_law_alike) .none kV5 dc5 pm5 an5 cd5 ct5), sl5⟩) (c5 : PySem.W.codeIn K cd5 "_law_alike" = true) (k5 : PySem.W.keepIn K (.ref f5) = true)
    (a6 : PySem.W.nsIn K mainGlobals "_law_meets" = some (some (.ref f6))) (l6 : K.lookup f6 = some ⟨oc6, od6, .func (PySem.W.fnOf "_law_meets" "_law_meets" (defArgs s_law_meets) (defBody s_law_meets) (defScope s_law_meets) .none kV6 dc6 pm6 an6 cd6 ct6), sl6⟩) (c6 : PySem.W.codeIn K cd6 "_law_meets" = true) (k6 : PySem.W.keepIn K (.ref f6) = true)
    (a7 : PySem.W.nsIn K mainGlobals "_law_wide_value" = some (some (.ref f7))) (l7 : K.lookup f7 = some ⟨oc7, od7, .func (PySem.W.fnOf "_law_wide_value" "_law_wide_value" (defArgs s_law_wide_value) (defBody s_law_wide_value) (defScope s_law_wide_value) .none kV7 dc7 pm7 an7 cd7 ct7), sl7⟩) (c7 : PySem.W.codeIn K cd7 "_law_wide_value" = true) (k7 : PySem.W.keepIn K (.ref f7) = true)
    (a8 : PySem.W.nsIn K mainGlobals "_law_beside" = some (some (.ref f8))) (l8 : K.lookup f8 = some ⟨oc8, od8, .func (PySem.W.fnOf "_law_beside" "_law_beside" (defArgs s_law_beside) (defBody s_law_beside) (defScope s_law_beside) .none kV8 dc8 pm8 an8 cd8 ct8), sl8⟩) (c8 : PySem.W.codeIn K cd8 "_law_beside" = true) (k8 : PySem.W.keepIn K (.ref f8) = true)
    (a9 : PySem.W.nsIn K mainGlobals "law" = some (some (.ref f9))) (l9 : K.lookup f9 = some ⟨oc9, od9, .func (PySem.W.fnOf "law" "law" (defArgs s_law) (defBody s_law) (defScope s_law) .none kV9 dc9 pm9 an9 cd9 ct9), sl9⟩) (c9 : PySem.W.codeIn K cd9 "law" = true) (k9 : PySem.W.keepIn K (.ref f9) = true)
    (z0 : PySem.W.nsIn K mainGlobals "abs" = some none)
    (z1 : PySem.W.nsIn K mainGlobals "all" = some none)
    (z2 : PySem.W.nsIn K mainGlobals "len" = some none)
    (z3 : PySem.W.nsIn K mainGlobals "list" = some none)
    (z4 : PySem.W.nsIn K mainGlobals "max" = some none)
    (z5 : PySem.W.nsIn K mainGlobals "min" = some none)
    (z6 : PySem.W.nsIn K mainGlobals "range" = some none)
    (z7 : PySem.W.nsIn K mainGlobals "repr" = some none)
    (z8 : PySem.W.nsIn K mainGlobals "sorted" = some none)
    (z9 : PySem.W.nsIn K mainGlobals "tuple" = some none)
    : ∃ fd : FuncData, (∀ (s : Shared) (v : Value), BindsTo s fd ⟨[v], []⟩ [("script", v)]) ∧ ∀ base : Heap, K.In base → base.Ns mainGlobals mg → GL.FnG l.prog w K mg base 4 fa fd ["script"] (sp_law K) := by
  have e := hfa.symm.trans (PySem.W.mg_of X G a9)
  cases e
  exact ⟨_, fun s v => .of_eq rfl, fun base _ _ => ok_law (⟨_, _, fun_mk l0 c0 k0, PySem.W.mg_of X G a0, _, _, fun_mk l1 c1 k1, PySem.W.mg_of X G a1, _, _, fun_mk l2 c2 k2, PySem.W.mg_of X G a2, _, _, fun_mk l3 c3 k3, PySem.W.mg_of X G a3, _, _, fun_mk l4 c4 k4, PySem.W.mg_of X G a4, _, _, fun_mk l5 c5 k5, PySem.W.mg_of X G a5, _, _, fun_mk l6 c6 k6, PySem.W.mg_of X G a6, _, _, fun_mk l7 c7 k7, PySem.W.mg_of X G a7, _, _, fun_mk l8 c8 k8, PySem.W.mg_of X G a8, _, _, fun_mk l9 c9 k9, PySem.W.mg_of X G a9, PySem.W.mg_none_of X G z0, PySem.W.mg_none_of X G z1, PySem.W.mg_none_of X G z2, PySem.W.mg_none_of X G z3, PySem.W.mg_none_of X G z4, PySem.W.mg_none_of X G z5, PySem.W.mg_none_of X G z6, PySem.W.mg_none_of X G z7, PySem.W.mg_none_of X G z8, PySem.W.mg_none_of X G z9⟩ : Txt K mg)⟩
end PK
open PySem PySem.W PyProof.Rows
set_option maxHeartbeats 0 in
theorem PySem.Challenge.cw_packedseats_k12_bounds_met_and_missed_holds : PySem.Challenge.rw_packedseats_k12_bounds_met_and_missed.Holds := by
  w_on; o_law; k_head; (case hw => w_witness2)
  k_fill
  refine GL.walkG (l := PySem.Challenge.rw_packedseats_k12_bounds_met_and_missed) (n := 63) (k := 4) (x := "script") (sp := fun w => PK.sp_law _) rfl (by decide) rfl ⟨rfl, by decide, by decide⟩ (fun w h Y => PySem.W.kIn_of Y) ?F (fun w H a ns hl hb _ hS => ⟨a, ns, rfl, hS, hl, fun _ => rfl⟩)
  case F =>
    intro w mg fa h KX G hmg
    refine' PK.all_mk KX G hmg ?a0 ?l0 ?c0 ?k0 ?a1 ?l1 ?c1 ?k1 ?a2 ?l2 ?c2 ?k2 ?a3 ?l3 ?c3 ?k3 ?a4 ?l4 ?c4 ?k4 ?a5 ?l5 ?c5 ?k5 ?a6 ?l6 ?c6 ?k6 ?a7 ?l7 ?c7 ?k7 ?a8 ?l8 ?c8 ?k8 ?a9 ?l9 ?c9 ?k9 ?z0 ?z1 ?z2 ?z3 ?z4 ?z5 ?z6 ?z7 ?z8 ?z9
    (case a0 => k_is); (case l0 => k_is); (case c0 => k_is); (case k0 => k_is); (case a1 => k_is); (case l1 => k_is); (case c1 => k_is); (case k1 => k_is); (case a2 => k_is); (case l2 => k_is); (case c2 => k_is); (case k2 => k_is); (case a3 => k_is); (case l3 => k_is); (case c3 => k_is); (case k3 => k_is); (case a4 => k_is); (case l4 => k_is); (case c4 => k_is); (case k4 => k_is); (case a5 => k_is); (case l5 => k_is); (case c5 => k_is); (case k5 => k_is); (case a6 => k_is); (case l6 => k_is); (case c6 => k_is); (case k6 => k_is); (case a7 => k_is); (case l7 => k_is); (case c7 => k_is); (case k7 => k_is); (case a8 => k_is); (case l8 => k_is); (case c8 => k_is); (case k8 => k_is); (case a9 => k_is); (case l9 => k_is); (case c9 => k_is); (case k9 => k_is); (case z0 => k_is); (case z1 => k_is); (case z2 => k_is); (case z3 => k_is); (case z4 => k_is); (case z5 => k_is); (case z6 => k_is); (case z7 => k_is); (case z8 => k_is); (case z9 => k_is)

