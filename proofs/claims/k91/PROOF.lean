import PyProof.Rows.All
import Wide.All
import OpenK.AllK
import Wide.FinOn
import HandS.ForMost
import HandS.ForExc
import HandS.Star
import HandS.Deep
import HandS.IsInst
import HandS.SortKw
import KE.SortKeyHeap
import HandS.ExcIs
import HandS.Walk
import HandS.StrMore
import PyProof.ReprNest
import PyProof.ReprUnder
import PyProof.StrBlock2
import HandS.More
import HandS.Text
import KE.DataCmp
import PyProof.Rows.RegFStrParts
import PyProof.Rows.StrSplitAre
import HandS.ForDict
import HandS.WordsExc
import HandS.DictComp
import HandS.SetKeys
import PyProof.StrLawsIn
import PyProof.StrLawsLast
import HandS.Exc
import KE.KExcInit
import PyProof.ExcBaseAll.OverflowError
import HandS.Defaults
import HandS.CallLocal
import HandS.ClsMeth
import PyProof.InstSpecial
import KE.IntTextLaws
import PyProof.CallStr
import PyProof.Rows.Range3
import HandS.FStr
import KE.IntTextText
import HandS.GenList
import PyProof.InstNe
import HandS.OwnEq
import PySem.Challenge.RW_linkfarms_k91_texts_of_packages
set_option Elab.async false
set_option linter.all false
set_option maxRecDepth 100000
set_option maxHeartbeats 4000000
namespace LF
open PySem PySem.Spec PyProof.Rows L2

/-- a promise that is asked only where no repr is under way -/
structure FnG (P : Program) (w : World) (K : PySem.W.Frag) (mg : Str → Option Value) (base : Heap) (CX : CXT)
    (k : Nat) (f : Addr) (fd : FuncData) (ps : List Str) (sp : Sp) : Prop where
  len : ∀ vs H Q E, sp vs H Q E → vs.length = ps.length
  go : ∀ (A : Around) (fr : List Env) (st : Shared) (H : Hp) (ar : Args) (us : List Value) (vs : List V) (Q : VK) (E : XK),
    A.guards = some [] → Room k A → Env0 P w K mg base A fr st H → BindsTo st fd ar (ps.zip us) → Vals vs us →
    sp vs H Q E → codeAny (model P w) A (.call (.ref f) ar) (CR CX fr P w H st Q E) st

theorem body_end {CX : CXT} {P : Program} {w : World} {K : PySem.W.Frag} {mg : Str → Option Value} {base : Heap} {N : List Str}
    {q : String} {sc : Scope} {f : Addr} {cd : Value} {A : Around} {fr : List Env} {st : Shared} {H : Hp} {E : XK} {Q : VK}
    {v : V} {u : Value} {σ : L2.St} {H' : Hp} {s' : Shared}
    (J : Inv (cxOf CX P w K mg base N q sc f cd A fr st H E) [] σ H' s') (rv : RelV v u) (hq : Q v H') :
    CE fr P w H st Q u s' :=
  ⟨v, H', J.os, J.bare, J.base, J.hok, rv, hq⟩

theorem fnG_of {CX : CXT} {P : Program} {w : World} {K : PySem.W.Frag} {mg : Str → Option Value} {base : Heap} {k : Nat} {f : Addr}
    {x q : String} {st : Stmt} {fd : FuncData} {N ps : List Str} {sp : Sp} (F : Fun K x q st f fd) (S : FnScope N ps (defScope st))
    (len : ∀ vs H Q E, sp vs H Q E → vs.length = ps.length)
    (hb : ∀ (cdv : Value) (A : Around) (fr : List Env) (s : Shared) (H : Hp) (vs : List V) (Q : VK) (E : XK), A.guards = some [] →
      Room k (A.deeper (envOfC q (defScope st) s.heap.objs.size f cdv)) → sp vs H Q E →
      ∃ t, PSs (cxOf CX P w K mg base N q (defScope st) f cdv A fr s H E) (defBody st) t ∧
        t { nx := fun _ H' => Q .non H', rt := Q } (start N vs) H) : FnG P w K mg base CX (k + 1) f fd ps sp := by
  obtain ⟨oc, od, kV, doc, pm, an, cdv, ct, osl, rfl, lk, hcd⟩ := F.ex
  refine ⟨len, ?_⟩
  intro A fr s H ar us vs Q E hgd hr e0 hbi r hsp
  have hl := len _ _ _ _ hsp
  have KX : K.In s.heap := e0.mod.kin.keeps (fun b o e => (e0.bs b o e).1)
  have lim : s.heap.NoLimit := e0.mod.nolimit.keeps (fun b o e => (e0.bs b o e).1)
  have hkd : ∀ y ∈ ps.zip us, (defScope st).names.lookup y.1 = some .local ∨
      ((defScope st).names.lookup y.1 = some .cell ∧ ((cellsFrom (s.heap.objs.size + 1) (defScope st).names []).lookup y.1).isSome = true) := by
    rintro ⟨n, v⟩ hy
    rcases S.par n (List.of_mem_zip hy).1 with z | z
    · exact Or.inl z
    · exact Or.inr ⟨z, PySem.W.cellsFrom_some _ _ _ (Or.inl z)⟩
  refine codeAny_call_function hr.depth (KX _ _ lk) rfl S.co S.gen rfl (PySem.W.codeRec_of KX hcd) (hbi _ _ _ _ ?_)
  refine wpAny_newFunctionEnv_cells S.kind hkd ?_
  intro env he s1 xx
  subst he
  refine ⟨lim.keeps xx.toInCall.keep, codeAny_func ?_⟩
  obtain ⟨t, ht, hq⟩ := hb cdv A fr s H vs Q E hgd (hr.deeper _) hsp
  have I := inv_start (CX := CX) (cd := cdv) (E := E) S hr.hd e0 hl r xx
  refine wpAny_mono (ht.run [] s1 (start N vs) H _ I hq) ?_ (fun e s' hs => hs)
  intro fl s' hs
  cases fl with
  | ret u =>
    obtain ⟨v, σ', H', J, rv, z⟩ := hs
    exact body_end J rv z
  | next =>
    obtain ⟨σ', H', J, z⟩ := hs
    exact body_end (v := V.non) (u := Value.none) J rfl z
  | brk => exact (hs.choose_spec.choose_spec.2).elim
  | cont => exact (hs.choose_spec.choose_spec.2).elim

section
variable {X : Cx} {CX : CXT} {k : Nat} {f : Addr} {fd : FuncData} {ps : List Str} {sp : Sp} {dvs : List V} {ds : List Value} {E : XK}
  {x : Str} {p pos : Pos} {e : Expr} {es : List Expr} {t : TA}

theorem runG {pins : List (Addr × Obj)} {σ : L2.St} {H : Hp} {s : Shared} {Q : VK} {us : List Value} {vs : List V}
    (F : FnG X.prog X.w X.K X.mg X.base CX k f fd ps sp) (gd : X.A.guards = some []) (hr : Room k X.A) (hb : Binds X.K fd ps [])
    (hx : Passes CX X E) (I : Inv X pins σ H s) (r : Vals vs us) (h : sp vs H Q E) :
    wpAny (model X.prog X.w) X.A (call (.ref f) us) (EP X pins σ Q) X.xe s := by
  have hl : us.length = ps.length := by rw [← r.length]; exact F.len _ _ _ _ h
  have hb' := hb s us I.kIn (by rw [List.append_nil]; exact hl)
  rw [List.append_nil] at hb'
  refine wpAny_call (codeAny_mono (F.go X.A X.stack s H ⟨us, []⟩ us vs Q E gd hr I.env0 hb' r h) ?_)
  intro rr s' hq
  cases rr with
  | error e => exact hx pins σ H s e s' I hq
  | ok fl =>
    cases fl with
    | ret u => exact I.after hq
    | next => exact hq.elim
    | brk => exact hq.elim
    | cont => exact hq.elim

theorem pe_callG (F : FnG X.prog X.w X.K X.mg X.base CX k f fd ps sp) (gd : X.A.guards = some []) (hr : Room k X.A) (hg : Gl X x)
    (hm : X.mg x = some (.ref f)) (hk : PySem.W.keepIn X.K (.ref f) = true) (hb : Binds X.K fd ps []) (hx : Passes CX X E)
    (ha : PA X (e :: es) t) (hdb : (x == ("__debug__" : Str)) = false := by decide)
    (he : starEach (e :: es) X.env = (false, eval e X.env) :: starEach es X.env := by rfl)
    (hpl : (backTo pos (starEach es X.env)).any (·.1) = false := by rfl) :
    PE X (.Call (.Name x p) (e :: es) [] pos) (fun σ H Q => t σ H fun vs H1 => sp vs H1 Q E) := by
  constructor
  intro pins s σ H Q I h
  refine wpAny_Call_Name_kw (ld_glob I hg hm ?_ hdb)
  refine PySem.W.callWith_K (h₀ := X.base) I.ok.mod.kin hk (thn (ha.run pos pins s σ H _ I h) ?_) he hpl
  rintro us s1 ⟨vs, H1, I1, r, z⟩
  exact ⟨I1.kIn, runG F gd hr hb hx I1 r z⟩
end

/-- repr of data of any depth, where no repr is under way -/
def rRepr (K : PySem.W.Frag) : List V → Hp → VK → Prop := fun xs H Q =>
  ∃ x d, xs = [x] ∧ Dp K H x d ∧ d.showable = true ∧ d.hasDict = false ∧ d.depth ≤ 60 ∧ d.shown.length ≤ sizeLine ∧ Q (.str d.shown) H
theorem call_reprD {X : Cx} (gd : X.A.guards = some []) (hu : X.A.units + 64 < cLine) : CallR X (.builtin "repr") (rRepr X.K) := by
  intro pins s σ H xs us Q I r h
  obtain ⟨x, d, rfl, hd, hs, hn, hp, hz, q⟩ := h
  obtain ⟨u, rfl, ru⟩ := vals1 r
  obtain ⟨as, rd⟩ := Dp.reads I d x u hd ru
  cases hd with
  | non => cases ru; exact PySem.P.repr_of_none ⟨.str _, H, I.tok _, ⟨_, rfl⟩, q⟩
  | bl b => cases ru; exact PySem.P.repr_of_bool ⟨.str _, H, I.tok _, ⟨_, rfl⟩, q⟩
  | int i =>
    obtain ⟨t, rfl⟩ := ru
    exact PySem.P.repr_of_int (by simpa [PyData.showable] using hs) ⟨.str _, H, I.tok _, ⟨_, rfl⟩, q⟩
  | str z =>
    obtain ⟨t, rfl⟩ := ru
    exact PySem.P.repr_of_str ⟨.str _, H, I.tok _, ⟨_, rfl⟩, q⟩ hz
  | lst a b =>
    cases ru
    exact repr_of_reads' rd hs (PyData.noDict_hsm hn) gd (by omega) (fun _ _ e => e)
      (fun h' u tk hk => ⟨.str _, H, I.kept (t' := tk) hk, ⟨_, rfl⟩, q⟩) hz
  | tup a b =>
    cases ru
    exact repr_of_reads' rd hs (PyData.noDict_hsm hn) gd (by omega) (fun _ _ e => e)
      (fun h' u tk hk => ⟨.str _, H, I.kept (t' := tk) hk, ⟨_, rfl⟩, q⟩) hz
end LF

set_option Elab.async false
set_option linter.all false
set_option maxRecDepth 100000
set_option maxHeartbeats 4000000
namespace LF
open PySem PySem.Spec PyProof.Rows L2
open PySem.W (EachIs dataLe AllAlike Sortable KeepsBut KeyedOut)

theorem sqL_same {K : PySem.W.Frag} {H H' : Hp} {a : Addr} {xs : List V} (e : Same H H') (h : SqL K H a xs) : SqL K H' a xs := e.seq h
theorem sqT_same {K : PySem.W.Frag} {H H' : Hp} {a : Addr} {xs : List V} (e : Same H H') (h : SqT K H a xs) : SqT K H' a xs := by
  rcases h with (h | ⟨o, h⟩) | h
  · exact Or.inl (Or.inl (e _ _ h))
  · exact Or.inl (Or.inr ⟨o, e _ _ h⟩)
  · exact Or.inr h
mutual
theorem dp_same {K : PySem.W.Frag} {H H' : Hp} (e : Same H H') : ∀ (d : PyData) (v : V), Dp K H v d → Dp K H' v d
  | .none, _, h => by cases h; exact .non
  | .bool b, _, h => by cases h; exact .bl b
  | .int i, _, h => by cases h; exact .int i
  | .str x, _, h => by cases h; exact .str x
  | .list ds, _, h => by cases h with | lst a b => exact .lst (sqL_same e a) (dpAll_same e ds _ b)
  | .tuple ds, _, h => by cases h with | tup a b => exact .tup (sqT_same e a) (dpAll_same e ds _ b)
  | .dict _, _, h => by cases h
theorem dpAll_same {K : PySem.W.Frag} {H H' : Hp} (e : Same H H') : ∀ (ds : List PyData) (vs : List V), DpAll K H vs ds → DpAll K H' vs ds
  | [], _, h => by cases h; exact .nil
  | d :: ds, _, h => by cases h with | cons a b => exact .cons (dp_same e d _ a) (dpAll_same e ds _ b)
end

/-- sorted(xs, key=f), xs texts, f a def that hands back data and leaves what is tracked -/
def rSortF (K : PySem.W.Frag) (f : Addr) (kd : Str → PyData) (sp : Sp) : List V → List V → Hp → VK → Prop := fun xs zs H Q =>
  ∃ (a : Addr) (ws : List Str), xs = [.ref a] ∧ zs = [.ref f] ∧ SqL K H a (ws.map V.str) ∧ AllAlike (ws.map kd) ∧ Sortable (ws.map kd) ∧
    (∀ d ∈ ws.map kd, d.depth ≤ 60) ∧
    (∀ x ∈ ws, ∀ H1, Same H H1 → ∀ Q1 : VK, (∀ v H2, Same H1 H2 → Dp K H2 v (kd x) → Q1 v H2) → sp [.str x] H1 Q1 E0) ∧
    ∀ H1 p, Same H H1 → H1 p = none → Q (.ref p) (upd H1 p (.lst ((ws.mergeSort (dataLe false kd)).map V.str)))

theorem each_vals_str : ∀ {ws : List Str} {us : List Value}, Vals (ws.map V.str) us → EachIs (fun (v : Value) (x : Str) => ∃ t, v = Value.str x t) us ws
  | [], _, h => by cases h; exact .nil
  | x :: ws, _, h => by cases h with | cons a b => exact .cons a (each_vals_str b)
theorem vals_each_str : ∀ {ws : List Str} {us : List Value}, EachIs (fun (v : Value) (x : Str) => ∃ t, v = Value.str x t) us ws → Vals (ws.map V.str) us
  | [], _, h => by cases h; exact .nil
  | x :: ws, _, h => by cases h with | cons a b => exact .cons a (vals_each_str b)
theorem each_get {α β : Type} {R : α → β → Prop} : ∀ {as : List α} {bs : List β} {i : Nat} {x : α}, EachIs R as bs → as[i]? = some x → ∃ y, bs[i]? = some y ∧ R x y
  | _, _, 0, x, .cons h _, e => by simp at e; subst e; exact ⟨_, rfl, h⟩
  | _, _, i + 1, x, .cons _ t, e => by simpa using each_get (i := i) t (by simpa using e)
theorem each_reads {X : Cx} {pins : List (Addr × Obj)} {σ : L2.St} {H : Hp} {s : Shared} {kd : Str → PyData} (I : Inv X pins σ H s) :
    ∀ {us : List Value} {ws : List Str}, EachIs (fun v x => ∃ y, RelV y v ∧ Dp X.K H y (kd x)) us ws →
      EachIs (fun v k => ∃ as, Reads s.heap v k as) us (ws.map kd)
  | _, _, .nil => .nil
  | _, _, .cons ⟨y, r, d⟩ t => .cons (Dp.reads I _ _ _ d r) (each_reads I t)

section
variable {X : Cx} {kf : Nat} {f : Addr} {fd : FuncData} {px : Str} {sp : Sp} {kd : Str → PyData}

theorem pin_new {pins : List (Addr × Obj)} {σ : L2.St} {H : Hp} {s : Shared} (I : Inv X pins σ H s) {b : Addr} (hb : s.heap.objs.size ≤ b) :
    H b = none ∧ b ≠ X.env.locals ∧ b ∉ X.fs ∧ (∀ x c, X.env.cells.lookup x = some c → c ≠ b) ∧ ∀ p ∈ X.pn ++ pins, p.1 ≠ b := by
  refine ⟨I.hok.fresh hb, ?_, I.nofs hb, ?_, ?_⟩
  · exact Ne.symm (Nat.ne_of_lt (Nat.lt_of_lt_of_le I.lt hb))
  · intro x c hc
    obtain ⟨v, o, ho, _⟩ := I.cell x c hc
    exact Nat.ne_of_lt (Nat.lt_of_lt_of_le (Heap.lt_size ho) hb)
  · intro p hp
    exact Nat.ne_of_lt (Nat.lt_of_lt_of_le (Heap.lt_size (I.pin p hp).1) hb)

theorem call_sortedF (F : FnOk X.prog X.w X.K X.mg X.base CX0 kf f fd [px] sp) (hr : Room (kf + 2) X.A) (hb : Binds X.K fd [px] []) :
    CallRK X (.builtin "sorted") [Str.ofString "key"] (rSortF X.K f kd sp) := by
  intro pins s σ H xs zs us vz Q I r rz h
  obtain ⟨a, ws, rfl, rfl, hs, hal, hsk, hdep, hkey, hq⟩ := h
  obtain ⟨its, rv, hl, hz⟩ := I.list hs
  rw [Vals.ref1 r]
  rw [Vals.ref1 rz]
  have hwl : ws.length = its.length := by rw [← rv.length, List.length_map]
  have hZ : its.length ≤ sizeLine := by rw [← rv.length]; exact hz
  have hE := each_vals_str rv
  show wpAny _ _ (call (.builtin "sorted") [.ref a] [(Str.ofString "key", .ref f)]) _ _ _
  refine PySem.W.sorted_of_sort (vs := its) hl.isList hZ (ksk_s1 _ _) (fun x => ksk_l1 _ _) ?_
  intro E'
  rw [ksk_t1]
  obtain ⟨hp, g, dr, tk, os⟩ := s
  -- the copy, at D
  generalize hD : hp.objs.size + 1 = D
  have hcp : (PySem.W.copyHeap hp its).get? D = some (seqObj "list" its.toArray 0) := by rw [← hD]; exact PySem.W.copyHeap_at hp its
  have hold : ∀ b o, hp.get? b = some o → (PySem.W.copyHeap hp its).get? b = some o := fun b o e => PySem.W.copyHeap_old e
  have hDsz : D < (PySem.W.copyHeap hp its).objs.size := Heap.lt_size hcp
  have hDnew : hp.objs.size ≤ D := by omega
  obtain ⟨e1, he1⟩ : ∃ e1, ((PySem.W.copyHeap hp its).update D (Obj.mapSeq fun _ => (#[] : Array Value))).get? D = some (seqObj "list" #[] e1) := ⟨_, get?_update_seq hcp fun _ => #[]⟩
  have hS1 : ((PySem.W.copyHeap hp its).update D (Obj.mapSeq fun _ => (#[] : Array Value))).objs.size = (PySem.W.copyHeap hp its).objs.size := by rw [Heap.size_update]
  unfold ksk_tree
  refine wpAny_bind (listItems_at hcp rfl ?_)
  refine wpAny_bind (listUpdate_at hcp rfl ?_ (by rw [List.size_toArray]; exact hZ) (Nat.zero_le _))
  refine wpAny_bind (seqEpoch_at he1 rfl ?_)
  refine wpAny_bind (wpAny_newTuple ?_ (by show its.length ≤ _; exact hZ))
  refine wpAny_bind (wpAny_newList ?_ (Nat.zero_le _))
  refine wpAny_holding ?_
  generalize hT : (((PySem.W.copyHeap hp its).update D (Obj.mapSeq fun _ => (#[] : Array Value))).push ({ cls := .type "tuple", data := .seq its.toArray } : Obj)) = h1
  have hkS : h1.objs.size = (PySem.W.copyHeap hp its).objs.size + 1 := by rw [← hT, size_push', hS1]
  generalize hkk : h1.objs.size = kS
  have hDk : kS ≠ D := by omega
  have hkSnew : hp.objs.size ≤ kS := by omega
  have k1 : ∀ b o, b ≠ D → (PySem.W.copyHeap hp its).get? b = some o → h1.get? b = some o := fun b o hb e => by
    rw [← hT]
    exact Heap.get?_push_of_some _ ((Heap.get?_update_ne _ _ _ _ hb).trans e)
  have k2 : ∀ b o, hp.get? b = some o → (h1.push (seqObj "list" #[] 0)).get? b = some o := fun b o e =>
    Heap.get?_push_of_some _ (k1 b o (Nat.ne_of_lt (Nat.lt_of_lt_of_le (Heap.lt_size e) hDnew)) (hold b o e))
  have g1 : (h1.push (seqObj "list" #[] 0)).get? D = some (seqObj "list" #[] e1) := Heap.get?_push_of_some _ (by rw [← hT]; exact Heap.get?_push_of_some _ he1)
  have g2 : (h1.push (seqObj "list" #[] 0)).get? kS = some (seqObj "list" #[] 0) := by rw [← hkk]; exact Heap.get?_push_size _ rfl
  have nD := pin_new I (b := D) hDnew
  have nK := pin_new I (b := kS) hkSnew
  have I2 : Inv X pins σ H ⟨h1.push (seqObj "list" #[] 0), g, dr, tk, os⟩ := I.kept (t' := tk) k2
  have seqne : ∀ (c : String) (xs : Array Value) (n : Nat) (v : Option Value), (seqObj c xs n).data ≠ .cell v := fun c xs n v z => by cases z
  have I3 : Inv X ((kS, seqObj "list" #[] 0) :: (D, seqObj "list" #[] e1) :: pins) σ H ⟨h1.push (seqObj "list" #[] 0), g, dr, tk, os⟩ := I2.pins_of (by
    intro p hp'
    rcases List.mem_cons.mp hp' with rfl | hp'
    · exact ⟨g2, nK.1, nK.2.1, nK.2.2.1, seqne _ _ _⟩
    rcases List.mem_cons.mp hp' with rfl | hp'
    · exact ⟨g1, nD.1, nD.2.1, nD.2.2.1, seqne _ _ _⟩
    · exact I2.pin p (List.mem_append_right _ hp'))
  show wpAny _ _ (ksk_rest D (.ref f) false its.toArray e1 (.ref kS)) _ _ ⟨h1.push (seqObj "list" #[] 0), g, dr, tk, os⟩
  unfold ksk_rest
  refine wpAny_bind (wpAny_rule ?_)
  rw [List.forIn_toArray]
  refine wpAny_bind (ksk_fold (fun i s' => ∃ kA e H', Same H H' ∧ Inv X ((kS, seqObj "list" kA e) :: (D, seqObj "list" #[] e1) :: pins) σ H' s' ∧
      EachIs (fun v x => ∃ y, RelV y v ∧ Dp X.K H' y (kd x)) kA.toList (ws.take i)) its 0 _
    ⟨#[], 0, H, Same.refl H, I3, by rw [List.take_zero]; exact .nil⟩ ?step ?done)
  case step =>
    rintro j u s' hu ⟨kA, e, H', sm, J, hk⟩
    simp only [Nat.zero_add] at hk ⊢
    obtain ⟨x, hx, t, rfl⟩ := each_get hE hu
    have hxm : x ∈ ws := List.mem_of_getElem? hx
    have hj : j < ws.length := (List.getElem?_eq_some_iff.mp hx).1
    have hklen : kA.size ≤ ws.length := by
      have := hk.length
      rw [Array.length_toList, List.length_take] at this
      omega
    have hsp := hkey x hxm H' sm (fun v H2 => Same H' H2 ∧ Dp X.K H2 v (kd x)) (fun v H2 s2 d2 => ⟨s2, d2⟩)
    have hb' := hb s' [.str x t] J.kIn rfl
    rw [List.append_nil] at hb'
    have run := F.run X.A.in1.in1 X.stack s' H' ⟨[.str x t], []⟩ [.str x t] [.str x] _ E0 (hr.in1.in1) (J.env0.in1.in1) hb' (.cons ⟨t, rfl⟩ .nil) hsp
    have call1 : wpAny (model X.prog X.w) X.A.in1.in1 (call (.ref f) [.str x t]) (CE X.stack X.prog X.w H' s' (fun v H2 => Same H' H2 ∧ Dp X.K H2 v (kd x))) (fun _ _ => False) s' := by
      refine wpAny_call (codeAny_mono run ?_)
      intro rr s2 hq2
      cases rr with
      | error e => exact hq2
      | ok fl =>
        cases fl with
        | ret u => exact hq2
        | next => exact hq2
        | brk => exact hq2
        | cont => exact hq2
    refine wpAny_bind (wpAny_attempt (wpAny_mono call1 ?_ (fun _ _ z => z.elim)))
    intro u s2 hu2
    obtain ⟨y, H2, J2, ry, sm2, dp2⟩ := J.after hu2
    obtain ⟨pk, pnK, pLK, pfK, _⟩ := J2.pin (kS, seqObj "list" kA e) (List.mem_append_right _ List.mem_cons_self)
    obtain ⟨pd, pnD, pLD, pfD, _⟩ := J2.pin (D, seqObj "list" #[] e1) (List.mem_append_right _ (List.mem_cons_of_mem _ List.mem_cons_self))
    have J3 : Inv X ((D, seqObj "list" #[] e1) :: pins) σ H2 s2 := J2.pins_of (by
      intro p hp'
      exact J2.pin p (List.mem_append_right _ (List.mem_cons_of_mem _ hp')))
    obtain ⟨hp2, g2', dr2, tk2, os2⟩ := s2
    refine wpAny_bind (listUpdate_at pk rfl ?_ (Nat.le_trans hklen (by rw [hwl]; exact hZ)) (by rw [Array.size_push]; exact Nat.succ_le_succ (Nat.le_trans hklen (by rw [hwl]; exact hZ))))
    have sb := Heap.SameBut.update hp2 kS (Obj.mapSeq (·.push u))
    obtain ⟨c2, hc2⟩ : ∃ c2, (hp2.update kS (Obj.mapSeq (·.push u))).get? kS = some (seqObj "list" (kA.push u) c2) := ⟨_, get?_update_seq pk (·.push u)⟩
    have pne : ∀ p ∈ X.pn ++ ((D, seqObj "list" #[] e1) :: pins), p.1 ≠ kS := by
      intro p hp'
      rcases List.mem_append.mp hp' with q | q
      · exact nK.2.2.2.2 p (List.mem_append_left _ q)
      rcases List.mem_cons.mp q with rfl | q
      · exact Ne.symm hDk
      · exact nK.2.2.2.2 p (List.mem_append_right _ q)
    have s0k : X.s_0.heap.objs.size ≤ kS := Nat.le_trans I.sz hkSnew
    have J4 := J3.turned (t' := tk2) (it := kS) (h' := hp2.update kS (Obj.mapSeq (·.push u))) (fun b o hb e => (sb.2 b hb).trans e) pnK pLK (Or.inr s0k) nK.2.2.2.1 pne
    have J5 : Inv X ((kS, seqObj "list" (kA.push u) c2) :: (D, seqObj "list" #[] e1) :: pins) σ H2 ⟨hp2.update kS (Obj.mapSeq (·.push u)), g2', dr2, tk2, os2⟩ := J4.pins_of (by
      intro p hp'
      rcases List.mem_cons.mp hp' with rfl | hp'
      · exact ⟨hc2, pnK, pLK, pfK, seqne _ _ _⟩
      · exact J4.pin p (List.mem_append_right _ hp'))
    refine wpAny_pure ⟨rfl, kA.push u, c2, H2, sm.trans sm2, J5, ?_⟩
    have ek : ws.take (j + 1) = ws.take j ++ [x] := by rw [List.take_add_one, hx]; rfl
    rw [ek, Array.toList_push]
    exact PySem.W.each_snoc ⟨y, ry, dp2⟩ (hk.mono fun v z ⟨y', r', d'⟩ => ⟨y', r', dp_same sm2 _ _ d'⟩)
  case done =>
    rintro s' ⟨kA, e, H', sm, J, hk⟩
    rw [List.take_of_length_le (by omega)] at hk
    obtain ⟨pk, pnK, pLK, pfK, _⟩ := J.pin (kS, seqObj "list" kA e) (List.mem_append_right _ List.mem_cons_self)
    obtain ⟨pd, pnD, pLD, pfD, _⟩ := J.pin (D, seqObj "list" #[] e1) (List.mem_append_right _ (List.mem_cons_of_mem _ List.mem_cons_self))
    have J1 : Inv X pins σ H' s' := J.pins_of (by
      intro p hp'
      exact J.pin p (List.mem_append_right _ (List.mem_cons_of_mem _ (List.mem_cons_of_mem _ hp'))))
    have hr' := each_reads J hk
    have hksz : kA.size = its.length := by
      have := hk.length
      rw [Array.length_toList] at this
      omega
    refine wpAny_bind (listItems_at pk rfl ?_)
    have kb : KeepsBut D (PySem.W.hideAll s'.heap [kS]) s'.heap := fun b o hb e => PySem.W.of_hideAll [kS] e
    have hu : ∀ d ∈ ws.map kd, X.A.in1.in1.units + d.depth < cLine := by
      intro d hd
      have h1 := hdep d hd
      have h2 := hr.un
      show X.A.units + 1 + 1 + d.depth < cLine
      omega
    refine PySem.W.keyH_end (κ := PySem.W.dataKind s'.heap (ws.map kd)) kb (PySem.W.hideAll_none [kS] List.mem_cons_self) pk pd hDk (PySem.W.SortsAt.data (s := s') hr' hal hsk hu) hksz hZ ?_
    intro h' tk' c kp hD'
    refine ⟨rfl, ?_⟩
    have hout : EachIs (fun (v : Value) (x : Str) => ∃ t, v = Value.str x t) (PySem.W.sortVals (PySem.W.dataKind s'.heap (ws.map kd)) false kA.toList its) (ws.mergeSort (dataLe false kd)) :=
      PySem.W.keyedOut_each (rev := false) kd ⟨s'.heap, kA.toList, hal, rfl, hr'⟩ hE
    have hv := vals_each_str hout
    have keep : ∀ b o, b ≠ D → b ≠ kS → s'.heap.get? b = some o → h'.get? b = some o := fun b o n1 n2 e =>
      kp b o n1 (PySem.W.hideAll_get [kS] e (by simpa using n2))
    have hn : H' D = none := pnD
    have hlen : ((ws.mergeSort (dataLe false kd)).map V.str).length ≤ sizeLine := by
      rw [List.length_map, List.length_mergeSort, hwl]; exact hZ
    refine ⟨.ref D, upd H' D (.lst ((ws.mergeSort (dataLe false kd)).map V.str)), ?_, rfl, hq H' D sm hn⟩
    have hne : ∀ b u, H' b = some u → b ≠ D ∧ b ≠ kS := fun b u q => ⟨ne_of_none q hn, ne_of_none q pnK⟩
    refine J1.step (ch := [D, kS]) (g' := s'.gens) (d' := s'.drawn) (t' := tk') ?_ ?_ ?_ ?_ ?_ ?_ ?_ ?_ ?_ ?_ J1.bare
    · intro b hb
      rcases List.mem_cons.mp hb with rfl | hb
      · exact ⟨Or.inr (Nat.le_trans I.sz hDnew), pLD, nD.2.2.2.1, nD.2.2.2.2⟩
      · rw [List.mem_singleton.mp hb]
        exact ⟨Or.inr (Nat.le_trans I.sz hkSnew), pLK, nK.2.2.2.1, nK.2.2.2.2⟩
    · intro b o _ _ hc e _
      exact keep b o (fun z => hc (by simp [z])) (fun z => hc (by simp [z])) e
    · intro b o _ _ hc e _
      exact ⟨o.slots, keep b o (fun z => hc (by simp [z])) (fun z => hc (by simp [z])) e⟩
    · intro b o hc e n
      rw [upd_ne (fun z => hc (by simp [z]))]
      exact n
    · intro b o hc e
      exact ⟨o, keep b o (fun z => hc (by simp [z])) (fun z => hc (by simp [z])) e⟩
    · intro b xs e
      rw [upd_ne (hne b _ e).1]; exact e
    · intro b o u e
      rw [upd_ne (hne b _ e).1]; exact e
    · intro b ps e
      exact ⟨#[], by rw [upd_ne (hne b _ e).1, e]; simp⟩
    · rintro m ⟨o, es, ep, ho, rest⟩
      exact ⟨o, es, ep, keep _ o (Ne.symm pLD) (Ne.symm pLK) ho, rest⟩
    · intro b u e
      by_cases hb : b = D
      · subst hb
        rw [upd_same] at e
        cases e
        exact ⟨hlen, _, c, hv, hD'⟩
      · rw [upd_ne hb] at e
        refine (J1.hok b u e).stay (fun z w' hz q => keep z w' ?_ ?_ q) (fun z q => ?_) (fun z xs q => ?_)
        · rcases hz with rfl | hz
          · exact hb
          · exact (hne z _ hz).1
        · rcases hz with rfl | hz
          · exact (hne z _ e).2
          · exact (hne z _ hz).2
        · rw [upd_ne (hne z _ q).1]; exact q
        · rw [upd_ne (hne z _ q).1]; exact q
end
end LF

set_option Elab.async false
set_option linter.all false
set_option maxRecDepth 100000
set_option maxHeartbeats 4000000
namespace LF
open PySem PySem.Spec PySem.Calls PyProof.Rows
open PySem.W (Looks InstAt findIn specialIn takesIn subIn mroIn hasDictIn clsIn findObj looks_findIn looks_find looks_subIn any_some)

section
variable {prog : Program} {w : World} {A : Around} {E : Value → Shared → Prop} {s : Shared} {K : PySem.W.Frag} {x D : Addr} {ox : Obj} {od : Option Obj}

/-- an error's class asked of the error itself, whether it has a dict or none -/
theorem errClass (C : L2.ExcC K D) {Q : Option Value → Shared → Prop} (X : K.In s.heap) (I : InstAt s.heap x ox D od)
    (h : Q (some (.ref D)) { s with toks := s.toks + 1 }) : wpAny (model prog w) A (getAttr? (.ref x) "__class__") Q E s := by
  have hf : findObj K D od "__class__" = some (.bind (.builtin "getset_descriptor.__get__") (.builtin "object.__class__")) := by
    obtain ⟨cd, e, _⟩ := any_some C.hd
    simp only [findObj, e, C.ha, C.hn, C.ht, Option.bind_some]
  obtain ⟨hh, gg, dd, tt, oo⟩ := s
  have lt := I.type (M := model prog w)
  have lg := looks_findIn (M := model prog w) X C.hg
  have lk := looks_findIn (M := model prog w) X C.hk
  have lf := looks_find (M := model prog w) X I hf
  have ls : Looks (model prog w) hh (isInstance (.ref x) (.type "BaseException")) true := lt.andThen (looks_subIn X C.hs)
  have z0 : (Value.builtin "BaseException.__getattribute__" == Value.builtin "object.__getattribute__") = false := by decide +kernel
  have z1 : (onTheHeap (Value.ref D) && Value.builtin "BaseException.__getattribute__" == Value.builtin "object.__getattribute__") = false := by
    rw [z0]; rfl
  have z2 : (false && onTheHeap (Value.builtin "BaseException.__getattribute__")) = false := rfl
  unfold getAttr? getAttrBy? getAttrBy
  refine wpAny_bind (wpAny_mkText (wpAny_bind (wpAny_attempt (wpAny_holding (wpAny_bind (lt.at (wpAny_bind (lg.at ?_))))))))
  show wpAny _ _ (if (onTheHeap (Value.ref D) && Value.builtin "BaseException.__getattribute__" == Value.builtin "object.__getattribute__") = true
    then _ else _) _ _ _
  rw [z1, if_neg Bool.false_ne_true]
  unfold getAttrByItsOwn hookBefore
  apply wpAny_bind
  rw [if_pos (show onTheHeap (Value.ref D) = true from rfl)]
  apply lk.at
  refine wpAny_bind (wpAny_attempt (wpAny_holding ?_))
  unfold callGetattribute
  rw [z2, if_neg Bool.false_ne_true]
  unfold boundAndCalled
  rw [PySem.F.excAttr_ValueError.ga.bind (.ref x)]
  apply wpAny_bind
  apply wpAny_pure
  show wpAny _ _ (call (.builtin "BaseException.__getattribute__") [.ref x, .str "__class__" tt]) _ _ _
  refine wpAny_call (codeAny_call_builtin PySem.F.excAttr_ValueError.ga.plain PySem.F.entry_bexc_ga ?_)
  refine @PySem.W.check_slot (model prog w) _ _ ⟨hh, gg, dd, tt + 1, oo⟩ "BaseException.__getattribute__" "BaseException" "__getattribute__"
    (.ref x) [.str "__class__" tt] [] _ (by decide +kernel) (by decide +kernel) ls (PySem.F.args_bexc_ga (.ref x) (.str "__class__" tt)) ?_
  unfold Builtin.«object.__getattribute__»
  refine wpAny_bind (wpAny_of_eq (a := ((Value.ref x : Value), [Value.str "__class__" tt])) (by
    first
      | rfl
      | (simp only [slotArgs]; rfl)) ?_)
  refine wpAny_bind (wpAny_pure (wpAny_bind (lt.at (wpAny_bind (lf.at ?_)))))
  show wpAny _ _ (holding [Value.builtin "object.__class__"]
    (call (.builtin "getset_descriptor.__get__") [.builtin "object.__class__", .ref x, .ref D]) >>= ret) _ _ _
  refine wpAny_bind (wpAny_holding (wpAny_call (PySem.W.class_get (s := ⟨hh, gg, dd, tt + 1, oo⟩) X I C.hm ?_)))
  apply wpAny_pure
  show wpAny _ _ (handedOut (.ref D)) _ _ _
  rw [PySem.W.handedOut_of (v := .ref D) rfl]
  first
    | exact wpAny_pure (wpAny_pure h)
    | exact wpAny_pure h
    | exact wpAny_pure (wpAny_bind (wpAny_pure (wpAny_pure h)))

theorem errKit (C : L2.ExcC K D) : PySem.W.KitX K (.ref x) (.ref D) (fun h => ∃ ox od, InstAt h x ox D od) := by
  have cls : ∃ c d cd sl, K.lookup D = some ⟨c, d, .cls cd, sl⟩ := by
    obtain ⟨cd, e, _⟩ := any_some C.hd
    unfold clsIn at e
    split at e
    · rename_i c d cd' sl e'
      exact ⟨c, d, cd', sl, e'⟩
    · exact nomatch e
  obtain ⟨c, d, cd, sl, hl⟩ := cls
  refine ⟨fun M h X q => ?_, fun M h X q => ?_, fun h tp ddd its n sl' X ht => ?_, fun X q k => ?_⟩
  · obtain ⟨_, _, I⟩ := q
    exact I.type
  · intro A' Q' E' s' k q'
    unfold isType loadHead
    exact wpAny_bind (wpAny_loadPart (k _ _ (X _ _ hl)) (wpAny_pure q'))
  · cases hq : (Value.ref D == .ref tp) with
    | false => rfl
    | true =>
      have e : D = tp := Value.ref.inj (beq_iff_eq.mp hq)
      subst e
      exact nomatch (X _ _ hl).symm.trans ht
  · obtain ⟨_, _, I⟩ := q
    exact errClass C X I k
end
end LF

namespace LF
open PySem PySem.Spec PyProof.Rows L2
/-- isinstance(e, c) and isinstance(e, (c, ..)) of the error that the suite holds, with its own dict -/
def rIsErr (K : PySem.W.Frag) (D a : Addr) : List V → Hp → VK → Prop := fun xs H Q =>
  (∃ (c : V) (cv : Value) (b : Bool), xs = [.ref a, c] ∧ (∀ u, RelV c u → u = cv) ∧ PySem.W.kitOne K (.ref D) cv = some b ∧ Q (.bl b) H) ∨
  (∃ (tp : Addr) (cs : List V) (us : List Value) (b : Bool), xs = [.ref a, .ref tp] ∧ H tp = some (.tup cs) ∧ Paired ClsV cs us ∧
    PySem.W.kitAny K (.ref D) us = some b ∧ Q (.bl b) H)

theorem call_isErr {X : Cx} {a D : Addr} {oe : Obj} {cls : Value} {d : Option Addr} {pn : List (Addr × Obj)} (C : ExcC X.K D) (hz : Zc cls d oe)
    (hf : ∃ vs, oe.data = .fields vs) :
    CallR (X.suite a ((a, oe) :: pn)) (.builtin "isinstance")
      (fun xs H Q => cls = .ref D ∧ (∀ e, d = some e → ∃ fs, H e = some (.xd fs)) ∧ rIsErr X.K D a xs H Q) := by
  intro pins s σ H xs us Q I r h
  obtain ⟨ec0, hde, h⟩ := h
  subst ec0
  obtain ⟨hget, _⟩ := I.pin (a, oe) (List.mem_append.mpr (.inl List.mem_cons_self))
  obtain ⟨vs, hv⟩ := hf
  have J : ∃ ox od, PySem.W.InstAt s.heap a ox D od := by
    obtain ⟨oc, odd, oda, osl⟩ := oe
    obtain ⟨h1, h2⟩ := hz
    dsimp only at h1 h2 hv
    subst h1 h2 hv
    cases odd with
    | none => exact ⟨_, none, hget, rfl, rfl, trivial⟩
    | some e =>
      obtain ⟨fs, he⟩ := hde e rfl
      obtain ⟨mA, hns, _⟩ := (show ObjOk X.prog X.w H s.heap e (.xd fs) from I.hok e _ he)
      obtain ⟨od, ho, _⟩ := L2.lookIn_ns hns
      exact ⟨_, some od, hget, rfl, rfl, ho⟩
  rcases h with ⟨c, cv, b, rfl, hcv, e, q⟩ | ⟨tp, cs, ws, b, rfl, hT, k, e, q⟩
  · obtain ⟨u1, u2, rfl, r1, r2⟩ := vals2 r
    cases (show u1 = Value.ref a from r1)
    have ec := hcv _ r2
    subst ec
    exact PySem.W.kia_one (errKit C) I.kIn J e (fun z => nomatch z) fun tk => ⟨.bl b, H, I.tok tk, rfl, q⟩
  · obtain ⟨u1, u2, rfl, r1, r2⟩ := vals2 r
    cases (show u1 = Value.ref a from r1)
    cases (show u2 = Value.ref tp from r2)
    obtain ⟨_, its, rv, o, h1, h2, n, h3⟩ := (show ObjOk X.prog X.w H s.heap tp (.tup cs) from I.hok tp _ hT)
    have e3 := ClsV.all k rv
    subst e3
    obtain ⟨oc, od, dt, sl⟩ := o
    simp only at h2 h3
    subst h2 h3
    exact PySem.W.kia_tup (errKit C) I.kIn J h1 e (fun z => nomatch z) fun tk => ⟨.bl b, H, I.tok tk, rfl, q⟩
end LF

set_option Elab.async false
set_option linter.all false
set_option maxRecDepth 100000
set_option maxHeartbeats 4000000
namespace LF
open PySem PySem.Spec PyProof.Rows L2
def lettersN : Str := "abcdefghijklmnopqrstuvwxyz"
theorem low_code : ∀ c : Fin 128, (Unicode.isAlpha c.1 && !(Unicode.isUpper c.1 || Unicode.isTitle c.1)) = decide (c.1 ∈ lettersN.cps.toList) := by decide +kernel
theorem low_lower : ∀ c : Fin 128, c.1 ∈ lettersN.cps.toList → Unicode.isLower c.1 = true ∧ Unicode.isAlpha c.1 = true := by decide +kernel
theorem low_lt : ∀ c ∈ lettersN.cps.toList, c < 128 := by decide +kernel
theorem arr_all (a : Array Nat) (p : Nat → Bool) : a.all p = a.toList.all p := by rw [Array.all_toList]
theorem arr_any (a : Array Nat) (p : Nat → Bool) : a.any p = a.toList.any p := by rw [Array.any_toList]
/-- ASCII letters without capitals are a to z -/
theorem isLow {z : Str} (hz : 1 ≤ z.length) : (Txt.isascii z && (Txt.isalpha z && Txt.islower z)) = z.cps.toList.all fun c => decide (c ∈ lettersN.cps.toList) := by
  unfold Txt.isascii Txt.isalpha Txt.islower
  rw [arr_all, arr_all, arr_any, arr_any]
  have hl : z.cps.toList.length = z.length := by simp [Str.length]
  have hp : decide (z.length > 0) = true := decide_eq_true (by omega)
  rw [hp, Bool.true_and]
  generalize z.cps.toList = l at hl
  rw [Bool.eq_iff_iff]
  simp only [Bool.and_eq_true, List.all_eq_true, List.any_eq_true, Bool.not_eq_true', List.any_eq_false, decide_eq_true_eq, Bool.or_eq_true, not_or, Bool.not_eq_true]
  constructor
  · rintro ⟨h1, h2, ⟨_, _⟩, h4⟩ c hc
    have := low_code ⟨c, h1 c hc⟩
    simp only [h2 c hc, Bool.true_and] at this
    obtain ⟨h5, h6⟩ := h4 c hc
    rw [h5, h6] at this
    exact of_decide_eq_true this.symm
  · intro h
    have f := fun c hc => low_lower ⟨c, low_lt c (h c hc)⟩ (h c hc)
    refine ⟨fun c hc => low_lt c (h c hc), fun c hc => (f c hc).2, ?_, fun c hc => ?_⟩
    · cases l with
      | nil => simp at hl; omega
      | cons a l => exact ⟨a, List.mem_cons_self, (f a List.mem_cons_self).1⟩
    · have := low_code ⟨c, low_lt c (h c hc)⟩
      rw [(f c hc).2, Bool.true_and, decide_eq_true (h c hc)] at this
      simpa using this
/-- z.isascii() and its like -/
theorem pe_isascii {X : Cx} {o : Expr} {to : TE} {apos pos : Pos} (ho : PE X o to)
    (hbase : attributeBase o "isascii" X.env (eval o X.env) = eval o X.env := by rfl) (hline : (apos.endLine == pos.line) = true := by rfl) :
    PE X (.Call (.Attribute o "isascii" apos) [] [] pos) (tM0 (fun x xs H Q => ∃ a, x = .str a ∧ xs = [] ∧ True ∧ Q (.bl (Txt.isascii a)) H) to) :=
  pe_m0 F.slot_str_isascii F.type_str_isascii mt_isascii ho hbase hline
theorem pe_isalpha {X : Cx} {o : Expr} {to : TE} {apos pos : Pos} (ho : PE X o to)
    (hbase : attributeBase o "isalpha" X.env (eval o X.env) = eval o X.env := by rfl) (hline : (apos.endLine == pos.line) = true := by rfl) :
    PE X (.Call (.Attribute o "isalpha" apos) [] [] pos) (tM0 (fun x xs H Q => ∃ a, x = .str a ∧ xs = [] ∧ True ∧ Q (.bl (Txt.isalpha a)) H) to) :=
  pe_m0 F.slot_str_isalpha F.type_str_isalpha mt_isalpha ho hbase hline
theorem pe_islower {X : Cx} {o : Expr} {to : TE} {apos pos : Pos} (ho : PE X o to)
    (hbase : attributeBase o "islower" X.env (eval o X.env) = eval o X.env := by rfl) (hline : (apos.endLine == pos.line) = true := by rfl) :
    PE X (.Call (.Attribute o "islower" apos) [] [] pos) (tM0 (fun x xs H Q => ∃ a, x = .str a ∧ xs = [] ∧ True ∧ Q (.bl (Txt.islower a)) H) to) :=
  pe_m0 F.slot_str_islower F.type_str_islower mt_islower ho hbase hline
end LF

set_option Elab.async false
set_option linter.all false
set_option maxRecDepth 100000
set_option maxHeartbeats 4000000
namespace LF
open PySem PySem.Spec PyProof.Rows L2
/-- a def of the text: its promise, its place, how it is bound -/
structure DefAt (P : Program) (w : World) (K : PySem.W.Frag) (mg : Str → Option Value) (base : Heap) (x : Str) (k : Nat) (f : Addr) (fd : FuncData) (ps : List Str) (sp : Sp) : Prop where
  F : FnOk P w K mg base CX0 k f fd ps sp
  g : mg x = some (.ref f)
  kp : PySem.W.keepIn K (.ref f) = true
  b : Binds K fd ps []
theorem pe_callD {X : Cx} {x : Str} {k : Nat} {f : Addr} {fd : FuncData} {ps : List Str} {sp : Sp} {p pos : Pos} {e : Expr} {es : List Expr} {t : TA}
    (D : DefAt X.prog X.w X.K X.mg X.base x k f fd ps sp) (hr : Room k X.A) (ha : PA X (e :: es) t) (hg : Gl X x := by rfl)
    (hdb : (x == ("__debug__" : Str)) = false := by decide)
    (he : starEach (e :: es) X.env = (false, eval e X.env) :: starEach es X.env := by rfl) (hpl : (backTo pos (starEach es X.env)).any (·.1) = false := by rfl) :
    PE X (.Call (.Name x p) (e :: es) [] pos) (tCall sp [] E0 t) := pe_call D.F hr hg D.g D.kp D.b .nil pass0 ha hdb he hpl

/-- x.rpartition(sep) -/
theorem mt_rpartition {X : Cx} : MtR X "str.rpartition" (fun x xs H Q => ∃ a b, x = .str a ∧ xs = [.str b] ∧ (b.length == 0) = false ∧ a.length ≤ sizeLine ∧
    ∀ p, H p = none → Q (.ref p) (upd H p (.tup [.str (Txt.rpartition a b).1, .str (Txt.rpartition a b).2.1, .str (Txt.rpartition a b).2.2]))) := by
  rintro pins s σ H x xs v us Q I rx rs ⟨a, b, rfl, rfl, hb, hz, h⟩
  obtain ⟨t, rfl⟩ := rx
  obtain ⟨u, rfl, t2, rfl⟩ := vals1 rs
  refine call_meets F.slot_str_rpartition (typeIs_str _ _ _) F.entry_str_rpartition (F.args_str_rpartition_2 _ _) (meets_str_rpartition a b t t2 hb hz) ?_
  unfold Txt.rpartition at h
  revert h
  cases Builtin.Str.lastOccurrence a b 0 a.length with
  | none => exact fun h => laid_parts I h
  | some i => exact fun h => laid_parts I h
theorem pe_rpartition {X : Cx} {o e : Expr} {to te : TE} {apos pos : Pos} (ho : PE X o to) (he : PE X e te) (hs : starEach [e] X.env = [(false, eval e X.env)] := by rfl)
    (hbase : attributeBase o "rpartition" X.env (eval o X.env) = eval o X.env := by rfl) (hline : (apos.endLine == pos.line) = true := by rfl) :
    PE X (.Call (.Attribute o "rpartition" apos) [e] [] pos) (tM1 (fun x xs H Q => ∃ a b, x = .str a ∧ xs = [.str b] ∧ (b.length == 0) = false ∧ a.length ≤ sizeLine ∧
      ∀ p, H p = none → Q (.ref p) (upd H p (.tup [.str (Txt.rpartition a b).1, .str (Txt.rpartition a b).2.1, .str (Txt.rpartition a b).2.2]))) to te) :=
  pe_m1 F.slot_str_rpartition F.type_str_rpartition mt_rpartition ho he hs hbase hline
end LF

namespace LF
theorem ifD {p : Prop} [Decidable p] {A B : Prop} (h1 : p → A) (h2 : ¬ p → B) : if decide p = true then A else B := by
  by_cases h : p
  · rw [if_pos (decide_eq_true h)]; exact h1 h
  · rw [if_neg (by rw [decide_eq_false h]; exact Bool.false_ne_true)]; exact h2 h
theorem ifN {p : Prop} [Decidable p] {A B : Prop} (h1 : p → B) (h2 : ¬ p → A) : if (!decide p) = true then A else B := by
  by_cases h : p
  · rw [if_neg (by rw [decide_eq_true h]; exact Bool.false_ne_true)]; exact h1 h
  · rw [if_pos (by rw [decide_eq_false h]; rfl)]; exact h2 h
end LF
namespace K6
open PySem PySem.Spec PyProof.Rows L2 LF
def topS (i : Nat) : Stmt := PySem.Challenge.pw_linkfarms_k91_texts_of_packages.main.body.getD i (.Pass ⟨0, 0, 0, 0⟩)
def letters : Str := "abcdefghijklmnopqrstuvwxyz"
def isNm (z : Str) : Bool := decide (1 ≤ z.length ∧ z.length ≤ 8) && z.cps.toList.all fun c => decide (c ∈ letters.cps.toList)
/-- what the top has written, but the defs -/
structure Txt (K : PySem.W.Frag) (mg : Str → Option Value) (tk1 tk2 : Tok) : Prop where
  g_LONGEST_NAME : mg "LONGEST_NAME" = some (.int 8 tk2)
  n_isinstance : mg "isinstance" = none
  n_str : mg "str" = none
  n_len : mg "len" = none
  n_all : mg "all" = none
  n_any : mg "any" = none
  n_tuple : mg "tuple" = none
  n_list : mg "list" = none
  n_dict : mg "dict" = none
  n_sorted : mg "sorted" = none
  n_range : mg "range" = none
  n_abs : mg "abs" = none
  n_int : mg "int" = none
  n_bool : mg "bool" = none
  n_repr : mg "repr" = none
  n_max : mg "max" = none
  n_min : mg "min" = none
  n_ValueError : mg "ValueError" = none
  n_OverflowError : mg "OverflowError" = none

def notStr : List String := ["NoneType", "int", "bool", "list", "tuple", "dict"]
def spName (K : PySem.W.Frag) : Sp := fun vs H Q _ => ∃ x, vs = [x] ∧
  ((∃ z : Str, x = .str z ∧ z.length ≤ 1000000 ∧ ∀ H', Same H H' → Q (.bl (isNm z)) H') ∨
   (∃ t, TyX K H x t ∧ PySem.W.kitOne K t (.type "str") = some false ∧ ∀ H', Same H H' → Q (.bl false) H'))

abbrev s_is_name : Stmt := topS 12
abbrev N_is_name : List Str := ["thing"]
theorem sc_is_name : FnScope ["thing"] ["thing"] (defScope s_is_name) := ⟨rfl, rfl, rfl, by decide +kernel, rfl, by decide +kernel, by decide +kernel⟩

theorem kit_no {K : PySem.W.Frag} {t : String} (h : t ∈ notStr) : PySem.W.kitOne K (.type t) (.type "str") = some false := by
  simp only [notStr, List.mem_cons, List.not_mem_nil, or_false] at h
  rcases h with rfl | rfl | rfl | rfl | rfl | rfl <;> exact kit_ty (by decide +kernel)
theorem kit_str {K : PySem.W.Frag} : PySem.W.kitOne K (.type "str") (.type "str") = some true := kit_ty (by decide +kernel)
section
variable {P : Program} {w : World} {K : PySem.W.Frag} {mg : Str → Option Value} {base : Heap} {tk1 tk2 : Tok}
theorem ok_is_name {f : Addr} {fd : FuncData} (F : Fun K "is_name" "is_name" s_is_name f fd) (T : Txt K mg tk1 tk2) : FnOk P w K mg base CX0 1 f fd ["thing"] (spName K) := by
  refine F.ok sc_is_name (fun vs H Q E h => ?_) (fun cdv A outer s H vs Q E hr h => ?_)
  · obtain ⟨x, rfl, _⟩ := h
    rfl
  refine ⟨_, (pss_one (ps_ret (pe_and (pe_callB call_isi (by rfl) T.n_isinstance (by decide +kernel) (pa_cons (pv 0) (pa_cons (pe_bltn (v := .ty "str") (by rfl) T.n_str (by decide +kernel) rfl) pa_nil))) (pe_and (pe_chain op_le op_le pe_int (pe_callB call_len_str (by rfl) T.n_len (by decide +kernel) (pa_cons (pv 0) pa_nil)) (pe_glob (v := .int 8) rfl T.g_LONGEST_NAME ⟨_, rfl⟩)) (pe_and (pe_isascii (pv 0)) (pe_and (pe_isalpha (pv 0)) (pe_one (pe_islower (pv 0))))))))), ?_⟩
  obtain ⟨x, rfl, h⟩ := h
  rcases h with ⟨z, rfl, hz, hq⟩ | ⟨t, ht, ty, hq⟩
  · refine ⟨_, rfl, _, .ty "str", _, _, true, rfl, .ty _, .base (.str _), kit_str, ?_⟩
    refine ⟨_, rfl, iteT ?_⟩
    have hl : z.length ≤ sizeLine := Nat.le_trans hz (by decide)
    have q0 := hq H (Same.refl H)
    have fin : isNm z = (decide (1 ≤ z.length ∧ z.length ≤ 8) && (PySem.Txt.isascii z && (PySem.Txt.isalpha z && PySem.Txt.islower z))) := by
      unfold isNm
      by_cases h1 : 1 ≤ z.length
      · rw [isLow h1]; rfl
      · rw [decide_eq_false (by omega)]; rfl
    rw [fin] at q0
    refine ⟨_, rfl, z, rfl, hl, _, _, rfl, rfl, _, rfl, ?_⟩
    refine ifD (fun h1 => ?_) (fun h1 => ?_)
    · refine ⟨_, _, rfl, rfl, _, rfl, ?_⟩
      refine ifD (fun h2 => ?_) (fun h2 => ?_)
      · rw [decide_eq_true (show 1 ≤ z.length ∧ z.length ≤ 8 by omega), Bool.true_and] at q0
        refine ⟨_, rfl, ⟨_, rfl⟩, z, rfl, rfl, trivial, _, rfl, ?_⟩
        cases e1 : PySem.Txt.isascii z with
        | false => rw [e1] at q0; exact iteF q0
        | true =>
          rw [e1, Bool.true_and] at q0
          refine iteT ⟨_, rfl, ⟨_, rfl⟩, z, rfl, rfl, trivial, _, rfl, ?_⟩
          cases e2 : PySem.Txt.isalpha z with
          | false => rw [e2] at q0; exact iteF q0
          | true =>
            rw [e2, Bool.true_and] at q0
            exact iteT ⟨_, rfl, ⟨_, rfl⟩, z, rfl, rfl, trivial, q0⟩
      · rw [decide_eq_false (by omega), Bool.false_and] at q0
        exact q0
    · rw [decide_eq_false (by omega), Bool.false_and] at q0
      refine ⟨_, rfl, ?_⟩
      exact q0
  · have q0 := hq H (Same.refl H)
    refine ⟨_, rfl, _, .ty "str", _, _, false, rfl, .ty _, ht, ty, ?_⟩
    exact ⟨_, rfl, iteF q0⟩
end
end K6

set_option Elab.async false
set_option linter.all false
set_option maxRecDepth 100000
set_option maxHeartbeats 4000000
namespace LF
open PySem PySem.Spec PyProof.Rows L2
/-- all that was tracked but b is as it was -/
def Keep (b : Addr) (H H' : Hp) : Prop := ∀ a o, a ≠ b → H a = some o → H' a = some o
theorem Keep.refl (b : Addr) (H : Hp) : Keep b H H := fun _ _ _ e => e
theorem Keep.trans {b : Addr} {H H1 H2 : Hp} (x : Keep b H H1) (y : Keep b H1 H2) : Keep b H H2 := fun a o n e => y a o n (x a o n e)
theorem Same.keep {b : Addr} {H H' : Hp} (s : Same H H') : Keep b H H' := fun a o _ e => s a o e
theorem same_upd {H H' : Hp} {D : Addr} {o : HO} (hD : H D = none) (s : Same H H') : Same H (upd H' D o) := fun b u e => by
  rw [upd_ne (ne_of_none e hD)]; exact s b u e
theorem same_new {H : Hp} {D : Addr} {o : HO} (hD : H D = none) : Same H (upd H D o) := same_upd hD (Same.refl H)
theorem keep_upd {b : Addr} {H H' : Hp} {D : Addr} {o : HO} (hD : H D = none) (s : Keep b H H') : Keep b H (upd H' D o) := fun a u n e => by
  rw [upd_ne (ne_of_none e hD)]; exact s a u n e
theorem keep_put {b : Addr} {H H' : Hp} {o : HO} (s : Keep b H H') : Keep b H (upd H' b o) := fun a u n e => by
  rw [upd_ne n]; exact s a u n e
theorem Keep.free {b : Addr} {H H' : Hp} (s : Keep b H H') {D : Addr} (n : D ≠ b) (h : H' D = none) : H D = none := by
  cases q : H D with
  | none => rfl
  | some o => rw [s D o n q] at h; cases h
theorem keep_seq {b a : Addr} {H H' : Hp} {K : PySem.W.Frag} {xs : List V} (s : Keep b H H') (n : a ≠ b) (h : SqL K H a xs) : SqL K H' a xs := by
  rcases h with (h | ⟨o, h⟩) | h
  · exact Or.inl (Or.inl (s _ _ n h))
  · exact Or.inl (Or.inr ⟨o, s _ _ n h⟩)
  · exact Or.inr h

/-- the law's bag of draws -/
def BagAt (H : Hp) (b : Addr) : Prop := ∃ d x n : Int, H b = some (.lst [.int d, .int x, .int n]) ∧ 0 ≤ d ∧ 0 ≤ x ∧ x < 2147483647
theorem BagAt.keep {H H' : Hp} {b a : Addr} (h : BagAt H b) (s : Keep a H H') (n : b ≠ a) : BagAt H' b := by
  obtain ⟨d, x, m, e, r⟩ := h
  exact ⟨d, x, m, s _ _ n e, r⟩
theorem BagAt.same {H H' : Hp} {b : Addr} (h : BagAt H b) (s : Same H H') : BagAt H' b := by
  obtain ⟨d, x, m, e, r⟩ := h
  exact ⟨d, x, m, s _ _ e, r⟩
theorem BagAt.ne {H : Hp} {b D : Addr} (h : BagAt H b) (hD : H D = none) : D ≠ b := by
  obtain ⟨d, x, m, e, r⟩ := h
  exact Ne.symm (ne_of_none e hD)

section
variable {K : PySem.W.Frag} {a D b : Addr} {xs : List V} {tt : TT} {te : TE} {j : Nat} {σ : L2.St} {H : Hp} {Qd : Hp → Prop}
/-- a comprehension over a list, nothing tracked is changed: filter and map -/
theorem lc_filt (p : V → Bool) (f : V → V) (hD : H D = none) (hS : SqL K H a xs) (hlen : xs.length < sizeLine)
    (ht : ∀ x H1 (R : Bool → Hp → Prop), x ∈ xs → Same H H1 → (∀ H3, Same H1 H3 → R (p x) H3) → tt ((wipe σ [j]).set j (some x)) H1 R)
    (he : ∀ x H1 (R : V → Hp → Prop), x ∈ xs → p x = true → Same H H1 → (∀ H3, Same H1 H3 → R (f x) H3) → te ((wipe σ [j]).set j (some x)) H1 R)
    (hd : ∀ H', Same H H' → H' D = some (.lst ((xs.filter p).map f)) → Qd H') :
    ∃ W : Nat → Nat → Hp → Prop, (∃ m, W 0 m (upd H D (.lst []))) ∧ ∀ i m H, W i m H →
      ((Itl K a).stop i H ∧ Qd H) ∨ ((Itl K a).go i H ∧ ∃ Nx : Hp → Prop, (∀ H', Nx H' → ∃ m', m' < m ∧ W (i + 1) m' H') ∧ ∀ x H', (Itl K a).yld i H x H' → gName j x (wipe σ [j]) H' fun σ2 H2 => wipe σ2 [j] = wipe σ [j] ∧ tt σ2 H2 fun b H3 =>
        if b = true then te σ2 H3 fun y H4 => ∃ acc, H4 D = some (.lst acc) ∧ acc.length < sizeLine ∧ Nx (upd H4 D (.lst (acc ++ [y]))) else Nx H3) := by
  refine lc_list (Pv := fun i H' => Same H H' ∧ H' D = some (.lst (((xs.take i).filter p).map f))) ⟨same_new hD, upd_same⟩ (fun i H' _ h => sqL_same h.1 hS) ?_ ?_
  · rintro i x H1 hx ⟨sm, hd1⟩
    have hm := List.mem_of_getElem? hx
    have et : xs.take (i + 1) = xs.take i ++ [x] := by rw [List.take_add_one, hx]; rfl
    have hl : (((xs.take i).filter p).map f).length < sizeLine := by
      rw [List.length_map]
      have h1 : ((xs.take i).filter p).length ≤ (xs.take i).length := List.length_filter_le _ _
      have h2 : (xs.take i).length ≤ xs.length := by rw [List.length_take]; exact Nat.min_le_right _ _
      omega
    refine ⟨?_, ht x H1 _ hm sm fun H3 s3 => ?_⟩
    · show (wipe ((wipe σ [j]).set j (some x)) [j]) = wipe σ [j]
      show (((σ.set j none).set j (some x)).set j none) = σ.set j none
      simp
    · cases hp : p x with
      | true =>
        refine iteT (he x H3 _ hm hp (sm.trans s3) fun H4 s4 => ?_)
        refine ⟨_, s4 _ _ (s3 _ _ hd1), hl, same_upd hD ((sm.trans s3).trans s4), ?_⟩
        rw [upd_same, et, List.filter_append, List.map_append]
        simp [hp]
      | false =>
        refine iteF ⟨sm.trans s3, ?_⟩
        rw [s3 _ _ hd1, et, List.filter_append, List.map_append]
        simp [hp]
  · rintro H1 ⟨sm, hd1⟩
    rw [List.take_length] at hd1
    exact hd H1 sm hd1
/-- a comprehension over range(n) whose element draws from the bag at b -/
theorem lc_draw {lo : Int} {n : Nat} (Good : V → Prop) (hb : BagAt H b) (hD : H D = none) (hlen : n < sizeLine)
    (he : ∀ i H1 (R : V → Hp → Prop), i < n → Keep b H H1 → BagAt H1 b → (∀ y H3, Keep b H1 H3 → BagAt H3 b → Good y → R y H3) → te ((wipe σ [j]).set j (some (.int (lo + i)))) H1 R)
    (hd : ∀ H' acc, Keep b H H' → BagAt H' b → H' D = some (.lst acc) → acc.length = n → (∀ y ∈ acc, Good y) → Qd H') :
    ∃ W : Nat → Nat → Hp → Prop, (∃ m, W 0 m (upd H D (.lst []))) ∧ ∀ i m H, W i m H →
      ((Itr lo n).stop i H ∧ Qd H) ∨ ((Itr lo n).go i H ∧ ∃ Nx : Hp → Prop, (∀ H', Nx H' → ∃ m', m' < m ∧ W (i + 1) m' H') ∧ ∀ x H', (Itr lo n).yld i H x H' → gName j x (wipe σ [j]) H' fun σ2 H2 => wipe σ2 [j] = wipe σ [j] ∧ tYes σ2 H2 fun b H3 =>
        if b = true then te σ2 H3 fun y H4 => ∃ acc, H4 D = some (.lst acc) ∧ acc.length < sizeLine ∧ Nx (upd H4 D (.lst (acc ++ [y]))) else Nx H3) := by
  have nDb := hb.ne hD
  refine lc_range (Pv := fun i H' => Keep b H H' ∧ BagAt H' b ∧ ∃ acc, H' D = some (.lst acc) ∧ acc.length = i ∧ ∀ y ∈ acc, Good y)
    ⟨keep_upd hD (Keep.refl b H), hb.same (same_new hD), [], upd_same, rfl, fun _ h => nomatch h⟩ ?_ ?_
  · rintro i H1 hi ⟨kp, bg, acc, hacc, hl, hg⟩
    refine ⟨?_, ?_⟩
    · show (((σ.set j none).set j (some (V.int (lo + i)))).set j none) = σ.set j none
      simp
    · refine he i H1 _ hi kp bg fun y H3 k3 b3 gy => ?_
      have h3 := k3 D _ nDb hacc
      refine ⟨acc, h3, by omega, keep_upd hD (kp.trans k3), ?_, acc ++ [y], upd_same, by simp [hl], ?_⟩
      · obtain ⟨d, x, m, e, r⟩ := b3
        exact ⟨d, x, m, by rw [upd_ne nDb.symm]; exact e, r⟩
      · intro z hz
        rcases List.mem_append.mp hz with q | q
        · exact hg z q
        · rw [List.mem_singleton.mp q]; exact gy
  · rintro H1 ⟨kp, bg, acc, hacc, hl, hg⟩
    exact hd H1 acc kp bg hacc hl hg
end
end LF

set_option Elab.async false
set_option linter.all false
set_option maxRecDepth 100000
set_option maxHeartbeats 4000000
namespace K6
open PySem PySem.Spec PyProof.Rows L2 LF
def c_sl : Str := "/"
def parts (z : Str) : List Str := if z = "" then [] else PySem.Txt.split z c_sl
def isPt (z : Str) : Bool := decide (z = "") || (PySem.Txt.split z c_sl).all isNm
/-- a value asked whether it is one: a text, or of another type -/
def isOk (K : PySem.W.Frag) (H : Hp) (x : V) (g : Str → Bool) (b : Bool) : Prop :=
  (∃ z : Str, x = .str z ∧ z.length ≤ 1000000 ∧ b = g z) ∨ ((∃ t, TyX K H x t ∧ PySem.W.kitOne K t (.type "str") = some false) ∧ b = false)
def spPath (K : PySem.W.Frag) : Sp := fun vs H Q _ => ∃ (x : V) (b : Bool), vs = [x] ∧ isOk K H x isPt b ∧ ∀ H', Same H H' → Q (.bl b) H'
def spCheck : Sp := fun vs H Q _ => ∃ z : Str, vs = [.str z] ∧ z.length ≤ 1000000 ∧ isPt z = true ∧ ∀ H', Same H H' → Q .non H'
def spSplit : Sp := fun vs H Q _ => ∃ z : Str, vs = [.str z] ∧ z.length ≤ 1000000 ∧ ∀ H' p, Same H H' → H p = none → H' p = some (.lst ((parts z).map V.str)) → Q (.ref p) H'
def spParent : Sp := fun vs H Q _ => ∃ z : Str, vs = [.str z] ∧ z.length ≤ 1000000 ∧ isPt z = true ∧ ∀ H', Same H H' → Q (if z = "" then .non else .str (PySem.Txt.rpartition z c_sl).1) H'
def keyD (z : Str) : PyData := .tuple [.int (parts z).length, .list ((parts z).map .str)]
def spKey (K : PySem.W.Frag) : Sp := fun vs H Q _ => ∃ z : Str, vs = [.str z] ∧ z.length ≤ 1000000 ∧ ∀ v H', Same H H' → Dp K H' v (keyD z) → Q v H'

abbrev s_is_path : Stmt := topS 13
abbrev N_is_path : List Str := ["thing", "part"]
theorem sc_is_path : FnScope ["thing", "part"] ["thing"] (defScope s_is_path) := ⟨rfl, rfl, rfl, by decide +kernel, rfl, by decide +kernel, by decide +kernel⟩
abbrev s_check_path : Stmt := topS 14
theorem sc_check_path : FnScope ["path"] ["path"] (defScope s_check_path) := ⟨rfl, rfl, rfl, by decide +kernel, rfl, by decide +kernel, by decide +kernel⟩
abbrev s_parent : Stmt := topS 15
theorem sc_parent : FnScope ["path"] ["path"] (defScope s_parent) := ⟨rfl, rfl, rfl, by decide +kernel, rfl, by decide +kernel, by decide +kernel⟩
abbrev s_in_order : Stmt := topS 16
theorem sc_in_order : FnScope ["paths"] ["paths"] (defScope s_in_order) := ⟨rfl, rfl, rfl, by decide +kernel, rfl, by decide +kernel, by decide +kernel⟩
abbrev s_split_path : Stmt := topS 17
theorem sc_split_path : FnScope ["path"] ["path"] (defScope s_split_path) := ⟨rfl, rfl, rfl, by decide +kernel, rfl, by decide +kernel, by decide +kernel⟩
abbrev s_order_key : Stmt := topS 18
theorem sc_order_key : FnScope ["path", "parts"] ["path"] (defScope s_order_key) := ⟨rfl, rfl, rfl, by decide +kernel, rfl, by decide +kernel, by decide +kernel⟩

theorem str_dec (z y : Str) : decide (V.str z = V.str y) = decide (z = y) := by
  by_cases h : z = y
  · subst h; simp
  · rw [decide_eq_false h, decide_eq_false (fun e => h (V.str.inj e))]
theorem sl_ne : (c_sl.length == 0) = false := by decide +kernel
theorem parts_len (z : Str) (hz : z.length ≤ 1000000) : (parts z).length ≤ 1000002 := by
  unfold parts
  split
  · exact Nat.zero_le _
  · exact Nat.le_trans (split_le z c_sl) (by omega)
theorem sizeLine_big : 1000010 < sizeLine := by decide

section
variable {P : Program} {w : World} {K : PySem.W.Frag} {mg : Str → Option Value} {base : Heap} {tk1 tk2 : Tok}
theorem ok_is_path {f f1 : Addr} {fd fd1 : FuncData} (F : Fun K "is_path" "is_path" s_is_path f fd) (T : Txt K mg tk1 tk2) (d_is_name : DefAt P w K mg base "is_name" 1 f1 fd1 ["thing"] (spName K)) :
    FnOk P w K mg base CX0 2 f fd ["thing"] (spPath K) := by
  refine F.ok sc_is_path (fun vs H Q E h => ?_) (fun cdv A outer s H vs Q E hr h => ?_)
  · obtain ⟨x, b, rfl, _⟩ := h
    rfl
  refine ⟨_, (pss_cons (ps_if (pt_not (pt_val (pe_callB call_isi (by rfl) T.n_isinstance (by decide +kernel) (pa_cons (pv 0) (pa_cons (pe_bltn (v := .ty "str") (by rfl) T.n_str (by decide +kernel) rfl) pa_nil))))) (pss_one (ps_ret pe_bl)) pss_nil)
    (pss_one (ps_ret (pe_or (pe_cmpR op_eq (pv 0) pe_str (nomark _)) (pe_one (pe_callB (cr_all rfl) (by rfl) T.n_all (by decide +kernel) (pa_cons (pe_lc (own := [("part", 1)]) rfl sc_is_path.nd (pi_list (pe_split (pv 0) pe_str)) (blkOk_by (N := N_is_path) (sc := defScope s_is_path) (by decide +kernel)) (fun _ _ _ _ _ => pg_name (i := 1) sc_is_path.nd rfl (Or.inl rfl)) (fun _ _ _ _ _ => pts_nil) (fun _ _ _ _ _ => (pe_callD d_is_name (hr.mono (by decide)) (pa_cons (pv 1) pa_nil)))) pa_nil))))))), ?_⟩
  obtain ⟨x, b, rfl, hx, hq⟩ := h
  rcases hx with ⟨z, rfl, hz, rfl⟩ | ⟨⟨t, ty, ht⟩, rfl⟩
  rotate_left
  · refine ⟨_, rfl, _, .ty "str", _, _, false, rfl, .ty _, ty, ht, ?_⟩
    exact ⟨_, rfl, iteT (hq H (Same.refl H))⟩
  refine ⟨_, rfl, _, .ty "str", _, _, true, rfl, .ty _, .base (.str _), kit_str, _, rfl, iteF ?_⟩
  refine ⟨_, rfl, rfl, _, rfl, ?_⟩
  have hbig := sizeLine_big
  rw [str_dec]
  refine ifD (fun h1 => ?_) (fun h1 => ?_)
  · have := hq H (Same.refl H)
    unfold isPt at this
    rw [decide_eq_true h1] at this
    exact this
  · refine ⟨_, rfl, ⟨_, rfl⟩, z, c_sl, rfl, rfl, sl_ne, by omega, fun p hp => ?_⟩
    refine ⟨p, rfl, ⟨_, SqL.of upd_same⟩, fun D hD => ?_⟩
    refine lc_filt (xs := (PySem.Txt.split z c_sl).map V.str) (fun _ => true) (fun x => match x with | .str y => .bl (isNm y) | _ => .non) hD (SqL.of upd_same) ?_ (fun x H1 R _ sm hR => hR H1 (Same.refl H1)) ?_ ?_
    · rw [List.length_map]
      have := split_le z c_sl
      omega
    · intro x H1 R hx _ sm hR
      obtain ⟨y, hy, rfl⟩ := List.mem_map.mp hx
      refine ⟨_, rfl, _, rfl, Or.inl ⟨y, rfl, Nat.le_trans (part_short hy) hz, fun H' sm' => hR H' sm'⟩⟩
    · intro H2 sm hd
      refine ⟨D, (PySem.Txt.split z c_sl).map isNm, rfl, SqL.of ?_, ?_⟩
      · rw [hd, List.filter_eq_self.mpr (fun _ _ => rfl), List.map_map, List.map_map]; rfl
      · have := hq H2 ((same_new hp).trans sm)
        unfold isPt at this
        rw [decide_eq_false h1, Bool.false_or] at this
        rw [List.all_map]
        exact this
theorem ok_check_path {f f1 : Addr} {fd fd1 : FuncData} (F : Fun K "check_path" "check_path" s_check_path f fd) (d_is_path : DefAt P w K mg base "is_path" 2 f1 fd1 ["thing"] (spPath K)) :
    FnOk P w K mg base CX0 3 f fd ["path"] spCheck := by
  refine F.ok sc_check_path (fun vs H Q E h => ?_) (fun cdv A outer s H vs Q E hr h => ?_)
  · obtain ⟨x, rfl, _⟩ := h
    rfl
  refine ⟨_, (pss_one (ps_if (pt_not (pt_val (pe_callD d_is_path (hr.mono (by decide)) (pa_cons (pv 0) pa_nil)))) (pss_one ps_never) pss_nil)), ?_⟩
  obtain ⟨z, rfl, hz, hp, hq⟩ := h
  refine ⟨_, rfl, .str z, true, rfl, Or.inl ⟨z, rfl, hz, hp.symm⟩, fun H' sm => ⟨_, rfl, ?_⟩⟩
  exact iteF (hq H' sm)
theorem ok_split_path {f : Addr} {fd : FuncData} (F : Fun K "split_path" "split_path" s_split_path f fd) : FnOk P w K mg base CX0 1 f fd ["path"] spSplit := by
  refine F.ok sc_split_path (fun vs H Q E h => ?_) (fun cdv A outer s H vs Q E hr h => ?_)
  · obtain ⟨x, rfl, _⟩ := h
    rfl
  refine ⟨_, (pss_cons (ps_if (pt_cmpR op_eq (pv 0) pe_str (nomark _)) (pss_one (ps_ret (pe_lst pa_nil))) pss_nil) (pss_one (ps_ret (pe_split (pv 0) pe_str)))), ?_⟩
  obtain ⟨z, rfl, hz, hq⟩ := h
  have hbig := sizeLine_big
  refine ⟨_, rfl, rfl, _, rfl, ?_⟩
  rw [str_dec]
  refine ifD (fun h1 => ?_) (fun h1 => ?_)
  · refine ⟨Nat.zero_le _, fun p hp => hq _ p (same_new hp) hp ?_⟩
    rw [upd_same, parts, if_pos h1]; rfl
  · refine ⟨_, rfl, ⟨_, rfl⟩, z, c_sl, rfl, rfl, sl_ne, by omega, fun p hp => hq _ p (same_new hp) hp ?_⟩
    rw [upd_same, parts, if_neg h1]
theorem ok_parent {f f1 : Addr} {fd fd1 : FuncData} (F : Fun K "parent" "parent" s_parent f fd) (d_check_path : DefAt P w K mg base "check_path" 3 f1 fd1 ["path"] spCheck) :
    FnOk P w K mg base CX0 4 f fd ["path"] spParent := by
  refine F.ok sc_parent (fun vs H Q E h => ?_) (fun cdv A outer s H vs Q E hr h => ?_)
  · obtain ⟨x, rfl, _⟩ := h
    rfl
  refine ⟨_, (pss_cons (ps_expr (pe_callD d_check_path (hr.mono (by decide)) (pa_cons (pv 0) pa_nil)))
    (pss_cons (ps_if (pt_cmpR op_eq (pv 0) pe_str (nomark _)) (pss_one (ps_ret pe_non)) pss_nil)
    (pss_one (ps_ret (pe_ix ix_tup (pe_rpartition (pv 0) pe_str) pe_int (fun _ _ => rfl)))))), ?_⟩
  obtain ⟨z, rfl, hz, hp, hq⟩ := h
  have hbig := sizeLine_big
  refine ⟨_, rfl, z, rfl, hz, hp, fun H1 s1 => ?_⟩
  refine ⟨_, rfl, rfl, _, rfl, ?_⟩
  rw [str_dec]
  refine ifD (fun h1 => ?_) (fun h1 => ?_)
  · have := hq H1 s1
    rw [if_pos h1] at this
    exact this
  · refine ⟨_, rfl, ⟨_, rfl⟩, z, c_sl, rfl, rfl, sl_ne, by omega, fun p hp => ?_⟩
    refine ⟨p, _, _, _, rfl, rfl, SqT.of upd_same, rfl, ?_⟩
    simp only [if_neg h1] at hq
    exact hq _ (s1.trans (same_new hp))
theorem ok_order_key {f f1 : Addr} {fd fd1 : FuncData} (F : Fun K "order_key" "order_key" s_order_key f fd) (T : Txt K mg tk1 tk2) (d_split_path : DefAt P w K mg base "split_path" 1 f1 fd1 ["path"] spSplit) :
    FnOk P w K mg base CX0 2 f fd ["path"] (spKey K) := by
  refine F.ok sc_order_key (fun vs H Q E h => ?_) (fun cdv A outer s H vs Q E hr h => ?_)
  · obtain ⟨x, rfl, _⟩ := h
    rfl
  refine ⟨_, (pss_cons (ps_set (i := 1) sc_order_key.nd rfl (Or.inl rfl) (pe_callD d_split_path (hr.mono (by decide)) (pa_cons (pv 0) pa_nil)))
    (pss_one (ps_ret (pe_tup (pa_cons (pe_callB call_len_seq (by rfl) T.n_len (by decide +kernel) (pa_cons (pv 1) pa_nil)) (pa_cons (pv 1) pa_nil)))))), ?_⟩
  obtain ⟨z, rfl, hz, hq⟩ := h
  refine ⟨_, rfl, z, rfl, hz, fun H1 p s1 np hp1 => ?_⟩
  refine ⟨_, rfl, p, _, rfl, Or.inl (SqL.of hp1), _, rfl, (by show 2 ≤ sizeLine; decide), fun q hq1 => ?_⟩
  refine hq _ _ (s1.trans (same_new hq1)) ?_
  have npq : p ≠ q := ne_of_none hp1 hq1
  have dps : ∀ l : List Str, DpAll K (upd H1 q (.tup [.int ((List.map V.str (parts z)).length : Nat), .ref p])) (l.map V.str) (l.map .str) := by
    intro l
    induction l with
    | nil => exact .nil
    | cons a l ih => exact .cons (.str a) ih
  refine .tup (SqT.of upd_same) (.cons ?_ (.cons (.lst (SqL.of (by rw [upd_ne npq]; exact hp1)) (dps _)) .nil))
  rw [List.length_map]
  exact .int _
end
end K6

set_option Elab.async false
set_option linter.all false
set_option maxRecDepth 100000
set_option maxHeartbeats 4000000
namespace K6
open PySem PySem.Spec PyProof.Rows L2 LF
theorem isNm_len {z : Str} (h : isNm z = true) : 1 ≤ z.length ∧ z.length ≤ 8 := by
  unfold isNm at h
  rw [Bool.and_eq_true, decide_eq_true_eq] at h
  exact h.1
theorem sum_le {ss : List Str} {n : Nat} (h : ∀ s ∈ ss, s.length ≤ n) : (ss.map (·.length)).sum ≤ n * ss.length := by
  induction ss with
  | nil => simp
  | cons a l ih =>
    have h1 := h a List.mem_cons_self
    have h2 := ih fun s hs => h s (List.mem_cons_of_mem _ hs)
    rw [List.map_cons, List.sum_cons, List.length_cons, Nat.mul_succ]
    omega

def spOrder (K : PySem.W.Frag) : Sp := fun vs H Q _ => ∃ (a : Addr) (ws : List Str), vs = [.ref a] ∧ SqL K H a (ws.map V.str) ∧ (∀ x ∈ ws, x.length ≤ 1000000) ∧
  ∀ H' p, Same H H' → H p = none → H' p = some (.lst ((ws.mergeSort (PySem.W.dataLe false keyD)).map V.str)) → Q (.ref p) H'
theorem alike_strs : ∀ xs ys : List Str, PySem.W.alikeAll (xs.map .str) (ys.map .str) = true
  | [], _ => by simp [PySem.W.alikeAll]
  | _ :: _, [] => by simp [PySem.W.alikeAll]
  | x :: xs, y :: ys => by
    show PySem.W.alikeAll (.str x :: xs.map .str) (.str y :: ys.map .str) = true
    rw [PySem.W.alikeAll, alike_strs xs ys]
    simp [PySem.W.alike]
theorem key_alike (x y : Str) : PySem.W.alike (keyD x) (keyD y) = true := by
  show PySem.W.alikeAll [.int _, .list _] [.int _, .list _] = true
  rw [PySem.W.alikeAll, PySem.W.alikeAll, PySem.W.alikeAll]
  show (true && (PySem.W.alikeAll _ _ && true)) = true
  rw [alike_strs]; rfl
theorem depth_strs : ∀ xs : List Str, PyData.depthAll (xs.map .str) = 0
  | [] => by simp [PyData.depthAll]
  | x :: xs => by
    show PyData.depthAll (.str x :: xs.map .str) = 0
    rw [PyData.depthAll, depth_strs xs]
    simp [PyData.depth]
theorem key_depth (x : Str) : (keyD x).depth ≤ 60 := by
  unfold keyD
  simp [PyData.depth, PyData.depthAll, depth_strs]
section
variable {P : Program} {w : World} {K : PySem.W.Frag} {mg : Str → Option Value} {base : Heap} {tk1 tk2 : Tok}
theorem ok_in_order {f f1 : Addr} {fd fd1 : FuncData} (F : Fun K "in_order" "in_order" s_in_order f fd) (T : Txt K mg tk1 tk2) (d_order_key : DefAt P w K mg base "order_key" 2 f1 fd1 ["path"] (spKey K)) :
    FnOk P w K mg base CX0 5 f fd ["paths"] (spOrder K) := by
  refine F.ok sc_in_order (fun vs H Q E h => ?_) (fun cdv A outer s H vs Q E hr h => ?_)
  · obtain ⟨x, ws, rfl, _⟩ := h
    rfl
  refine ⟨_, (pss_one (ps_ret (pe_callBK (call_sortedF (kd := keyD) d_order_key.F hr d_order_key.b) (by rfl) T.n_sorted (by decide +kernel) (pa_cons (pv 0) pa_nil) (pk_cons (pe_glob (v := .ref f1) rfl d_order_key.g rfl) pk_nil)))), ?_⟩
  obtain ⟨a, ws, rfl, hs, hw, hq⟩ := h
  refine ⟨_, rfl, a, ws, rfl, rfl, hs, PySem.W.AllAlike.of key_alike, PySem.W.Sortable.tuples fun b => ⟨_, _, rfl⟩, ?_, ?_, ?_⟩
  · intro d hd
    obtain ⟨x, _, rfl⟩ := List.mem_map.mp hd
    exact key_depth x
  · intro x hx H1 sm Q1 h1
    exact ⟨x, rfl, hw x hx, fun v H' s' dp => h1 v H' s' dp⟩
  · intro H1 p sm hp
    exact hq _ p (sm.trans (same_new hp)) (sm.free hp) upd_same
end
end K6

set_option Elab.async false
set_option linter.all false
set_option maxRecDepth 100000
set_option maxHeartbeats 4000000
namespace LF
open PySem PySem.Spec PyProof.Rows L2
section
variable {prog : Program} {w : World} {A : Around} {E : Value → Shared → Prop} {s : Shared} {K : PySem.W.Frag} {x C f : Addr} {ox : Obj} {od : Option Obj}
/-- repr of an own instance below another: its own __repr__ -/
theorem under_own {b : Nat} {Q : Value → Shared → Prop} (hu : A.units < cLine) (X : K.In s.heap) (I : PySem.W.InstAt s.heap x ox C od) (hs : PySem.W.findIn K (.ref C) "__repr__" = some (some (.ref f))) (hf : PySem.W.isFn K (.ref f) = true)
    (h : wpAny (model prog w) A (call (.ref f) [.ref x]) (fun v s' => ∃ m tk, v = .str m tk ∧ Q v s') E s) : wpAny (model prog w) A (pyReprObjUnder b (.ref x)) Q E s := by
  unfold pyReprObjUnder pyReprObjBy
  refine wpAny_bind (wpAny_cRoomFor hu ?_)
  refine wpAny_bind (wpAny_bind (I.type.here ((PySem.W.looks_findIn X hs).here ?_)))
  show wpAny _ _ (if (some (Value.ref f)).isNone = true then _ else _) _ _ _
  rw [if_neg (by simp)]
  have fin : wpAny (model prog w) A (call (.ref f) ([.ref x] ++ []) >>= fun v => pure (some v)) (fun r s' => wpAny (model prog w) A (match r with
      | some r => do if ← isInstance r (.type "str") then pure r else raiseError "TypeError" s!"__repr__ returned non-string (type {← typeNameOf r})"
      | none => unsupported "repr:special-get-raises") Q E s') E s := by
    refine wpAny_bind (wpAny_mono h (fun v s' hv => ?_) fun _ _ z => z)
    obtain ⟨m, tk, rfl, q⟩ := hv
    exact wpAny_pure (wpAny_bind (wpAny_isInstance (T := "str") (b := true) (typeIs_str _ _ _) isSubtype_str_str (wpAny_pure q)))
  refine wpAny_bind ?_
  simp only [callSpecialIfBoundBy?, bindSpecialIfBound?]
  refine wpAny_holding (wpAny_bind (wpAny_bind (wpAny_bind (I.type.here ((PySem.W.looks_findIn X hs).here ?_)))))
  refine wpAny_bind (wpAny_askSetting (wpAny_ite ?_))
  split
  · exact wpAny_bind ((PySem.W.bind_fn X _ (beq_iff_eq.mp hf)).here (wpAny_pure (by exact fin)))
  · exact wpAny_tryCatch (wpAny_bind ((PySem.W.bind_fn X _ (beq_iff_eq.mp hf)).here (wpAny_pure (by exact fin))))
end
theorem Room.guard {k : Nat} {A : Around} (r : Room (k + 1) A) (args : Args) : Room k (A.under (.builtin "tuple.__repr__" args)) := by
  have hd : (A.under (.builtin "tuple.__repr__" args)).depth ≤ A.depth + 1 := by
    first
      | exact Nat.le_refl _
      | exact Nat.le_succ _
      | simp [Around.under, Code.weight, Code.isCreation, Code.isGuard, Code.isCaller, Code.frames, Code.isFrame, guardIds]
  refine ⟨r.hd, by have := r.dp; omega, ?_⟩
  have := r.un
  rw [units_under_tuple_repr]
  omega
theorem Env0.guard {P : Program} {w : World} {K : PySem.W.Frag} {mg : Str → Option Value} {base : Heap} {A : Around} {outer : List Env} {s : Shared} {H : Hp} (e : Env0 P w K mg base A outer s H) (args : Args) :
    Env0 P w K mg base (A.under (.builtin "tuple.__repr__" args)) outer s H := ⟨by first | exact e.frames | (simpa [Around.under, Code.envs, Code.isFrame, pushEnvs] using e.frames), e.mod, e.bs, e.bsz, e.funs, e.frf, e.hok, e.bare⟩
/-- repr((text, x)), x an own instance of the class at C whose __repr__ tells txt and leaves what is tracked -/
def rReprTO (K : PySem.W.Frag) (C : Addr) (sp : Sp) (txt : Str) : List V → Hp → VK → Prop := fun xs H Q => ∃ (a x dx : Addr) (z : Str) (fs : List (Str × V)), xs = [.ref a] ∧ SqT K H a [.str z, .ref x] ∧ H x = some (.ins C dx fs) ∧
  (reprText z).length ≤ 1000 ∧ (∀ Q1 : VK, (∀ H1, Same H H1 → Q1 (.str txt) H1) → sp [.ref x] H Q1 E0) ∧ ∀ H', Same H H' → Q (.str (tupleText [reprText z, txt])) H'
theorem sizeLine_1m : 1000010 < sizeLine := by decide
section
variable {X : Cx} {k : Nat} {f C : Addr} {fd : FuncData} {sp : Sp} {txt : Str} {px : Str}
theorem call_reprTO (gd : X.A.guards = some []) (G : FnOk X.prog X.w X.K X.mg X.base CX0 k f fd [px] sp) (hr : Room (k + 3) X.A) (hb : Binds X.K fd [px] [])
    (hs : PySem.W.findIn X.K (.ref C) "__repr__" = some (some (.ref f))) (hf : PySem.W.isFn X.K (.ref f) = true) (hl : txt.length ≤ 1000) :
    CallR X (.builtin "repr") (rReprTO X.K C sp txt) := by
  intro pins s σ H xs us Q I r h
  obtain ⟨a, x, dx, z, fs, rfl, ht, hx, hz, hsp, hq⟩ := h
  rw [Vals.ref1 r]
  have hbig := sizeLine_1m
  obtain ⟨its, rv, ⟨o, ho, hcls, n, hd⟩, _⟩ := I.tuple ht
  cases rv with
  | cons r1 rv =>
  cases rv with
  | cons r2 rv =>
  cases rv with
  | nil =>
  rename_i u1 u2
  obtain ⟨tk1, rfl⟩ := r1
  cases r2
  obtain ⟨mA, O, _, _, _, _⟩ := ins_get I.hok hx
  obtain ⟨od, J, _⟩ := O.look
  have hu := hr.un
  refine call_repr_slot (by omega) ⟨o, ho, hcls⟩ F.slot_tuple_repr ?_
  refine wpAny_call (codeAny_call_builtin_own (Code.quiet_builtin _ (by decide +kernel)) F.entry_tuple_repr (F.slot_tuple_repr.check _ _ _ _ _ _ _ _ ⟨o, ho, hcls⟩ (F.args_tuple_repr_1 _) ?_))
  show wpOwn _ _ _ (Builtin.tupleReprAt 0 ⟨[.ref a], []⟩) _ _ _
  rw [tuple_repr_tree, tupleReprUnderWay_eq]
  refine wpOwn_bind (wpOwn_stackTailAny (g := []) gd (tupGuardF_off _) (tupGuardF_pos _) ?_)
  show wpOwn _ _ _ (if false = true then _ else _) _ _ _
  rw [if_neg Bool.false_ne_true]
  refine wpOwn_of_wpAny ?_
  unfold tupleReprRest Builtin.Tuple.tupleItemsOf
  refine wpAny_bind (wpAny_bind (wpAny_seqItems ho hd (wpAny_pure ?_)))
  rw [← Array.forIn_toList]
  refine wpAny_bind ?_
  show wpAny _ _ (forIn [Value.str z tk1, Value.ref x] _ tupBody) _ _ _
  rw [List.forIn_cons]
  refine wpAny_bind (wpAny_bind (ReprIs.str z tk1 (by omega) 1 (by omega) _ _ _ _ fun tk => wpAny_pure ?_))
  show wpAny _ _ (forIn [Value.ref x] _ tupBody) _ _ _
  rw [List.forIn_cons]
  have I2 := I.tok tk
  have hr' : Room (k + 1) (X.A.in1.under (.builtin "tuple.__repr__" ⟨[.ref a], []⟩)) := Room.guard hr.in1 _
  have b' := hb { s with toks := tk } [.ref x] I2.kIn rfl
  rw [List.append_nil] at b'
  refine wpAny_bind (wpAny_bind (wpAny_pyReprUnder_ref (by show 0 + ((reprText z).length + 2) + 1 ≤ sizeLine; omega) (under_own (by have := hr'.un; omega) I2.kIn J hs hf ?_)))
  have run := G.run _ X.stack { s with toks := tk } H ⟨[.ref x], []⟩ [.ref x] [.ref x] _ E0 (hr'.mono (Nat.le_succ k)) (Env0.guard I2.env0.in1 _) b' (.cons rfl .nil) (hsp (fun v H1 => v = .str txt ∧ Same H H1) fun H1 s1 => ⟨rfl, s1⟩)
  refine wpAny_call (codeAny_mono run ?_)
  intro rr s2 hq2
  cases rr with
  | error e => exact hq2.elim
  | ok fl =>
    cases fl with
    | next => exact hq2.elim
    | brk => exact hq2.elim
    | cont => exact hq2.elim
    | ret u =>
      obtain ⟨y, H2, J2, ry, ey, sm2⟩ := I2.after hq2
      subst ey
      obtain ⟨tk2, rfl⟩ := ry
      refine ⟨txt, tk2, rfl, txt, tk2, rfl, wpAny_pure ?_⟩
      show wpAny _ _ (forIn [] _ tupBody) _ _ _
      rw [List.forIn_nil]
      refine wpAny_pure ?_
      refine wpAny_bind (wpAny_mkStr (wpAny_pure ?_) ?_)
      · exact ⟨_, _, rfl, .str (tupleText [reprText z, txt]), H2, J2.tok _, ⟨_, rfl⟩, hq H2 sm2⟩
      · show (tupleText [reprText z, txt]).length ≤ sizeLine
        have e : tupleText [reprText z, txt] = ("(" : Str) ++ (reprText z ++ ", " ++ txt) ++ ")" := rfl
        have e1 : ((("(" : String) : Str)).length = 1 := rfl
        have e2 : (((", " : String) : Str)).length = 2 := rfl
        have e3 : (((")" : String) : Str)).length = 1 := rfl
        rw [e, strLen_append, strLen_append, strLen_append, strLen_append, e1, e2, e3]
        omega
end
end LF

set_option Elab.async false
set_option linter.all false
set_option maxRecDepth 100000
set_option maxHeartbeats 4000000
namespace LF
open PySem PySem.Spec PyProof.Rows L2
/-- None, bools, ints, texts -/
def isAtom : V → Bool
  | .non => true
  | .bl _ => true
  | .int _ => true
  | .str _ => true
  | _ => false
def atomD : V → PyData
  | .bl b => .bool b
  | .int i => .int i
  | .str x => .str x
  | _ => .none
def kD : Key → PyData
  | .inl i => .int i
  | .inr x => .str x
theorem reads_atom {h : Heap} : ∀ {v : V} {u : Value}, isAtom v = true → RelV v u → Reads h u (atomD v) []
  | .non, _, _, r => by cases r; exact Reads.none
  | .bl b, _, _, r => by cases r; exact Reads.bool b
  | .int i, _, _, r => by obtain ⟨t, rfl⟩ := r; exact Reads.int i t
  | .str x, _, _, r => by obtain ⟨t, rfl⟩ := r; exact Reads.str x t
  | .ref _, _, a, _ => nomatch a
  | .flt _, _, a, _ => nomatch a
  | .byt _, _, a, _ => nomatch a
  | .ty _, _, a, _ => nomatch a
theorem reads_key {h : Heap} {k : Key} {v : Value} (e : keyIs k v = true) : Reads h v (kD k) [] := by
  rcases keyIs_shape e with ⟨i, t, rfl, rfl⟩ | ⟨x, t, rfl, rfl⟩
  · exact Reads.int i t
  · exact Reads.str x t
theorem reads_pairs {P : Program} {w : World} {h : Heap} : ∀ {es : List DictEntry} {vs : List (Key × Value)} {kvs : List (Key × V)}, Pairs (mixKind P w) es vs → KV kvs vs → (∀ q ∈ kvs, isAtom q.2 = true) →
    ReadsAll h (es.map (·.key)) (kvs.map fun q => kD q.1) [] ∧ ReadsAll h (es.map (·.val)) (kvs.map fun q => atomD q.2) []
  | _, _, _, .nil, .nil, _ => ⟨.nil, .nil⟩
  | _, _, _, .cons (e := e) (kv := kv) h1 h2 t, .cons (a := q) r rs, ha => by
    obtain ⟨i1, i2⟩ := reads_pairs (h := h) t rs fun q hq => ha q (List.mem_cons_of_mem _ hq)
    obtain ⟨e1, e2⟩ := r
    have k1 : Reads h e.key (kD q.1) [] := by rw [e1]; exact reads_key h1
    have k2 : Reads h e.val (atomD q.2) [] := by rw [h2]; exact reads_atom (ha q List.mem_cons_self) e2
    exact ⟨ReadsAll.cons k1 i1, ReadsAll.cons k2 i2⟩
def dictD (kvs : List (Key × V)) : PyData := .dict (kvs.map fun q => (kD q.1, atomD q.2))
theorem reads_dict {P : Program} {w : World} {H : Hp} {h : Heap} {p : Addr} {kvs : List (Key × V)} (ok : HOk P w H h) (e : H p = some (.dK kvs)) (ha : ∀ q ∈ kvs, isAtom q.2 = true) :
    Reads h (.ref p) (dictD kvs) [p] ∧ (p == sysModules) = false := by
  obtain ⟨_, lo, vs, rel, o, es, ep, ho, hx, hd, _, hp, _⟩ := dk_of ok e
  obtain ⟨i1, i2⟩ := reads_pairs (h := h) hp rel ha
  refine ⟨?_, lo⟩
  have := Reads.dict (kvs := kvs.map fun q => (kD q.1, atomD q.2)) ho hx.1 hd (by rw [List.map_map]; exact i1) (by rw [List.map_map]; exact i2)
  exact this
/-- repr((text, d)), d a dict of ints, texts and None -/
def rReprTD (K : PySem.W.Frag) : List V → Hp → VK → Prop := fun xs H Q => ∃ (a p : Addr) (z : Str) (kvs : List (Key × V)), xs = [.ref a] ∧ SqT K H a [.str z, .ref p] ∧ H p = some (.dK kvs) ∧ (∀ q ∈ kvs, isAtom q.2 = true) ∧
  (PyData.tuple [.str z, dictD kvs]).showable = true ∧ (PyData.tuple [.str z, dictD kvs]).depth ≤ 60 ∧ (PyData.tuple [.str z, dictD kvs]).shown.length ≤ sizeLine ∧ Q (.str (PyData.tuple [.str z, dictD kvs]).shown) H
theorem call_reprTD {X : Cx} (gd : X.A.guards = some []) (hu : X.A.units + 64 < cLine) : CallR X (.builtin "repr") (rReprTD X.K) := by
  intro pins s σ H xs us Q I r h
  obtain ⟨a, p, z, kvs, rfl, ht, hp, ha, hs, hdp, hz, q⟩ := h
  rw [Vals.ref1 r]
  obtain ⟨its, rv, ⟨o, ho, hcls, n, hd⟩, _⟩ := I.tuple ht
  cases rv with
  | cons r1 rv =>
  cases rv with
  | cons r2 rv =>
  cases rv with
  | nil =>
  rename_i u1 u2
  obtain ⟨tk1, rfl⟩ := r1
  cases r2
  obtain ⟨rd, lo⟩ := reads_dict I.hok hp ha
  have R : Reads s.heap (.ref a) (.tuple [.str z, dictD kvs]) ([] ++ ([p] ++ [])) := Reads.tuple ho hcls hd (ReadsAll.cons (Reads.str z tk1) (ReadsAll.cons rd ReadsAll.nil))
  refine repr_of_reads' R hs (fun _ hm => ?_) gd (by omega) (fun _ _ e => e) (fun h' u tk hk => ⟨.str _, H, I.kept (t' := tk) hk, ⟨_, rfl⟩, q⟩) hz
  have : sysModules = p := by simpa using hm
  rw [this] at lo
  simp at lo
end LF

set_option Elab.async false
set_option linter.all false
set_option maxRecDepth 100000
set_option maxHeartbeats 4000000
namespace LF
open PySem PySem.Spec PyProof.Rows L2
theorem fold_reps (a : Array Nat) : ∀ (k : Nat) (acc : Array Nat), ((List.replicate k a).foldl (· ++ ·) acc).size = acc.size + k * a.size ∧ ∀ c ∈ ((List.replicate k a).foldl (· ++ ·) acc).toList, c ∈ acc.toList ∨ c ∈ a.toList
  | 0, acc => ⟨by simp, fun c hc => Or.inl hc⟩
  | k + 1, acc => by
    obtain ⟨h1, h2⟩ := fold_reps a k (acc ++ a)
    rw [List.replicate_succ, List.foldl_cons]
    refine ⟨by rw [h1, Array.size_append, Nat.succ_mul]; omega, fun c hc => ?_⟩
    rcases h2 c hc with q | q
    · rw [Array.toList_append] at q
      exact List.mem_append.mp q
    · exact Or.inr q
theorem mul_len {z : Str} {n : Int} (h : 1 ≤ n) : (Txt.mul z n).length = z.length * n.toNat ∧ ∀ c ∈ (Txt.mul z n).cps.toList, c ∈ z.cps.toList := by
  unfold Txt.mul
  rw [if_neg (by omega)]
  split
  · rename_i hc
    rw [Bool.or_eq_true, beq_iff_eq, beq_iff_eq] at hc
    refine ⟨?_, fun c hc => hc⟩
    rcases hc with e | e
    · subst e; simp
    · rw [e]; simp
  · obtain ⟨h1, h2⟩ := fold_reps z.cps n.toNat #[]
    refine ⟨?_, fun c hc => ?_⟩
    · show ((List.replicate n.toNat z.cps).foldl (· ++ ·) #[]).size = z.cps.size * n.toNat
      rw [h1, Nat.mul_comm]; simp
    · rcases h2 c hc with q | q
      · simp at q
      · exact q
/-- a text times an int -/
def rMulS : R2 := fun x y H Q => ∃ (z : Str) (n : Int), x = .str z ∧ y = .int n ∧ 1 ≤ n ∧ n ≤ 1000 ∧ z.length ≤ 1000 ∧ ∀ r : Str, r.length = z.length * n.toNat → (∀ c ∈ r.cps.toList, c ∈ z.cps.toList) → Q (.str r) H
theorem op_mulS {X : Cx} : OpR X (binaryOp .Mult) rMulS := by
  intro pins s σ H x y v u Q I rx ry h
  obtain ⟨z, n, rfl, rfl, h1, h2, h3, q⟩ := h
  obtain ⟨t, rfl⟩ := rx
  obtain ⟨t', rfl⟩ := ry
  obtain ⟨l1, l2⟩ := mul_len (z := z) h1
  have hm : z.length * n.toNat ≤ 1000 * 1000 := Nat.mul_le_mul h3 (by omega)
  refine SB.mul ⟨?_, fun _ _ => ?_, fun _ _ => ?_⟩ fun t' k => ⟨.str _, H, I.tok _, ⟨_, rfl⟩, q _ l1 l2⟩
  · rw [decide_eq_false (by omega), decide_eq_false (by omega)]; rfl
  · have : (1000 : Int) ≤ (2 ^ 63 - 1) / n := Int.le_ediv_of_mul_le (by omega) (by omega)
    omega
  · have hs : 1000 * 1000 ≤ sizeLine := by decide
    have : ¬ (z.length * n.toNat > sizeLine) := by omega
    unfold Builtin.Str.tooLong
    exact decide_eq_false this
end LF

set_option Elab.async false
set_option linter.all false
set_option maxRecDepth 100000
set_option maxHeartbeats 4000000
namespace LF
open PySem PySem.Spec PyProof.Rows L2
/-- code that is never come to -/
theorem pe_never {X : Cx} {e : Expr} : PE X e (fun _ _ _ => False) := ⟨fun _ _ _ _ _ _ h => h.elim⟩
theorem pt_never {X : Cx} {e : Expr} : PT X e (fun _ _ _ => False) := ⟨fun _ _ _ _ _ _ h => h.elim⟩
end LF
namespace K6
open PySem PySem.Spec PyProof.Rows L2 LF
def digs : Str := "0123456789"
/-- further constants that the top has written -/
structure Nums (K : PySem.W.Frag) (mg : Str → Option Value) : Prop where
  names : ∃ tk, mg "MOST_NAMES" = some (.int 10 tk)
  tnames : ∃ tk, mg "MOST_TARGET_NAMES" = some (.int 8 tk)
  digits : ∃ tk, mg "MOST_DIGITS" = some (.int 12 tk)
  great : ∃ tk, mg "GREATEST_CONTENT" = some (.int 999999999999 tk)
  signs : ∃ tk, mg "DIGITS" = some (.str digs tk)
def contentV : V → Bool
  | .int i => decide ((if i < 0 then -i else i) ≤ 999999999999)
  | _ => false
def isTg (t : Str) : Bool := isPt t && decide ((parts t).length ≤ 8)
def isPl (t : Str) : Bool := isPt t && decide (1 ≤ (parts t).length ∧ (parts t).length ≤ 10)
def targetV : V → Bool
  | .str t => isTg t
  | _ => false
def itemV : V → Bool
  | .non => true
  | v => contentV v || targetV v
/-- None, an int, a text -/
def Plain (v : V) : Prop := v = .non ∨ (∃ i, v = .int i) ∨ ∃ z : Str, v = .str z ∧ z.length ≤ 1000000
def spV (g : V → Bool) : Sp := fun vs H Q _ => ∃ x, vs = [x] ∧ Plain x ∧ ∀ H', Same H H' → Q (.bl (g x)) H'
def spS (g : Str → Bool) : Sp := fun vs H Q _ => ∃ z : Str, vs = [.str z] ∧ z.length ≤ 1000000 ∧ ∀ H', Same H H' → Q (.bl (g z)) H'
abbrev s_is_integer : Stmt := topS 22
theorem sc_is_integer : FnScope ["thing"] ["thing"] (defScope s_is_integer) := ⟨rfl, rfl, rfl, by decide +kernel, rfl, by decide +kernel, by decide +kernel⟩
def integerV : V → Bool
  | .int _ => true
  | _ => false
abbrev s_is_content : Stmt := topS 29
theorem sc_is_content : FnScope ["thing"] ["thing"] (defScope s_is_content) := ⟨rfl, rfl, rfl, by decide +kernel, rfl, by decide +kernel, by decide +kernel⟩
abbrev s_is_target : Stmt := topS 30
theorem sc_is_target : FnScope ["thing"] ["thing"] (defScope s_is_target) := ⟨rfl, rfl, rfl, by decide +kernel, rfl, by decide +kernel, by decide +kernel⟩
abbrev s_is_place : Stmt := topS 31
theorem sc_is_place : FnScope ["thing"] ["thing"] (defScope s_is_place) := ⟨rfl, rfl, rfl, by decide +kernel, rfl, by decide +kernel, by decide +kernel⟩
abbrev s_is_item : Stmt := topS 32
theorem sc_is_item : FnScope ["thing"] ["thing"] (defScope s_is_item) := ⟨rfl, rfl, rfl, by decide +kernel, rfl, by decide +kernel, by decide +kernel⟩
theorem plain_ok {K : PySem.W.Frag} {H : Hp} {x : V} (h : Plain x) : isOk K H x isPt (match x with | .str z => isPt z | _ => false) := by
  rcases h with rfl | ⟨i, rfl⟩ | ⟨z, rfl, hz⟩
  · exact Or.inr ⟨⟨_, .base .non, kit_no (t := "NoneType") (by simp [notStr])⟩, rfl⟩
  · exact Or.inr ⟨⟨_, .base (.int i), kit_no (t := "int") (by simp [notStr])⟩, rfl⟩
  · exact Or.inl ⟨z, rfl, hz, rfl⟩
section
variable {P : Program} {w : World} {K : PySem.W.Frag} {mg : Str → Option Value} {base : Heap} {tk1 tk2 : Tok}
theorem ok_is_integer {f : Addr} {fd : FuncData} (F : Fun K "is_integer" "is_integer" s_is_integer f fd) (T : Txt K mg tk1 tk2) : FnOk P w K mg base CX0 1 f fd ["thing"] (spV integerV) := by
  refine F.ok sc_is_integer (fun vs H Q E h => ?_) (fun cdv A outer s H vs Q E hr h => ?_)
  · obtain ⟨x, rfl, _⟩ := h
    rfl
  refine ⟨_, (pss_one (ps_ret (pe_and (pe_callB call_isi (by rfl) T.n_isinstance (by decide +kernel) (pa_cons (pv 0) (pa_cons (pe_bltn (v := .ty "int") (by rfl) T.n_int (by decide +kernel) rfl) pa_nil))) (pe_one (pe_not (pe_callB call_isi (by rfl) T.n_isinstance (by decide +kernel) (pa_cons (pv 0) (pa_cons (pe_bltn (v := .ty "bool") (by rfl) T.n_bool (by decide +kernel) rfl) pa_nil)))))))), ?_⟩
  obtain ⟨x, rfl, hx, hq⟩ := h
  rcases hx with rfl | ⟨i, rfl⟩ | ⟨z, rfl, hz⟩
  · refine ⟨_, rfl, _, .ty "int", _, _, false, rfl, .ty _, .base .non, kit_ty (by decide +kernel), ?_⟩
    exact ⟨_, rfl, iteF (hq H (Same.refl H))⟩
  · refine ⟨_, rfl, _, .ty "int", _, _, true, rfl, .ty _, .base (.int i), kit_ty (by decide +kernel), ?_⟩
    refine ⟨_, rfl, iteT ?_⟩
    refine ⟨_, rfl, _, .ty "bool", _, _, false, rfl, .ty _, .base (.int i), kit_ty (by decide +kernel), ?_⟩
    exact ⟨_, rfl, hq H (Same.refl H)⟩
  · refine ⟨_, rfl, _, .ty "int", _, _, false, rfl, .ty _, .base (.str z), kit_ty (by decide +kernel), ?_⟩
    exact ⟨_, rfl, iteF (hq H (Same.refl H))⟩
theorem ok_is_content {f f1 : Addr} {fd fd1 : FuncData} (F : Fun K "is_content" "is_content" s_is_content f fd) (T : Txt K mg tk1 tk2) (N : Nums K mg) (d_int : DefAt P w K mg base "is_integer" 1 f1 fd1 ["thing"] (spV integerV)) : FnOk P w K mg base CX0 2 f fd ["thing"] (spV contentV) := by
  obtain ⟨tg, hg⟩ := N.great
  refine F.ok sc_is_content (fun vs H Q E h => ?_) (fun cdv A outer s H vs Q E hr h => ?_)
  · obtain ⟨x, rfl, _⟩ := h
    rfl
  refine ⟨_, (pss_one (ps_ret (pe_and (pe_callD d_int (hr.mono (by decide)) (pa_cons (pv 0) pa_nil)) (pe_one (pe_cmpR op_le (pe_callB call_abs (by rfl) T.n_abs (by decide +kernel) (pa_cons (pv 0) pa_nil)) (pe_glob (v := .int 999999999999) rfl hg ⟨_, rfl⟩) (nomark _)))))), ?_⟩
  obtain ⟨x, rfl, hx, hq⟩ := h
  refine ⟨_, rfl, x, rfl, hx, fun H1 s1 => ⟨_, rfl, ?_⟩⟩
  rcases hx with rfl | ⟨i, rfl⟩ | ⟨z, rfl, hz⟩
  · exact iteF (hq H1 s1)
  · exact iteT ⟨_, rfl, _, rfl, _, _, rfl, rfl, hq H1 s1⟩
  · exact iteF (hq H1 s1)
theorem ok_is_target {f f1 f2 : Addr} {fd fd1 fd2 : FuncData} (F : Fun K "is_target" "is_target" s_is_target f fd) (T : Txt K mg tk1 tk2) (N : Nums K mg) (d_is_path : DefAt P w K mg base "is_path" 2 f1 fd1 ["thing"] (spPath K)) (d_split : DefAt P w K mg base "split_path" 1 f2 fd2 ["path"] spSplit) :
    FnOk P w K mg base CX0 3 f fd ["thing"] (spV targetV) := by
  obtain ⟨tg, hg⟩ := N.tnames
  refine F.ok sc_is_target (fun vs H Q E h => ?_) (fun cdv A outer s H vs Q E hr h => ?_)
  · obtain ⟨x, rfl, _⟩ := h
    rfl
  refine ⟨_, (pss_one (ps_ret (pe_and (pe_callD d_is_path (hr.mono (by decide)) (pa_cons (pv 0) pa_nil)) (pe_one (pe_cmpR op_le (pe_callB call_len_seq (by rfl) T.n_len (by decide +kernel) (pa_cons (pe_callD d_split (hr.mono (by decide)) (pa_cons (pv 0) pa_nil)) pa_nil)) (pe_glob (v := .int 8) rfl hg ⟨_, rfl⟩) (nomark _)))))), ?_⟩
  obtain ⟨x, rfl, hx, hq⟩ := h
  refine ⟨_, rfl, x, _, rfl, plain_ok hx, fun H1 s1 => ⟨_, rfl, ?_⟩⟩
  rcases hx with rfl | ⟨i, rfl⟩ | ⟨z, rfl, hz⟩
  · exact iteF (hq H1 s1)
  · exact iteF (hq H1 s1)
  · have hfin : ∀ b : Bool, isTg z = b → ∀ H', Same H H' → Q (.bl b) H' := fun b e H' s' => by have h0 : Q (.bl (isTg z)) H' := hq H' s'; rw [e] at h0; exact h0
    show if isPt z = true then _ else _
    cases hb : isPt z with
    | false => exact iteF (hfin false (by unfold isTg; rw [hb]; rfl) H1 s1)
    | true =>
      refine iteT ⟨_, rfl, z, rfl, hz, fun H2 p s2 np hp => ?_⟩
      refine ⟨p, _, rfl, Or.inl (SqL.of hp), _, _, rfl, rfl, ?_⟩
      rw [List.length_map]
      refine hfin _ ?_ H2 (s1.trans s2)
      unfold isTg
      rw [hb, Bool.true_and]
      by_cases h8 : (parts z).length ≤ 8
      · rw [decide_eq_true h8]; exact (decide_eq_true (by omega)).symm
      · rw [decide_eq_false h8]; exact (decide_eq_false (by omega)).symm
theorem ok_is_place {f f1 f2 : Addr} {fd fd1 fd2 : FuncData} (F : Fun K "is_place" "is_place" s_is_place f fd) (T : Txt K mg tk1 tk2) (N : Nums K mg) (d_is_path : DefAt P w K mg base "is_path" 2 f1 fd1 ["thing"] (spPath K)) (d_split : DefAt P w K mg base "split_path" 1 f2 fd2 ["path"] spSplit) :
    FnOk P w K mg base CX0 3 f fd ["thing"] (spS isPl) := by
  obtain ⟨tg, hg⟩ := N.names
  refine F.ok sc_is_place (fun vs H Q E h => ?_) (fun cdv A outer s H vs Q E hr h => ?_)
  · obtain ⟨z, rfl, _⟩ := h
    rfl
  refine ⟨_, (pss_one (ps_ret (pe_and (pe_callD d_is_path (hr.mono (by decide)) (pa_cons (pv 0) pa_nil)) (pe_one (pe_chain op_le op_le pe_int (pe_callB call_len_seq (by rfl) T.n_len (by decide +kernel) (pa_cons (pe_callD d_split (hr.mono (by decide)) (pa_cons (pv 0) pa_nil)) pa_nil)) (pe_glob (v := .int 10) rfl hg ⟨_, rfl⟩)))))), ?_⟩
  obtain ⟨z, rfl, hz, hq⟩ := h
  refine ⟨_, rfl, .str z, _, rfl, Or.inl ⟨z, rfl, hz, rfl⟩, fun H1 s1 => ⟨_, rfl, ?_⟩⟩
  have hfin : ∀ b : Bool, isPl z = b → ∀ H', Same H H' → Q (.bl b) H' := fun b e H' s' => by have := hq H' s'; rw [e] at this; exact this
  cases hb : isPt z with
  | false => exact iteF (hfin false (by unfold isPl; rw [hb]; rfl) H1 s1)
  | true =>
    refine iteT ⟨_, rfl, z, rfl, hz, fun H2 p s2 np hp => ?_⟩
    refine ⟨p, _, rfl, Or.inl (SqL.of hp), _, _, rfl, rfl, _, rfl, ?_⟩
    rw [List.length_map]
    have e : isPl z = decide (1 ≤ (parts z).length ∧ (parts z).length ≤ 10) := by unfold isPl; rw [hb, Bool.true_and]
    refine ifD (fun h1 => ?_) (fun h1 => ?_)
    · refine ⟨_, _, rfl, rfl, ?_⟩
      refine hfin _ ?_ H2 (s1.trans s2)
      rw [e]
      by_cases h2 : (parts z).length ≤ 10
      · rw [decide_eq_true (show 1 ≤ (parts z).length ∧ (parts z).length ≤ 10 from ⟨by omega, h2⟩)]; exact (decide_eq_true (by omega)).symm
      · rw [decide_eq_false (fun q => h2 q.2)]; exact (decide_eq_false (by omega)).symm
    · exact hfin false (by rw [e]; exact decide_eq_false (fun q => h1 (by omega))) H2 (s1.trans s2)
theorem ok_is_item {f f1 f2 : Addr} {fd fd1 fd2 : FuncData} (F : Fun K "is_item" "is_item" s_is_item f fd) (d_c : DefAt P w K mg base "is_content" 2 f1 fd1 ["thing"] (spV contentV)) (d_t : DefAt P w K mg base "is_target" 3 f2 fd2 ["thing"] (spV targetV)) :
    FnOk P w K mg base CX0 4 f fd ["thing"] (spV itemV) := by
  refine F.ok sc_is_item (fun vs H Q E h => ?_) (fun cdv A outer s H vs Q E hr h => ?_)
  · obtain ⟨x, rfl, _⟩ := h
    rfl
  refine ⟨_, (pss_one (ps_ret (pe_or (pe_cmpR op_isN (pv 0) pe_non (nomark _)) (pe_or (pe_callD d_c (hr.mono (by decide)) (pa_cons (pv 0) pa_nil)) (pe_one (pe_callD d_t (hr.mono (by decide)) (pa_cons (pv 0) pa_nil))))))), ?_⟩
  obtain ⟨x, rfl, hx, hq⟩ := h
  refine ⟨_, rfl, rfl, _, rfl, ?_⟩
  refine ifD (fun h1 => ?_) (fun h1 => ?_)
  · subst h1; exact hq H (Same.refl H)
  · have e : itemV x = (contentV x || targetV x) := by
      rcases hx with rfl | ⟨i, rfl⟩ | ⟨z, rfl, hz⟩
      · exact absurd rfl h1
      · rfl
      · rfl
    rw [e] at hq
    refine ⟨_, rfl, x, rfl, hx, fun H1 s1 => ⟨_, rfl, ?_⟩⟩
    cases hc : contentV x with
    | true => rw [hc] at hq; exact iteT (hq H1 s1)
    | false =>
      rw [hc] at hq
      exact iteF ⟨_, rfl, x, rfl, hx, fun H2 s2 => hq H2 (s1.trans s2)⟩
end
end K6

set_option Elab.async false
set_option linter.all false
set_option maxRecDepth 100000
set_option maxHeartbeats 4000000
namespace K6
open PySem PySem.Spec PyProof.Rows L2 LF
/-- what content_of hands back: none where nothing is said -/
def contentS (z : Str) : Option (Option Int) :=
  let d := PySem.Txt.removeprefix z "-"
  if 1000000 < d.length then none
  else if 12 < d.length ∨ d = "" then some none
  else if (d.cps.toList.map fun c => decide (c ∈ digs.cps.toList)).all id = true then
    match PySem.intText? z with
    | none => none
    | some n => if z.length ≤ 640 ∧ n.natAbs.log2 < 1920 then some (if (Str.ofString (toString n)) = z then some n else none) else none
  else some none
def targetS (z : Str) : Option Str := if z = "." then some "" else if z = "" then none else if isTg z = true then some z else none
def intV : Option Int → V
  | none => .non
  | some n => .int n
def strV : Option Str → V
  | none => .non
  | some n => .str n
def spCo : Sp := fun vs H Q _ => ∃ (z : Str) (r : Option Int), vs = [.str z] ∧ z.length ≤ 1000000 ∧ contentS z = some r ∧ ∀ H', Same H H' → Q (intV r) H'
def spTa : Sp := fun vs H Q _ => ∃ (z : Str), vs = [.str z] ∧ z.length ≤ 1000000 ∧ ∀ H', Same H H' → Q (strV (targetS z)) H'
abbrev s_content_of : Stmt := topS 41
abbrev N_content_of : List Str := ["word", "digits", "digit", "number"]
theorem sc_content_of : FnScope ["word", "digits", "digit", "number"] ["word"] (defScope s_content_of) := ⟨rfl, rfl, rfl, by decide +kernel, rfl, by decide +kernel, by decide +kernel⟩
abbrev s_target_of : Stmt := topS 42
theorem sc_target_of : FnScope ["word"] ["word"] (defScope s_target_of) := ⟨rfl, rfl, rfl, by decide +kernel, rfl, by decide +kernel, by decide +kernel⟩
section
variable {P : Program} {w : World} {K : PySem.W.Frag} {mg : Str → Option Value} {base : Heap} {tk1 tk2 : Tok}
theorem ok_content_of {f : Addr} {fd : FuncData} (F : Fun K "content_of" "content_of" s_content_of f fd) (T : Txt K mg tk1 tk2) (N : Nums K mg) : FnOk P w K mg base CX0 1 f fd ["word"] spCo := by
  obtain ⟨t1, g1⟩ := N.digits
  obtain ⟨t2, g2⟩ := N.signs
  refine F.ok sc_content_of (fun vs H Q E h => ?_) (fun cdv A outer s H vs Q E hr h => ?_)
  · obtain ⟨z, r, rfl, _⟩ := h
    rfl
  refine ⟨_, (pss_cons (ps_set (i := 1) sc_content_of.nd rfl (Or.inl rfl) (pe_m1 PySem.F.slot_str_removeprefix PySem.F.type_str_removeprefix mt_removeprefix (pv 0) pe_str rfl rfl rfl))
    (pss_cons (ps_if (PW.pt (pw_or (pt_cmpR op_gt (pe_callB call_len_str (by rfl) T.n_len (by decide +kernel) (pa_cons (pv 1) pa_nil)) (pe_glob (v := .int 12) rfl g1 ⟨_, rfl⟩) (nomark _)) (pw_or1 (pt_cmpR op_eq (pv 1) pe_str (nomark _))))) (pss_one (ps_ret pe_non)) pss_nil)
    (pss_cons (ps_if (pt_not (pt_val (pe_callB (cr_all rfl) (by rfl) T.n_all (by decide +kernel) (pa_cons (pe_lc (own := [("digit", 2)]) rfl sc_content_of.nd (pi_str (pv 1)) (blkOk_by (N := N_content_of) (sc := defScope s_content_of) (by decide +kernel)) (fun _ _ _ _ _ => pg_name (i := 2) sc_content_of.nd rfl (Or.inl rfl)) (fun _ _ _ _ _ => pts_nil) (fun _ _ _ _ _ => (pe_cmpR op_in_sign (pv 2) (pe_glob (v := .str digs) rfl g2 ⟨_, rfl⟩) (by rfl)))) pa_nil)))) (pss_one (ps_ret pe_non)) pss_nil)
    (pss_cons (ps_set (i := 3) sc_content_of.nd rfl (Or.inl rfl) (pe_callTy call_int_str (by rfl) T.n_int (by decide +kernel) (pa_cons (pv 0) pa_nil)))
    (pss_cons (ps_if (pt_cmpR op_ne (pe_callTy call_str_int (by rfl) T.n_str (by decide +kernel) (pa_cons (pv 3) pa_nil)) (pv 0) (nomark _)) (pss_one (ps_ret pe_non)) pss_nil)
    (pss_one (ps_ret (pv 3)))))))), ?_⟩
  obtain ⟨z, r, rfl, hz, hc, hq⟩ := h
  unfold contentS at hc
  have big : 1000000 ≤ sizeLine := by decide
  refine ⟨_, rfl, ⟨_, rfl⟩, z, _, rfl, rfl, by omega, ?_⟩
  generalize PySem.Txt.removeprefix z "-" = d at hc
  simp only at hc
  by_cases h1 : 1000000 < d.length
  · rw [if_pos h1] at hc; cases hc
  rw [if_neg h1] at hc
  have hd : d.length ≤ sizeLine := by omega
  refine ⟨_, rfl, d, rfl, hd, _, _, rfl, rfl, _, rfl, ?_⟩
  by_cases h2 : 12 < d.length ∨ d = ""
  · rw [if_pos h2] at hc
    cases hc
    refine ifD (fun _ => hq H (Same.refl H)) (fun h3 => ?_)
    refine ⟨_, rfl, rfl, _, rfl, ?_⟩
    rw [str_dec]
    refine ifD (fun _ => hq H (Same.refl H)) (fun h4 => ?_)
    rcases h2 with h2 | h2
    · exact absurd (show (12 : Int) < (d.length : Int) by omega) h3
    · exact absurd h2 h4
  · rw [if_neg h2] at hc
    refine ifD (fun h3 => absurd (Or.inl (show 12 < d.length by omega)) h2) (fun _ => ?_)
    refine ⟨_, rfl, rfl, _, rfl, ?_⟩
    rw [str_dec]
    refine ifD (fun h4 => absurd (Or.inr h4) h2) (fun _ => ?_)
    refine ⟨_, rfl, d, rfl, fun D hD => lc_it walk_str (fun i H' => Same H H' ∧ H' D = some (.lst ((d.cps.toList.take i).map fun c => V.bl (decide (c ∈ digs.cps.toList)))))
      ⟨fun b o e => by rw [upd_ne (ne_of_none e hD)]; exact e, by rw [upd_same]; rfl⟩ (fun _ _ _ _ => trivial) ?_ ?_⟩
    · rintro i x H1 H2 hi ⟨sm, hd⟩ ⟨rfl, c, hcc, rfl⟩
      have hcl : d.cps.toList[i]? = some c := by simpa using hcc
      refine ⟨rfl, _, rfl, c, digs, rfl, rfl, _, hd, ?_, fun b o e => ?_, ?_⟩
      · rw [List.length_map, List.length_take]
        refine Nat.lt_of_le_of_lt (Nat.le_trans (Nat.min_le_right _ _) (show d.cps.toList.length ≤ 1000000 from ?_)) (by decide)
        have e : d.cps.toList.length = d.length := by simp [Str.length]
        omega
      · rw [upd_ne (ne_of_none e hD)]; exact sm b o e
      · rw [upd_same, List.take_add_one, hcl]; simp
    · rintro H1 ⟨sm, hd1⟩
      refine ⟨D, d.cps.toList.map (fun c => decide (c ∈ digs.cps.toList)), rfl, SqL.of ?_, ?_⟩
      · rw [hd1, List.take_of_length_le (by simp), List.map_map]; rfl
      refine ⟨_, rfl, ?_⟩
      cases hb : (d.cps.toList.map fun c => decide (c ∈ digs.cps.toList)).all id with
      | false =>
        rw [hb, if_neg Bool.false_ne_true] at hc
        cases hc
        exact iteT (hq H1 sm)
      | true =>
        rw [hb, if_pos rfl] at hc
        refine iteF ?_
        cases hi : PySem.intText? z with
        | none => rw [hi] at hc; cases hc
        | some n =>
          rw [hi] at hc
          simp only at hc
          by_cases h5 : z.length ≤ 640 ∧ n.natAbs.log2 < 1920
          · rw [if_pos h5] at hc
            refine ⟨_, rfl, z, n, rfl, hi, h5.1, ?_⟩
            refine ⟨_, rfl, n, rfl, h5.2, _, rfl, rfl, _, rfl, ?_⟩
            rw [str_dec]
            refine ifN (fun h6 => ?_) (fun h6 => ?_)
            · rw [if_pos h6] at hc
              cases hc
              exact ⟨_, rfl, hq H1 sm⟩
            · rw [if_neg h6] at hc
              cases hc
              exact hq H1 sm
          · rw [if_neg h5] at hc; cases hc
theorem ok_target_of {f f1 : Addr} {fd fd1 : FuncData} (F : Fun K "target_of" "target_of" s_target_of f fd) (d_t : DefAt P w K mg base "is_target" 3 f1 fd1 ["thing"] (spV targetV)) : FnOk P w K mg base CX0 4 f fd ["word"] spTa := by
  refine F.ok sc_target_of (fun vs H Q E h => ?_) (fun cdv A outer s H vs Q E hr h => ?_)
  · obtain ⟨z, rfl, _⟩ := h
    rfl
  refine ⟨_, (pss_cons (ps_if (pt_cmpR op_eq (pv 0) pe_str (nomark _)) (pss_one (ps_ret pe_str)) pss_nil)
    (pss_cons (ps_if (PW.pt (pw_or (pt_cmpR op_eq (pv 0) pe_str (nomark _)) (pw_or1 (pt_not (pt_val (pe_callD d_t (hr.mono (by decide)) (pa_cons (pv 0) pa_nil))))))) (pss_one (ps_ret pe_non)) pss_nil)
    (pss_one (ps_ret (pv 0))))), ?_⟩
  obtain ⟨z, rfl, hz, hq⟩ := h
  unfold targetS at hq
  refine ⟨_, rfl, rfl, _, rfl, ?_⟩
  rw [str_dec]
  refine ifD (fun h1 => ?_) (fun h1 => ?_)
  · rw [if_pos h1] at hq; exact hq H (Same.refl H)
  rw [if_neg h1] at hq
  refine ⟨_, rfl, rfl, _, rfl, ?_⟩
  rw [str_dec]
  refine ifD (fun h2 => ?_) (fun h2 => ?_)
  · rw [if_pos h2] at hq; exact hq H (Same.refl H)
  rw [if_neg h2] at hq
  refine ⟨_, rfl, .str z, rfl, Or.inr (Or.inr ⟨z, rfl, hz⟩), fun H1 s1 => ⟨_, rfl, ?_⟩⟩
  show if (!isTg z) = true then _ else _
  cases hb : isTg z with
  | false => rw [hb, if_neg Bool.false_ne_true] at hq; exact iteT (hq H1 s1)
  | true => rw [hb, if_pos rfl] at hq; exact iteF ⟨_, rfl, hq H1 s1⟩
end
end K6

set_option Elab.async false
set_option linter.all false
set_option maxRecDepth 100000
set_option maxHeartbeats 4000000
namespace LF
open PySem PySem.Spec PyProof.Rows L2 TL K6
def low (z : Str) : Prop := ∀ c ∈ z.cps.toList, c ∈ letters.cps.toList
theorem isNm_iff {z : Str} : isNm z = true ↔ (1 ≤ z.length ∧ z.length ≤ 8) ∧ low z := by
  unfold isNm low
  rw [Bool.and_eq_true, decide_eq_true_eq, List.all_eq_true]
  simp only [decide_eq_true_eq]
theorem sl_not_low : (47 : Nat) ∉ letters.cps.toList := by decide +kernel
theorem isNm_sl {z : Str} (h : isNm z = true) : 47 ∉ tl z := fun hm => sl_not_low ((isNm_iff.mp h).2 _ hm)
theorem tl_sl : tl c_sl = [47] := by decide +kernel
theorem kind_sl : c_sl.cps.all (· < 256) = true := by decide +kernel
theorem len_app (x y : Str) : (x ++ y).length = x.length + y.length := by
  rw [len_tl, len_tl, len_tl, tl_append, List.length_append]
theorem low_app {x y : Str} (hx : low x) (hy : low y) : low (x ++ y) := fun c hc => by
  have e := tl_append x y
  have hc' : c ∈ tl (x ++ y) := hc
  rw [e] at hc'
  exact (List.mem_append.mp hc').elim (hx c) (hy c)
theorem low_sub {x y : Str} (hx : low x) (h : ∀ c ∈ y.cps.toList, c ∈ x.cps.toList) : low y := fun c hc => hx c (h c hc)
theorem cut_mem (z : Str) (lo hi : Option Int) : ∀ c ∈ (cutS z lo hi).cps.toList, c ∈ z.cps.toList := fun c hc => by
  unfold cutS at hc
  exact List.mem_of_mem_drop (List.mem_of_mem_take (by simpa using hc))
theorem cut_to (z : Str) (i : Nat) (h : i ≤ z.length) : (cutS z none (some (i : Int))).length = i := by
  have e : z.cps.toList.length = z.length := by simp [Str.length]
  unfold cutS
  rw [HT.sIx_none, HT.sIx_nat]
  show (((z.cps.toList.drop 0).take (min i z.length - 0)).toArray).size = i
  rw [List.size_toArray, List.length_take, List.length_drop]
  omega
theorem cut_from (z : Str) (i : Nat) (h : i ≤ z.length) : (cutS z (some (i : Int)) none).length = z.length - i := by
  have e : z.cps.toList.length = z.length := by simp [Str.length]
  unfold cutS
  rw [HT.sIx_none, HT.sIx_nat]
  show (((z.cps.toList.drop (min i z.length)).take (z.length - min i z.length)).toArray).size = _
  rw [List.size_toArray, List.length_take, List.length_drop]
  omega
theorem join_nil_tl (ss : List Str) : tl (PySem.Txt.join "" ss) = (ss.map tl).flatten := by
  rw [join_eq, tl_join]
  have e : tl ("" : Str) = [] := by decide +kernel
  rw [e]
  generalize ss.map tl = l
  induction l with
  | nil => rfl
  | cons a l ih =>
    cases l with
    | nil => simp [joinL]
    | cons b l =>
      show a ++ ([] ++ joinL [] (b :: l)) = _
      rw [ih]; simp
/-- what a word is: a stem with one more letter -/
theorem stem_of {ss : List Str} (h : ∀ s ∈ ss, ∃ c, s = ⟨#[c]⟩ ∧ c ∈ letters.cps.toList) : (PySem.Txt.join "" ss).length = ss.length ∧ low (PySem.Txt.join "" ss) := by
  have e := join_nil_tl ss
  constructor
  · rw [len_tl, e]
    clear e
    induction ss with
    | nil => rfl
    | cons a l ih =>
      obtain ⟨c, rfl, _⟩ := h a List.mem_cons_self
      have := ih fun s hs => h s (List.mem_cons_of_mem _ hs)
      have e1 : (tl (⟨#[c]⟩ : Str)).length = 1 := rfl
      simp only [List.map_cons, List.flatten_cons, List.length_append, List.length_cons, e1, this]
      omega
  · intro c hc
    have hc' : c ∈ tl (PySem.Txt.join "" ss) := hc
    rw [e, List.mem_flatten] at hc'
    obtain ⟨l, hl, hcl⟩ := hc'
    obtain ⟨s, hs, rfl⟩ := List.mem_map.mp hl
    obtain ⟨d, rfl, hd⟩ := h s hs
    have : c ∈ [d] := hcl
    rw [List.mem_singleton.mp this]
    exact hd
theorem split_names {ns : List Str} (hne : ns ≠ []) (h : ∀ n ∈ ns, isNm n = true) : PySem.Txt.split (PySem.Txt.join c_sl ns) c_sl = ns :=
  split_join tl_sl kind_sl hne fun p hp => isNm_sl (h p hp)
theorem join_nil0 : PySem.Txt.join c_sl [] = "" := by decide +kernel
theorem join_ne {ns : List Str} (hne : ns ≠ []) (h : ∀ n ∈ ns, isNm n = true) : PySem.Txt.join c_sl ns ≠ "" := fun e => by
  have h1 := split_names hne h
  rw [e] at h1
  have h2 : PySem.Txt.split "" c_sl = [("" : Str)] := by decide +kernel
  rw [h2] at h1
  have h3 := h "" (by rw [← h1]; exact List.mem_singleton_self _)
  exact absurd h3 (by decide +kernel)
theorem parts_join {ns : List Str} (h : ∀ n ∈ ns, isNm n = true) : parts (PySem.Txt.join c_sl ns) = ns := by
  unfold parts
  by_cases hne : ns = []
  · subst hne
    rw [join_nil0, if_pos rfl]
  · rw [if_neg (join_ne hne h), split_names hne h]
theorem isPt_join {ns : List Str} (h : ∀ n ∈ ns, isNm n = true) : isPt (PySem.Txt.join c_sl ns) = true := by
  unfold isPt
  by_cases hne : ns = []
  · subst hne
    rw [join_nil0]; rfl
  · rw [split_names hne h, List.all_eq_true.mpr h, Bool.or_true]
theorem join_len_le {ns : List Str} (h : ∀ n ∈ ns, isNm n = true) : (PySem.Txt.join c_sl ns).length ≤ 9 * ns.length := by
  rw [len_tl, join_eq, tl_join, tl_sl]
  induction ns with
  | nil => exact Nat.zero_le _
  | cons a l ih =>
    have ha := (isNm_len (h a List.mem_cons_self)).2
    have e : (tl a).length = a.length := (len_tl a).symm
    have il := ih fun n hn => h n (List.mem_cons_of_mem _ hn)
    cases l with
    | nil =>
      show (tl a).length ≤ _
      rw [List.length_singleton]; omega
    | cons b l =>
      show (tl a ++ ([47] ++ joinL [47] ((b :: l).map tl))).length ≤ _
      have e1 : ([47] : List Nat).length = 1 := rfl
      simp only [List.length_append, List.length_cons, e1] at il ⊢
      try simp only [List.length_nil] at il ⊢
      omega
end LF

set_option Elab.async false
set_option linter.all false
set_option maxRecDepth 100000
set_option maxHeartbeats 4000000
namespace LF
open PySem PySem.Spec PyProof.Rows L2 K6
def bits (z : Str) : List Str := (PySem.Txt.split z c_sl).filter fun s => !decide (s = "")
theorem bits_join {ns : List Str} (h : ∀ n ∈ ns, isNm n = true) : bits (PySem.Txt.join c_sl ns) = ns := by
  unfold bits
  by_cases hne : ns = []
  · subst hne
    rw [join_nil0]
    decide +kernel
  · rw [split_names hne h, List.filter_eq_self]
    intro a ha
    have h1 := (isNm_len (h a ha)).1
    have : a ≠ "" := fun e => by rw [e] at h1; exact absurd h1 (by decide +kernel)
    simp [this]
theorem dp_strs {K : PySem.W.Frag} {H : Hp} : ∀ l : List Str, DpAll K H (l.map V.str) (l.map .str)
  | [] => .nil
  | a :: l => .cons (.str a) (dp_strs l)
theorem eqv_strs : ∀ xs ys : List Str, PyData.eqvAll (xs.map .str) (ys.map .str) = decide (xs = ys)
  | [], [] => by simp [PyData.eqvAll]
  | [], _ :: _ => by simp [PyData.eqvAll]
  | _ :: _, [] => by simp [PyData.eqvAll]
  | x :: xs, y :: ys => by
    show PyData.eqvAll (.str x :: xs.map .str) (.str y :: ys.map .str) = _
    rw [PyData.eqvAll, eqv_strs xs ys]
    show ((x == y) && decide (xs = ys)) = _
    by_cases h1 : x = y <;> by_cases h2 : xs = ys <;> simp [h1, h2]
theorem strOk_low {z : Str} (h : low z) : PyData.strOk z = true := by
  unfold PyData.strOk
  rw [Array.all_eq_true']
  intro c hc
  have h1 := h c (Array.mem_toList_iff.mpr hc)
  have h2 : ∀ d ∈ letters.cps.toList, d < 0x110000 := by decide +kernel
  exact decide_eq_true (h2 c h1)
theorem strOk_join {ns : List Str} (h : ∀ n ∈ ns, isNm n = true) : PyData.strOk (PySem.Txt.join c_sl ns) = true := by
  unfold PyData.strOk
  rw [Array.all_eq_true']
  intro c hc
  have h1 : c ∈ TL.tl (PySem.Txt.join c_sl ns) := Array.mem_toList_iff.mpr hc
  have h2 : ∀ d ∈ letters.cps.toList, d < 0x110000 := by decide +kernel
  rw [TL.join_eq, TL.tl_join, tl_sl] at h1
  refine decide_eq_true ?_
  clear hc
  induction ns with
  | nil => exact nomatch h1
  | cons a l ih =>
    have ha : c ∈ TL.tl a → c < 0x110000 := fun q => h2 c ((isNm_iff.mp (h a List.mem_cons_self)).2 c q)
    cases l with
    | nil => exact ha h1
    | cons b l =>
      have h3 : c ∈ TL.tl a ++ ([47] ++ TL.joinL [47] ((b :: l).map TL.tl)) := h1
      rcases List.mem_append.mp h3 with q | q
      · exact ha q
      · rcases List.mem_append.mp q with q | q
        · rw [List.mem_singleton.mp q]; decide
        · exact ih (fun n hn => h n (List.mem_cons_of_mem _ hn)) q
theorem canLay_strs : ∀ {l : List Str}, (∀ s ∈ l, PyData.strOk s = true) → PyData.canLayAll0 (l.map .str) = true
  | [], _ => by simp [PyData.canLayAll0]
  | a :: l, h => by
    show PyData.canLayAll0 (.str a :: l.map .str) = true
    rw [PyData.canLayAll0, canLay_strs fun s hs => h s (List.mem_cons_of_mem _ hs), PyData.canLay0, h a List.mem_cons_self]
    rfl
theorem shaped_strs {l : List Str} (h : ∀ s ∈ l, PyData.strOk s = true) : SeqAt.shaped (.list (l.map .str)) = true := by
  unfold SeqAt.shaped
  rw [PyData.canLay0, canLay_strs h, Bool.true_and]
  exact decide_eq_true (by rw [PyData.depth, depth_strs]; decide)
theorem eqv_list_strs (xs ys : List Str) : PyData.eqv (.list (xs.map .str)) (.list (ys.map .str)) = decide (xs = ys) := by
  rw [PyData.eqv]; exact eqv_strs _ _
/-- data whose repr is told -/
structure Rok (d : PyData) : Prop where
  sh : d.showable = true
  nd : d.hasDict = false
  dp : d.depth ≤ 60
  ln : d.shown.length ≤ sizeLine
theorem Rok.of {d : PyData} (h1 : d.canLay0 = true) (h2 : d.depth ≤ 60) (h3 : d.weight ≤ 2 ^ 20) (h4 : d.intsShort 13 = true) (h5 : d.showable = true) : Rok d := by
  refine ⟨h5, PyData.hasDict_of_canLay d h1, h2, ?_⟩
  have hl : PyData.layable0 d = true := by
    unfold PyData.layable0
    rw [h1, decide_eq_true (by omega : d.depth ≤ 64), decide_eq_true h3]; rfl
  exact Nat.le_trans (shown_le13 hl h4) (by decide)
theorem weight_strs {n : Nat} : ∀ {l : List Str}, (∀ s ∈ l, s.length ≤ n) → PyData.weightAll (l.map .str) ≤ (n + 1) * l.length
  | [], _ => by simp [PyData.weightAll]
  | a :: l, h => by
    have h1 := weight_strs (n := n) fun s hs => h s (List.mem_cons_of_mem _ hs)
    have h2 := h a List.mem_cons_self
    show PyData.weightAll (.str a :: l.map .str) ≤ _
    rw [PyData.weightAll, PyData.weight, List.length_cons, Nat.mul_succ]
    have e : a.cps.size = a.length := rfl
    omega
theorem ints_strs : ∀ l : List Str, PyData.intsShortAll 13 (l.map .str) = true
  | [] => by simp [PyData.intsShortAll]
  | a :: l => by
    show PyData.intsShortAll 13 (.str a :: l.map .str) = true
    rw [PyData.intsShortAll, ints_strs l]; simp [PyData.intsShort]
theorem show_strs : ∀ l : List Str, PyData.showableAll (l.map .str) = true
  | [] => by simp [PyData.showableAll]
  | a :: l => by
    show PyData.showableAll (.str a :: l.map .str) = true
    rw [PyData.showableAll, show_strs l]; simp [PyData.showable]
theorem rok_tuple {l : List Str} {n : Nat} (h1 : ∀ s ∈ l, PyData.strOk s = true) (h2 : ∀ s ∈ l, s.length ≤ n) (h3 : (n + 1) * l.length ≤ 1000000) : Rok (.tuple (l.map .str)) := by
  refine Rok.of (by rw [PyData.canLay0]; exact canLay_strs h1) (by rw [PyData.depth, depth_strs]; decide) ?_ (by rw [PyData.intsShort]; exact ints_strs l) (by rw [PyData.showable]; exact show_strs l)
  rw [PyData.weight]
  exact Nat.le_trans (Nat.le_trans (weight_strs h2) h3) (by decide)
theorem rok_list {l : List Str} {n : Nat} (h1 : ∀ s ∈ l, PyData.strOk s = true) (h2 : ∀ s ∈ l, s.length ≤ n) (h3 : (n + 1) * l.length ≤ 1000000) : Rok (.list (l.map .str)) := by
  refine Rok.of (by rw [PyData.canLay0]; exact canLay_strs h1) (by rw [PyData.depth, depth_strs]; decide) ?_ (by rw [PyData.intsShort]; exact ints_strs l) (by rw [PyData.showable]; exact show_strs l)
  rw [PyData.weight]
  exact Nat.le_trans (Nat.le_trans (weight_strs h2) h3) (by decide)
theorem rok_str {z : Str} (h1 : PyData.strOk z = true) (h2 : z.length ≤ 1000000) : Rok (.str z) := by
  refine Rok.of (by rw [PyData.canLay0]; exact h1) (by simp [PyData.depth]) ?_ (by simp [PyData.intsShort]) (by simp [PyData.showable])
  rw [PyData.weight]
  exact Nat.le_trans (show z.cps.size ≤ 1000000 from h2) (by decide)
theorem rok_none : Rok .none := Rok.of (by simp [PyData.canLay0]) (by simp [PyData.depth]) (by simp [PyData.weight]) (by simp [PyData.intsShort]) (by simp [PyData.showable])
end LF

set_option Elab.async false
set_option linter.all false
set_option maxRecDepth 100000
set_option maxHeartbeats 4000000
namespace LF
open PySem PySem.Spec PyProof.Rows L2 TL K6
theorem sub_chars (x : Str) (i j : Nat) : ∀ c ∈ (Builtin.Str.strSub x i j).cps.toList, c ∈ x.cps.toList := fun c hc => by
  have e := tl_strSub x i j
  have hc' : c ∈ tl (Builtin.Str.strSub x i j) := hc
  rw [e] at hc'
  exact List.mem_of_mem_drop (List.mem_of_mem_take hc')
theorem partsFrom_chars (x : Str) (w : Nat) : ∀ (cuts : List Nat) (a : Nat), ∀ p ∈ StrLaws.partsFrom x w a cuts, ∀ c ∈ p.cps.toList, c ∈ x.cps.toList
  | [], a, p, hp => by rw [List.mem_singleton.mp hp]; exact sub_chars x _ _
  | c :: r, a, p, hp => by
    rcases List.mem_cons.mp hp with rfl | hp'
    · exact sub_chars x _ _
    · exact partsFrom_chars x w r _ p hp'
theorem part_chars {x y a : Str} (h : a ∈ PySem.Txt.split x y) : ∀ c ∈ a.cps.toList, c ∈ x.cps.toList := by
  unfold PySem.Txt.split at h
  split at h
  · rw [List.mem_singleton.mp h]; exact fun c hc => hc
  · split at h
    · rw [List.mem_singleton.mp h]; exact fun c hc => hc
    · rw [StrLaws.partsBetween_eq] at h
      exact partsFrom_chars x _ _ _ a h
theorem strOk_iff {z : Str} : PyData.strOk z = true ↔ ∀ c ∈ z.cps.toList, c < 0x110000 := by
  unfold PyData.strOk
  rw [Array.all_eq_true']
  exact ⟨fun h c hc => of_decide_eq_true (h c (Array.mem_toList_iff.mp hc)), fun h c hc => decide_eq_true (h c (Array.mem_toList_iff.mpr hc))⟩
theorem strOk_sub {x y : Str} (h : PyData.strOk x = true) (hs : ∀ c ∈ y.cps.toList, c ∈ x.cps.toList) : PyData.strOk y = true := strOk_iff.mpr fun c hc => strOk_iff.mp h c (hs c hc)
theorem strOk_app {x y : Str} (hx : PyData.strOk x = true) (hy : PyData.strOk y = true) : PyData.strOk (x ++ y) = true := strOk_iff.mpr fun c hc => by
  have e := tl_append x y
  have hc' : c ∈ tl (x ++ y) := hc
  rw [e] at hc'
  exact (List.mem_append.mp hc').elim (strOk_iff.mp hx c) (strOk_iff.mp hy c)
theorem eqv_nil (l : List PyData) : PyData.eqv (.list l) (.list []) = decide (l = []) := by
  cases l with
  | nil => simp [PyData.eqv, PyData.eqvAll]
  | cons a l => simp [PyData.eqv, PyData.eqvAll]
end LF

set_option Elab.async false
set_option linter.all false
set_option maxRecDepth 100000
set_option maxHeartbeats 4000000
namespace K6
open PySem PySem.Spec PyProof.Rows L2 LF
/-- what entry_of hands back -/
def entryS (z : Str) : Option (Option (Str × V)) :=
  match PySem.Txt.split z " " with
  | [] => none
  | w0 :: rest =>
    if isPl w0 = true then
      if rest = [("folder" : Str)] then some (some (w0, .non))
      else match rest with
        | [w1, w2] =>
          if w1 = "file" then (match contentS w2 with | none => none | some none => some none | some (some n) => some (some (w0, .int n)))
          else if w1 = "to" then (match targetS w2 with | none => some none | some t => some (some (w0, .str t)))
          else some none
        | _ => some none
    else some none
def spEn : Sp := fun vs H Q _ => ∃ (z : Str) (r : Option (Str × V)), vs = [.str z] ∧ z.length ≤ 1000000 ∧ PyData.strOk z = true ∧ entryS z = some r ∧
  (r = none → ∀ H', Same H H' → Q .non H') ∧ (∀ p v, r = some (p, v) → ∀ H' q, Same H H' → H' q = some (.tup [.str p, v]) → Q (.ref q) H')
abbrev s_entry_of : Stmt := topS 43
theorem sc_entry_of : FnScope ["row", "words", "item"] ["row"] (defScope s_entry_of) := ⟨rfl, rfl, rfl, by decide +kernel, rfl, by decide +kernel, by decide +kernel⟩
theorem cut_tail (x : V) (xs : List V) : cutV (x :: xs) (some 1) none = xs := by
  unfold cutV
  have e1 : HT.sIx (x :: xs).length 0 (some 1) = 1 := by
    have := HT.sIx_nat (n := (x :: xs).length) (d := 0) (k := 1)
    rw [show ((1 : Nat) : Int) = 1 from rfl] at this
    rw [this, List.length_cons]
    omega
  rw [HT.sIx_none, e1, List.drop_succ_cons, List.drop_zero]
  exact List.take_of_length_le (by rw [List.length_cons]; omega)
section
variable {P : Program} {w : World} {K : PySem.W.Frag} {mg : Str → Option Value} {base : Heap} {tk1 tk2 : Tok}
theorem ok_entry_of {f f1 f2 f3 : Addr} {fd fd1 fd2 fd3 : FuncData} (F : Fun K "entry_of" "entry_of" s_entry_of f fd) (T : Txt K mg tk1 tk2) (d_place : DefAt P w K mg base "is_place" 3 f1 fd1 ["thing"] (spS isPl))
    (d_content : DefAt P w K mg base "content_of" 1 f2 fd2 ["word"] spCo) (d_target : DefAt P w K mg base "target_of" 4 f3 fd3 ["word"] spTa) : FnOk P w K mg base CX0 5 f fd ["row"] spEn := by
  refine F.ok sc_entry_of (fun vs H Q E h => ?_) (fun cdv A outer s H vs Q E hr h => ?_)
  · obtain ⟨z, r, rfl, _⟩ := h
    rfl
  have hu := hr.units
  refine ⟨_, (pss_cons (ps_set (i := 1) sc_entry_of.nd rfl (Or.inl rfl) (pe_split (pv 0) pe_str))
    (pss_cons (ps_if (pt_not (pt_val (pe_callD d_place (hr.mono (by decide)) (pa_cons (pe_ix ix_list (pv 1) pe_int (fun _ _ => rfl)) pa_nil)))) (pss_one (ps_ret pe_non)) pss_nil)
    (pss_cons (ps_if (pt_cmpR (op_eqD hu) (pe_slice sl_list (pv 1) (po_some pe_int) po_none) (pe_lst (pa_cons pe_str pa_nil)) (nomark _)) (pss_one (ps_ret (pe_tup (pa_cons (pe_ix ix_list (pv 1) pe_int (fun _ _ => rfl)) (pa_cons pe_non pa_nil))))) pss_nil)
    (pss_cons (ps_if (pt_cmpR op_ne (pe_callB call_len_seq (by rfl) T.n_len (by decide +kernel) (pa_cons (pv 1) pa_nil)) pe_int (nomark _)) (pss_one (ps_ret pe_non)) pss_nil)
    (pss_cons (ps_set (i := 2) sc_entry_of.nd rfl (Or.inl rfl) pe_non)
    (pss_cons (ps_if (pt_cmpR op_eq (pe_ix ix_list (pv 1) pe_int (fun _ _ => rfl)) pe_str (nomark _)) (pss_one (ps_set (i := 2) sc_entry_of.nd rfl (Or.inl rfl) (pe_callD d_content (hr.mono (by decide)) (pa_cons (pe_ix ix_list (pv 1) pe_int (fun _ _ => rfl)) pa_nil)))) pss_nil)
    (pss_cons (ps_if (pt_cmpR op_eq (pe_ix ix_list (pv 1) pe_int (fun _ _ => rfl)) pe_str (nomark _)) (pss_one (ps_set (i := 2) sc_entry_of.nd rfl (Or.inl rfl) (pe_callD d_target (hr.mono (by decide)) (pa_cons (pe_ix ix_list (pv 1) pe_int (fun _ _ => rfl)) pa_nil)))) pss_nil)
    (pss_cons (ps_if (pt_cmpR op_isN (pv 2) pe_non (nomark _)) (pss_one (ps_ret pe_non)) pss_nil)
    (pss_one (ps_ret (pe_tup (pa_cons (pe_ix ix_list (pv 1) pe_int (fun _ _ => rfl)) (pa_cons (pv 2) pa_nil))))))))))))), ?_⟩
  obtain ⟨z, r, rfl, hz, hok, he, hq1, hq2⟩ := h
  unfold entryS at he
  have hbig := sizeLine_big
  have sp_ne : ((" " : Str).length == 0) = false := by decide +kernel
  refine ⟨_, rfl, ⟨_, rfl⟩, z, " ", rfl, rfl, sp_ne, by omega, fun pw hpw => ?_⟩
  have hws : ∀ s ∈ PySem.Txt.split z " ", s.length ≤ z.length ∧ PyData.strOk s = true := fun s hs => ⟨part_short hs, strOk_sub hok (part_chars hs)⟩
  have hwl := split_le z " "
  generalize PySem.Txt.split z " " = ws at he hws hwl
  cases ws with
  | nil => cases he
  | cons w0 rest =>
    simp only at he
    have h0 := hws w0 List.mem_cons_self
    have hw1 : (upd H pw (.lst ((w0 :: rest).map V.str))) pw = some (.lst ((w0 :: rest).map V.str)) := upd_same
    have s1 : Same H (upd H pw (.lst ((w0 :: rest).map V.str))) := same_new hpw
    refine ⟨_, rfl, pw, _, _, .str w0, rfl, rfl, SqL.of hw1, atI_nat (j := 0) rfl, w0, rfl, by omega, fun H1 s2 => ⟨_, rfl, ?_⟩⟩
    have S1 := s1.trans s2
    have hw2 := s2 _ _ hw1
    cases hp : isPl w0 with
    | false =>
      rw [hp, if_neg Bool.false_ne_true] at he
      cases he
      exact iteT (hq1 rfl H1 S1)
    | true =>
      rw [hp, if_pos rfl] at he
      refine iteF ?_
      refine ⟨_, rfl, 1, rfl, pw, _, rfl, SqL.of hw2, fun pc hpc => ?_⟩
      rw [List.map_cons, cut_tail]
      refine ⟨by show 1 ≤ sizeLine; decide, fun pe hpe => ?_⟩
      have s3 : Same H1 (upd (upd H1 pc (.lst (rest.map V.str))) pe (.lst [.str "folder"])) := (same_new hpc).trans (same_new hpe)
      refine ⟨.list (rest.map .str), .list [.str "folder"], .lst (SqL.of (same_new hpe _ _ upd_same)) (dp_strs rest), .lst (SqL.of upd_same) (.cons (.str _) .nil), shaped_strs (fun s hs => (hws s (List.mem_cons_of_mem _ hs)).2), by decide +kernel, _, rfl, ?_⟩
      have ee : PyData.eqv (.list (rest.map .str)) (.list [.str "folder"]) = decide (rest = [("folder" : Str)]) := eqv_list_strs rest ["folder"]
      rw [ee]
      have S3 := S1.trans s3
      have hw3 := s3 _ _ hw2
      generalize (upd (upd H1 pc (.lst (rest.map V.str))) pe (.lst [.str "folder"])) = H3 at S3 hw3
      refine ifD (fun h1 => ?_) (fun h1 => ?_)
      · rw [if_pos h1] at he
        cases he
        exact ⟨_, rfl, pw, _, _, .str w0, rfl, rfl, SqL.of hw3, atI_nat (j := 0) rfl, by show 2 ≤ sizeLine; decide, fun q hq => hq2 _ _ rfl _ q (S3.trans (same_new hq)) upd_same⟩
      rw [if_neg h1] at he
      refine ⟨_, rfl, pw, _, rfl, Or.inl (SqL.of hw3), rfl, _, rfl, ?_⟩
      rw [List.length_map]
      have hdec : ∀ n : Nat, decide (V.int (n : Nat) = V.int 3) = decide (n = 3) := fun n => by
        by_cases h : n = 3
        · subst h; simp
        · rw [decide_eq_false h, decide_eq_false (fun e => h (by have := V.int.inj e; omega))]
      rw [hdec]
      have hlen3 : ∀ {l : List Str}, (w0 :: l).length = 3 → ∃ w1 w2, l = [w1, w2] := fun {l} h => by
        match l, h with
        | [a, b], _ => exact ⟨a, b, rfl⟩
      refine ifN (fun h3 => ?_) (fun h3 => ?_)
      · obtain ⟨w1, w2, rfl⟩ := hlen3 h3
        simp only at he
        have l1 := (hws w1 (by simp)).1
        have l2 := (hws w2 (by simp)).1
        refine ⟨_, rfl, pw, _, _, .str w1, rfl, rfl, SqL.of hw3, atI_nat (j := 1) rfl, rfl, _, rfl, ?_⟩
        rw [str_dec]
        have bneg : ∀ (Q1 : VK) H4, Same H H4 → H4 pw = some (.lst ([w0, w1, w2].map V.str)) → True := fun _ _ _ _ => trivial
        refine ifD (fun h4 => ?_) (fun h4 => ?_)
        · rw [if_pos h4] at he
          have hne : ¬ w1 = ("to" : Str) := fun e => by rw [h4] at e; exact absurd e (by decide +kernel)
          cases hc : contentS w2 with
          | none => rw [hc] at he; cases he
          | some o =>
            rw [hc] at he
            refine ⟨_, rfl, pw, _, _, .str w2, rfl, rfl, SqL.of hw3, atI_nat (j := 2) rfl, w2, o, rfl, by omega, hc, fun H4 s4 => ?_⟩
            have hw4 := s4 _ _ hw3
            refine ⟨_, rfl, pw, _, _, .str w1, rfl, rfl, SqL.of hw4, atI_nat (j := 1) rfl, rfl, _, rfl, ?_⟩
            rw [str_dec]
            refine ifD (fun h5 => absurd h5 hne) (fun _ => ?_)
            refine ⟨_, rfl, rfl, _, rfl, ?_⟩
            cases o with
            | none =>
              cases he
              refine ifD (fun _ => hq1 rfl H4 (S3.trans s4)) (fun h6 => absurd rfl h6)
            | some n =>
              cases he
              refine ifD (fun h6 => nomatch h6) (fun _ => ?_)
              exact ⟨_, rfl, pw, _, _, .str w0, rfl, rfl, SqL.of hw4, atI_nat (j := 0) rfl, _, rfl, by show 2 ≤ sizeLine; decide, fun q hq => hq2 _ _ rfl _ q ((S3.trans s4).trans (same_new hq)) upd_same⟩
        · rw [if_neg h4] at he
          refine ⟨_, rfl, pw, _, _, .str w1, rfl, rfl, SqL.of hw3, atI_nat (j := 1) rfl, rfl, _, rfl, ?_⟩
          rw [str_dec]
          refine ifD (fun h5 => ?_) (fun h5 => ?_)
          · rw [if_pos h5] at he
            refine ⟨_, rfl, pw, _, _, .str w2, rfl, rfl, SqL.of hw3, atI_nat (j := 2) rfl, w2, rfl, by omega, fun H4 s4 => ?_⟩
            have hw4 := s4 _ _ hw3
            refine ⟨_, rfl, rfl, _, rfl, ?_⟩
            cases ht : targetS w2 with
            | none =>
              rw [ht] at he
              cases he
              refine ifD (fun _ => hq1 rfl H4 (S3.trans s4)) (fun h6 => absurd rfl h6)
            | some t =>
              rw [ht] at he
              cases he
              refine ifD (fun h6 => nomatch h6) (fun _ => ?_)
              exact ⟨_, rfl, pw, _, _, .str w0, rfl, rfl, SqL.of hw4, atI_nat (j := 0) rfl, _, rfl, by show 2 ≤ sizeLine; decide, fun q hq => hq2 _ _ rfl _ q ((S3.trans s4).trans (same_new hq)) upd_same⟩
          · rw [if_neg h5] at he
            cases he
            refine ⟨_, rfl, rfl, _, rfl, ?_⟩
            refine ifD (fun _ => hq1 rfl H3 S3) (fun h6 => absurd rfl h6)
      · have hr : r = none := by
          match rest, he, h3 with
          | [], he, _ => cases he; rfl
          | [a], he, _ => cases he; rfl
          | [a, b], he, h3 => exact absurd rfl h3
          | a :: b :: c :: l, he, _ => cases he; rfl
        exact hq1 hr H3 S3
end
end K6

set_option Elab.async false
set_option linter.all false
set_option maxRecDepth 100000
set_option maxHeartbeats 4000000
namespace LF
open PySem PySem.Spec PyProof.Rows L2
/-- <= of alike data -/
def rLeD (K : PySem.W.Frag) : R2 := fun x y H Q => ∃ d e, Dp K H x d ∧ Dp K H y e ∧ PySem.W.alike d e = true ∧ d ≠ .none ∧ d.depth ≤ 60 ∧ Q (.bl (!PySem.W.dataLt e d)) H
theorem op_leD {X : Cx} (hu : X.A.units + 64 < cLine) : OpR X (compareOp .LtE) (rLeD X.K) := by
  intro pins s σ H x y v u Q I rx ry h
  obtain ⟨d, e, hd, he, ha, hn, hp, q⟩ := h
  obtain ⟨as, r1⟩ := Dp.reads I d x v hd rx
  obtain ⟨bs, r2⟩ := Dp.reads I e y u he ry
  have hm : min d.depth e.depth ≤ d.depth := Nat.min_le_left _ _
  exact PySem.W.le_data r1 r2 ha hn (by omega) ⟨.bl _, H, I, rfl, q⟩
end LF
namespace K6
open PySem PySem.Spec PyProof.Rows L2 LF
def parentS (z : Str) : Str := (PySem.Txt.rpartition z c_sl).1
/-- the next path may follow -/
def contS (kvs : List (Key × V)) (last path : Str) : Bool :=
  PySem.W.dataLt (keyD last) (keyD path) && (decide (parentS path = "") || (valV kvs (.inr (parentS path)) == some .non))
def spCont : Sp := fun vs H Q _ => ∃ (d : Addr) (kvs : List (Key × V)) (last path : Str), vs = [.ref d, .str last, .str path] ∧ H d = some (.dK kvs) ∧ last.length ≤ 1000000 ∧ path.length ≤ 1000000 ∧ isPt path = true ∧ ¬ path = "" ∧
  ∀ H', Same H H' → Q (.bl (contS kvs last path)) H'
abbrev s_continues : Stmt := topS 45
theorem sc_continues : FnScope ["entries", "last", "path", "folder"] ["entries", "last", "path"] (defScope s_continues) := ⟨rfl, rfl, rfl, by decide +kernel, rfl, by decide +kernel, by decide +kernel⟩
theorem v_none (v : V) : decide (v = V.non) = (some v == some V.non) := by
  by_cases h : v = .non
  · subst h; simp
  · rw [decide_eq_false h]; exact (by simpa using h)
section
variable {P : Program} {w : World} {K : PySem.W.Frag} {mg : Str → Option Value} {base : Heap} {tk1 tk2 : Tok}
theorem ok_continues {f f1 f2 : Addr} {fd fd1 fd2 : FuncData} (F : Fun K "continues" "continues" s_continues f fd) (d_key : DefAt P w K mg base "order_key" 2 f1 fd1 ["path"] (spKey K)) (d_parent : DefAt P w K mg base "parent" 4 f2 fd2 ["path"] spParent) :
    FnOk P w K mg base CX0 5 f fd ["entries", "last", "path"] spCont := by
  refine F.ok sc_continues (fun vs H Q E h => ?_) (fun cdv A outer s H vs Q E hr h => ?_)
  · obtain ⟨d, kvs, last, path, rfl, _⟩ := h
    rfl
  have hu := hr.units
  have hu1 := hu_of hr
  refine ⟨_, (pss_cons (ps_if (pt_cmpR (op_leD hu) (pe_callD d_key (hr.mono (by decide)) (pa_cons (pv 2) pa_nil)) (pe_callD d_key (hr.mono (by decide)) (pa_cons (pv 1) pa_nil)) (nomark _)) (pss_one (ps_ret pe_bl)) pss_nil)
    (pss_cons (ps_set (i := 3) sc_continues.nd rfl (Or.inl rfl) (pe_callD d_parent (hr.mono (by decide)) (pa_cons (pv 2) pa_nil)))
    (pss_one (ps_ret (pe_or (pe_cmpR op_eq (pv 3) pe_str (nomark _)) (pe_one (pe_and (pe_cmp (pc_din hu1 (pv 3) (pv 0))) (pe_one (pe_cmpR op_isN (pe_dget hu1 (pv 0) (pv 3) (fun _ _ => rfl)) pe_non (nomark _)))))))))), ?_⟩
  obtain ⟨d, kvs, last, path, rfl, hd, hl, hp, hpt, hne, hq⟩ := h
  refine ⟨_, rfl, path, rfl, hp, fun v1 H1 s1 dp1 => ?_⟩
  refine ⟨_, rfl, last, rfl, hl, fun v2 H2 s2 dp2 => ?_⟩
  refine ⟨_, _, dp_same s2 _ _ dp1, dp2, key_alike _ _, fun z => (nomatch z), key_depth _, _, rfl, ?_⟩
  have S2 := s1.trans s2
  unfold contS at hq
  cases hb : PySem.W.dataLt (keyD last) (keyD path) with
  | false => rw [hb] at hq; exact iteT (hq H2 S2)
  | true =>
    rw [hb] at hq
    refine iteF ?_
    refine ⟨_, rfl, path, rfl, hp, hpt, fun H3 s3 => ?_⟩
    rw [if_neg hne]
    have S3 := S2.trans s3
    have hd3 := S3 _ _ hd
    refine ⟨_, rfl, rfl, _, rfl, ?_⟩
    rw [str_dec]
    refine ifD (fun h1 => ?_) (fun h1 => ?_)
    · have := hq H3 S3
      rw [show parentS path = "" from h1] at this
      exact this
    · have hfin : ∀ b : Bool, (valV kvs (.inr (parentS path)) == some V.non) = b → Q (.bl b) H3 := fun b e => by
        have h0 := hq H3 S3
        rw [e, decide_eq_false (show ¬ parentS path = "" from h1)] at h0
        exact h0
      refine ⟨_, rfl, _, rfl, d, _, rfl, DGet.k (k := Sum.inr (parentS path)) hd3, _, rfl, ?_⟩
      cases hv : valV kvs (.inr (parentS path)) with
      | none => exact iteF (hfin false (by rw [hv]; rfl))
      | some v =>
        refine iteT ?_
        refine ⟨_, rfl, _, rfl, d, v, rfl, by have := DGet.k (k := Sum.inr (parentS path)) hd3; rw [hv] at this; exact this, rfl, ?_⟩
        rw [v_none]
        exact hfin _ (by rw [hv])
end
end K6

set_option Elab.async false
set_option linter.all false
set_option maxRecDepth 100000
set_option maxHeartbeats 4000000
namespace PySem
namespace BadTextX
open PySem.W PySem.Calls PyProof.Rows PySem.HandSPX
/-! ### the text of __init__ -/
def iA (p1 p2 : Pos) : Arguments := { posonlyargs := [], args := [{ arg := "self", annotation := none, pos := p1 }, { arg := "row", annotation := none, pos := p2 }], vararg := none, kwonlyargs := [], kw_defaults := [], kwarg := none, defaults := [] }
def iB (q1 q2 q3 q4 : Pos) : List Stmt := [.Assign [.Attribute (.Name "self" q1) "row" q2] (.Name "row" q3) q4]
def iS : Scope := { kind := .function, names := [(PySem.Str.ofString "self", .local), (PySem.Str.ofString "row", .local)], isGenerator := false, isCoroutine := false, more := [] }
/-- what the written part says of Low, at C, and of its __init__, at fI -/
structure RowTxt (K : Frag) (mg : Str → Option Value) (C fI : Addr) : Prop where
  gC : mg "BadText" = some (.ref C)
  cls : ∃ nm q N bs bm sn sub ab col dd k0 k1 k2 k3 k5, K.lookup C = some (excClassObj nm q C N bs bm true sn sub ab col dd k0 k1 k2 k3 k5 "ValueError.__new__") ∧ refsVE bm = true
  sa : findIn K (.ref C) "__setattr__" = some (some (.builtin "object.__setattr__"))
  ga : findIn K (.ref C) "__getattribute__" = some (some (.builtin "BaseException.__getattribute__"))
  gg : findIn K (.ref C) "__getattr__" = some none
  noN : findIn K (.ref C) "row" = some none
  iC : findIn K (.ref C) "__init__" = some (some (.ref fI))
  tC : typeIn K (.ref fI) = some (.type "function")
  kC : keepIn K (.ref C) = true
  exC : subIn K (.ref C) (.type "BaseException") = some true
  tyC : typeIn K (.ref C) = some (.type "type")
  hdC : hasDictIn K C = true
  te : exmOne K (.ref C) (.ref C) = some true
  fn : ∃ (oc : Value) (od : Option Addr) (doc pm : Value) (an : Option Addr) (cdv ct : Value) (osl : Array (Option Value)) (p1 p2 q1 q2 q3 q4 : Pos),
    K.lookup fI = some ⟨oc, od, .func (fnOf "__init__" "BadText.__init__" (iA p1 p2) (iB q1 q2 q3 q4) iS .none .none doc pm an cdv ct), osl⟩ ∧ codeIn K cdv "BadText.__init__" = true
theorem one_size (v : Value) : [v].length ≤ sizeLine := by
  rw [sizeLine_eq]
  exact (by decide : 1 ≤ 16777216)
theorem kept_but {K : Frag} {h h' : Heap} {x : Addr} (X : K.In h) (hx : K.lookup x = none) (k : ∀ b o, b ≠ x → h.get? b = some o → h'.get? b = some o) : K.In h' := fun a o e =>
  k a o (fun z => by rw [z, hx] at e; cases e) (X a o e)
theorem ldC {M : Model} {s : Shared} {name : Str} {scope : Scope} {L a : Addr} {cd : Value} {m : Str → Option Value} {x : Str} {pos : Pos} {v : Value} {Q : Value → Shared → Prop} {A : Around} {E : Value → Shared → Prop} (hn : s.heap.Ns L m) (hv : m x = some v) (h : Q v s)
    (hk : scope.kind = .function := by rfl) (hl : (envOfC name scope L a cd).kindOf x = some .local := by rfl) (hd : (x == ("__debug__" : Str)) = false := by decide) :
    wpAny M A (eval (.Name x pos) (envOfC name scope L a cd)) Q E s := wpAny_Name (wpAny_loadName_local hk hl hn hv h) hd
/-- what __init__ leaves of a fresh exception at x -/
structure InitEnd (h h' : Heap) (x C dx t1 : Addr) (v : Value) : Prop where
  keep : ∀ b o, b ≠ x → h.get? b = some o → h'.get? b = some o
  obj : h'.get? x = some { cls := .ref C, dict := some dx, data := .fields #[.ref t1, .none, .none, .none, .bool false, .none] }
  dbig : h.objs.size ≤ dx
  dne : dx ≠ x
  ns : h'.Ns1 dx (fun y => if y = "row" then some v else none)
/-- a made Low -/
structure OwnMade (h h' : Heap) (e C d : Addr) (v : Value) : Prop where
  keep : ∀ b o, h.get? b = some o → h'.get? b = some o
  new : h.objs.size ≤ e
  obj : ∃ oe vs, h'.get? e = some oe ∧ oe.cls = .ref C ∧ oe.dict = some d ∧ oe.data = .fields vs ∧ vs[1]? = some .none
  dbig : h.objs.size ≤ d
  dne : d ≠ e
  ns : h'.Ns1 d (fun y => if y = "row" then some v else none)
section
variable {prog : Program} {w : World} {A : Around} {E : Value → Shared → Prop} {R : Result → Shared → Prop} {s : Shared} {K : Frag} {mg : Str → Option Value} {C fI : Addr}
theorem low_init (T : RowTxt K mg C fI) {x t0 : Addr} {v : Value} (X : K.In s.heap) (hlim : s.heap.NoLimit) (hx : s.heap.get? x = some (excO C t0)) (hnx : K.lookup x = none) (hroom : A.depth < recursionLimit)
    (hq : ∀ h' tk dx, InitEnd s.heap h' x C dx t0 v → R (.ok (.ret .none)) { s with heap := h', toks := tk }) :
    codeAny (model prog w) A (.call (.ref fI) ⟨[.ref x, v], []⟩) R s := by
  obtain ⟨oc, od, doc, pm, an, cdv, ct, osl, p1, p2, q1, q2, q3, q4, ho, hcd⟩ := T.fn
  obtain ⟨nm, q, N, bs, bm, sn, sub, ab, col, dd, k0, k1, k2, k3, k5, hC, hbm⟩ := T.cls
  have hcl : clsIn K C = some { name := nm, bases := bs, mro := .ref C :: bm, ns := N, qualname := q, hasDict := true, slotNames := sn, subclasses := sub, abstract := ab, collection := col, hasDel := false } := by unfold clsIn; rw [hC] <;> rfl
  refine Att.call_fn (binds := [("self", .ref x), ("row", v)]) X hlim ho hcd hroom (BindsTo.of_eq (by first | rfl | with_unfolding_all rfl)) (by first | rfl | decide | with_unfolding_all rfl) (fun s₁ IC => ?_) rfl rfl rfl
  obtain ⟨h₁, tk₁, rfl⟩ := IC.toInCall.same
  have k : ∀ b o, s.heap.get? b = some o → h₁.get? b = some o := IC.toInCall.keep
  have hn := IC.toInCall.ns
  have hxL : s.heap.objs.size ≠ x := Nat.ne_of_gt (Heap.lt_size hx)
  have X₁ : K.In h₁ := X.keeps k
  have hx₁ := k _ _ hx
  -- self.by = by
  show wpAny _ _ (execs _ _) _ _ _
  refine wpAny_execs_cons (plainObj_wpAny_Assign_Attribute ?_)
  refine ldC (v := v) hn (by first | rfl | with_unfolding_all rfl | kernel_rfl) (ldC (v := .ref x) hn (by first | rfl | with_unfolding_all rfl | kernel_rfl) ?_)
  refine set_plain X₁ (ox := excO C t0) (od := none) ⟨hx₁, rfl, rfl, trivial⟩ T.sa ?_
  refine exc_osa X₁ hx₁ hcl (show refsVE (.ref C :: bm) = true from hbm) rfl T.noN (fun h₃ tk₃ dx k₃ dn dne hx₃ hn₃ => ?_)
  show wpAny _ _ (execs _ _) _ _ _
  have z : s.heap.objs.size < h₁.objs.size := hn.lt
  exact wpAny_execs_nil (hq h₃ tk₃ dx ⟨fun b o hb e => k₃ b o hb (k b o e), hx₃, Nat.le_of_lt (Nat.lt_of_lt_of_le z dn), dne, hn₃⟩)
theorem low_made (T : RowTxt K mg C fI) {v : Value} (X : K.In s.heap) (hlim : s.heap.NoLimit) (hroom : A.depth + 1 < recursionLimit)
    (hq : ∀ h' tk e d, OwnMade s.heap h' e C d v → R (.ok (.ret (.ref e))) { s with heap := h', toks := tk }) :
    codeAny (model prog w) A (.call (.ref C) ⟨[v], []⟩) R s := by
  obtain ⟨nm, q, N, bs, bm, sn, sub, ab, col, dd, k0, k1, k2, k3, k5, hC, hbm⟩ := T.cls
  obtain ⟨hp, g, dr, tk, os⟩ := s
  have k : ∀ b o, hp.get? b = some o → ((hp.push (kdv_tup [v])).push (excO C hp.objs.size)).get? b = some o := fun b o e => Heap.get?_push_of_some _ (Heap.get?_push_of_some _ e)
  have hget : ((hp.push (kdv_tup [v])).push (excO C hp.objs.size)).get? (hp.objs.size + 1) = some (excO C hp.objs.size) := by heap_get
  have hnx : K.lookup (hp.objs.size + 1) = none := by
    cases e : K.lookup (hp.objs.size + 1) with
    | none => rfl
    | some o =>
      have z : hp.get? (hp.objs.size + 1) = some o := X _ _ e
      exact absurd (Nat.lt_of_succ_lt (Heap.lt_size z)) (Nat.lt_irrefl _)
  refine call_own F.excBase_ValueError (fun X => refsVE_contains X bm hbm) (X _ _ hC) (looks_findIn X T.iC) (fun self => bind_fn X self T.tC) (one_size v) ?_
  refine low_init (s := ⟨(hp.push (kdv_tup [v])).push (excO C hp.objs.size), g, dr, tk, os⟩) T (X.keeps k) (hlim.keeps k) hget hnx ?_ fun h' tk' dx ⟨k', hx, dn, dne, hns⟩ => ?_
  · show A.depth + 1 < recursionLimit
    exact hroom
  · have old : ∀ b o, hp.get? b = some o → h'.get? b = some o := fun b o e => k' b o (Nat.ne_of_lt (Nat.lt_succ_of_lt (Heap.lt_size e))) (k b o e)
    have z : hp.objs.size + 1 + 1 ≤ dx := by
      first
        | (simpa only [Heap.size_push] using dn)
        | exact dn
        | (have q := dn; rw [Heap.size_push, Heap.size_push] at q; exact q)
    exact ⟨rfl, hq h' tk' (hp.objs.size + 1) dx ⟨old, Nat.le_succ _, ⟨_, _, hx, rfl, rfl, rfl, rfl⟩, Nat.le_trans (Nat.le_trans (Nat.le_succ _) (Nat.le_succ _)) z, dne, hns⟩⟩
end
end BadTextX
end PySem
namespace L2
open PySem PySem.Spec PyProof.Rows
theorem relO_row {v : V} {v' : Value} (r : RelV v v') (f : Str) : RelO (List.lookup f [(("row" : Str), v)]) (if f = "row" then some v' else none) := by
  by_cases hw : f = "row"
  · subst hw
    rw [if_pos rfl]
    have q : List.lookup ("row" : Str) [(("row" : Str), v)] = some v := by simp [List.lookup]
    rw [q]
    exact r
  · rw [if_neg hw]
    have qw : (f == ("row" : Str)) = false := by simpa using hw
    have q2 : List.lookup f [(("row" : Str), v)] = none := by simp [List.lookup, qw]
    rw [q2]
    trivial
section
variable {X : Cx} {C fI : Addr}
/-- Low(e) -/
def tMkRow (C : Addr) (ta : TA) : St → Hp → XK → Prop := fun σ H Q => ta σ H fun vs H1 => ∃ v, vs = [v] ∧ ∀ d, H1 d = none → Q (.ref C) (some d) (upd H1 d (.xd [(("row" : Str), v)]))
theorem pmk_row {a : Expr} {ta : TA} {p pos : Pos} {k : Nat} (T : PySem.BadTextX.RowTxt X.K X.mg C fI) (hr : Room k X.A) (ha : PA X [a] ta) (hg : Gl X "BadText" := by rfl)
    (he : starEach (a :: []) X.env = (false, eval a X.env) :: starEach [] X.env := by rfl) (hpl : (backTo pos (starEach [] X.env)).any (·.1) = false := by rfl) :
    PMk X (.Call (.Name "BadText" p) [a] [] pos) (tMkRow C ta) := by
  intro pins s σ H Q I h
  refine wpAny_Call_Name_kw (ld_glob I hg T.gC ?_)
  refine PySem.W.callWith_K (h₀ := X.base) I.ok.mod.kin T.kC (thn (ha.run pos pins s σ H _ I h) fun us s1 hh => ?_) he hpl
  obtain ⟨vs, H1, I1, r1, v, ev, q1⟩ := hh
  subst ev
  refine ⟨I1.kIn, ?_⟩
  cases r1 with
  | cons rv rn =>
    rename_i v' us'
    cases rn
    show wpAny _ _ (call (.ref C) [v']) _ _ _
    have hlim := I1.nolimit
    obtain ⟨hp, g, dr, tk, os⟩ := s1
    refine wpAny_call (PySem.BadTextX.low_made T I1.kIn hlim (by have := hr.dp; omega) fun h' tk' e d M => ?_)
    show MkP X pins σ Q (.ref e) ⟨h', g, dr, tk', os⟩
    obtain ⟨oe, fv, hoe, hc, hd, hdat, h1⟩ := M.obj
    have hns := M.ns
    obtain ⟨G', g1, g2⟩ := restrict h' fun b => decide (b ≠ e)
    have gk : ∀ b, b ≠ e → G'.get? b = h'.get? b := fun b hb => g1 b (decide_eq_true hb)
    have ge : G'.get? e = none := g2 e (by simp)
    have old : ∀ b o, hp.get? b = some o → G'.get? b = some o := fun b o q => (gk b (Nat.ne_of_lt (Nat.lt_of_lt_of_le (Heap.lt_size q) M.new))).trans (M.keep b o q)
    have ob : ObjOk X.prog X.w (upd H1 d (.xd [(("row" : Str), v)])) G' d (.xd [(("row" : Str), v)]) :=
      ⟨_, hns.at (fun o q => (gk d M.dne).trans q), fun f => relO_row rv f⟩
    have J : Inv X pins σ (upd H1 d (.xd [(("row" : Str), v)])) ⟨G', g, dr, tk', os⟩ := I1.laid (t' := tk') old M.dbig ob
    refine ⟨e, oe, fv, ⟨G', g, dr, tk', os⟩, _, .ref C, some d, rfl, J, fun b o q => ?_, ge, hoe, ⟨hc, hd⟩, hdat, h1, ?_, rfl, I1.bare, raises_own T.exC T.tyC, q1 d (I1.hok.fresh M.dbig)⟩
    · by_cases hb : b = e
      · have q' : G'.get? b = some o := q
        rw [hb, ge] at q'; cases q'
      · exact (gk b hb).symm.trans q
    · rw [upd_ne (Ne.symm M.dne)]
      exact I1.hok.fresh M.new
/-- raise Low(e) -/
def tRaiseRow (C : Addr) (W : WX) (ta : TA) : TS := fun _ σ H => tMkRow C ta σ H fun cls d H' => W cls d σ H'
theorem ps_raiseRow {a : Expr} {ta : TA} {W : WX} {p pos pos2 : Pos} {k : Nat} (hc : X.calm = true) (T : PySem.BadTextX.RowTxt X.K X.mg C fI) (hr : Room k X.A) (tk : Takes X W) (ha : PA X [a] ta) (hg : Gl X "BadText" := by rfl)
    (he : starEach (a :: []) X.env = (false, eval a X.env) :: starEach [] X.env := by rfl) (hpl : (backTo pos (starEach [] X.env)).any (·.1) = false := by rfl) :
    PS X (.Raise (some (.Call (.Name "BadText" p) [a] [] pos)) none pos2) (tRaiseRow C W ta) := ps_raise hc tk (pmk_row T hr ha hg he hpl)
/-- low.by, low the exception that the suite holds (at a; its class cls, its dict d) -/
def tRowOf (C : Addr) (a : Addr) (cls : Value) (d : Option Addr) (te : TE) : TE := fun σ H Q => te σ H fun x H1 => x = .ref a ∧ cls = .ref C ∧ ∃ (dd : Addr) (v : V), d = some dd ∧ H1 dd = some (.xd [(("row" : Str), v)]) ∧ Q v H1
theorem pe_rowOf {a : Addr} {oe : Obj} {cls : Value} {d : Option Addr} {pn : List (Addr × Obj)} {e : Expr} {te : TE} {pos : Pos} (T : PySem.BadTextX.RowTxt X.K X.mg C fI) (hz : Zc cls d oe) (hf : ∃ vs, oe.data = .fields vs) (he : PE (X.suite a ((a, oe) :: pn)) e te)
    (hb : attributeBase e "row" X.env (eval e X.env) = eval e X.env := by rfl) :
    PE (X.suite a ((a, oe) :: pn)) (.Attribute e "row" pos) (tRowOf C a cls d te) := by
  refine ⟨fun pins s σ H Q I h => ?_⟩
  refine attr_of hb (thn (he.run pins s σ H _ I h) fun u s1 hh => ?_)
  obtain ⟨x, H1, I1, rx, ex, ec, dd, v, ed, ea, q⟩ := hh
  subst ex
  obtain rfl : u = Value.ref a := rx
  subst ec
  subst ed
  obtain ⟨ha, _⟩ := I1.pin (a, oe) (List.mem_append_left _ List.mem_cons_self)
  obtain ⟨vs, hd⟩ := hf
  have hx : ObjOk X.prog X.w H1 s1.heap dd (.xd [(("row" : Str), v)]) := I1.hok dd _ ea
  obtain ⟨mA, hns, hr⟩ := hx
  obtain ⟨od, ho, hl⟩ := lookIn_ns hns
  have l : List.lookup ("row" : Str) [(("row" : Str), v)] = some v := by simp [List.lookup]
  obtain ⟨u, hu, ru⟩ := RelO.some_of (v := v) (o := mA "row") (by rw [← l]; exact hr "row")
  have J : PySem.W.InstAt s1.heap a oe C (some od) := ⟨ha, hz.1, by unfold PySem.W.notCls; rw [hd] <;> rfl, by rw [hz.2]; exact ho⟩
  exact HandSPX.exc_get I1.kIn J T.ga T.gg T.exC (PySem.W.findObj_own T.hdC T.noN rfl (by rw [hl, hu])) (handed_of ru) ⟨v, H1, I1.tok _, ru, q⟩
end
end L2

namespace L2
open PySem PySem.Spec PyProof.Rows
/-- an if whose test is known -/
theorem if_true_of {c : Bool} {A B : Prop} (hc : c = true) (h : A) : if c = true then A else B := by
  rw [if_pos hc]
  exact h
theorem if_false_of {c : Bool} {A B : Prop} (hc : c = false) (h : B) : if c = true then A else B := by
  rw [hc, if_neg Bool.false_ne_true]
  exact h
end L2

set_option Elab.async false
set_option linter.all false
set_option maxRecDepth 100000
set_option maxHeartbeats 4000000
namespace K6
open PySem PySem.Spec PyProof.Rows L2 LF
/-- what the rows give: the entries, or the index of the first row that is none -/
def readR : List Str → Nat → List (Key × V) → Str → Option (Except Nat (List (Key × V)))
  | [], _, kvs, _ => some (.ok kvs)
  | row :: rest, i, kvs, last => match entryS row with
    | none => none
    | some none => some (.error i)
    | some (some (p, v)) => if contS kvs last p = true then readR rest (i + 1) (putK kvs (.inr p) v) p else some (.error i)
def readT (z : Str) : Option (Except Nat (List (Key × V))) := if z = "" then some (.ok []) else readR (PySem.Txt.split z "\n") 0 [] ""
def spEs (K : PySem.W.Frag) (CT : Addr) : Sp := fun vs H Q E => ∃ x, vs = [x] ∧
  ((∃ (z : Str) (r : Except Nat (List (Key × V))), x = .str z ∧ z.length ≤ 1000000 ∧ PyData.strOk z = true ∧ readT z = some r ∧
    (∀ kvs, r = .ok kvs → ∀ H' p, Same H H' → H p = none → H' p = some (.dK kvs) → Q (.ref p) H') ∧
    (∀ i : Nat, r = .error i → ∀ H' d, Same H H' → H' d = some (.xd [("row", .int i)]) → E (.ref CT) (some d) H')) ∨
   ((∃ t, TyX K H x t ∧ PySem.W.kitOne K t (.type "str") = some false) ∧ ∀ H' d, Same H H' → H' d = some (.xd [("row", .int (-1))]) → E (.ref CT) (some d) H'))
theorem entryS_pl {z p : Str} {v : V} (h : entryS z = some (some (p, v))) : isPl p = true ∧ p.length ≤ z.length := by
  unfold entryS at h
  have hws : ∀ s ∈ PySem.Txt.split z " ", s.length ≤ z.length := fun s hs => part_short hs
  generalize PySem.Txt.split z " " = ws at h hws
  cases ws with
  | nil => cases h
  | cons w0 rest =>
    have h0 := hws w0 List.mem_cons_self
    simp only at h
    cases hp : isPl w0 with
    | false => rw [hp, if_neg Bool.false_ne_true] at h; cases h
    | true =>
      rw [hp, if_pos rfl] at h
      have fin : ∀ {u : V}, (some (some (w0, u)) : Option (Option (Str × V))) = some (some (p, v)) → isPl p = true ∧ p.length ≤ z.length := fun e => by
        cases e
        exact ⟨hp, h0⟩
      by_cases h1 : rest = [("folder" : Str)]
      · rw [if_pos h1] at h; exact fin h
      · rw [if_neg h1] at h
        match rest, h with
        | [], h => cases h
        | [a], h => cases h
        | a :: b :: c :: l, h => cases h
        | [a, b], h =>
          simp only at h
          by_cases h2 : a = "file"
          · rw [if_pos h2] at h
            cases hc : contentS b with
            | none => rw [hc] at h; cases h
            | some o => rw [hc] at h; cases o with
              | none => cases h
              | some n => exact fin h
          · rw [if_neg h2] at h
            by_cases h3 : a = "to"
            · rw [if_pos h3] at h
              cases hc : targetS b with
              | none => rw [hc] at h; cases h
              | some t => rw [hc] at h; exact fin h
            · rw [if_neg h3] at h; cases h
theorem isPl_pt {p : Str} (h : isPl p = true) : isPt p = true ∧ ¬ p = "" := by
  unfold isPl at h
  rw [Bool.and_eq_true, decide_eq_true_eq] at h
  refine ⟨h.1, fun e => ?_⟩
  rw [e] at h
  exact absurd h.2.1 (by decide +kernel)
abbrev s_entries_of : Stmt := topS 44
theorem sc_entries_of : FnScope ["text", "entries", "last", "rows", "at", "entry"] ["text"] (defScope s_entries_of) := ⟨rfl, rfl, rfl, by decide +kernel, rfl, by decide +kernel, by decide +kernel⟩
section
variable {P : Program} {w : World} {K : PySem.W.Frag} {mg : Str → Option Value} {base : Heap} {tk1 tk2 : Tok}
theorem ok_entries_of {f f1 f2 CT fT : Addr} {fd fd1 fd2 : FuncData} (F : Fun K "entries_of" "entries_of" s_entries_of f fd) (T : Txt K mg tk1 tk2) (L : PySem.BadTextX.RowTxt K mg CT fT) (d_entry : DefAt P w K mg base "entry_of" 5 f1 fd1 ["row"] spEn)
    (d_cont : DefAt P w K mg base "continues" 5 f2 fd2 ["entries", "last", "path"] spCont) : FnOk P w K mg base (L2.CX P w) 6 f fd ["text"] (spEs K CT) := by
  refine F.okX sc_entries_of (fun vs H Q E h => ?_) (fun cdv A outer s H vs Q E hr h => ?_)
  · obtain ⟨x, rfl, _⟩ := h
    rfl
  have hu1 := hu_of hr
  refine ⟨_, (pss_cons (ps_if (pt_not (pt_val (pe_callB call_isi (by rfl) T.n_isinstance (by decide +kernel) (pa_cons (pv 0) (pa_cons (pe_bltn (v := .ty "str") (by rfl) T.n_str (by decide +kernel) rfl) pa_nil))))) (pss_one (ps_raiseRow rfl L hr (takes_of rfl rfl rfl rfl) (by exact (pa_cons (pe_un un_neg pe_int) pa_nil)))) pss_nil)
    (pss_cons (ps_set (i := 1) sc_entries_of.nd rfl (Or.inl rfl) pe_dnewK)
    (pss_cons (ps_if (pt_cmpR op_eq (pv 0) pe_str (nomark _)) (pss_one (ps_ret (pv 1))) pss_nil)
    (pss_cons (ps_set (i := 2) sc_entries_of.nd rfl (Or.inl rfl) pe_str)
    (pss_cons (ps_set (i := 3) sc_entries_of.nd rfl (Or.inl rfl) (pe_split (pv 0) pe_str))
    (pss_cons (ps_for (passes_of rfl) rfl (pi_range1 (by rfl) T.n_range (pa_cons (pe_callB call_len_seq (by rfl) T.n_len (by decide +kernel) (pa_cons (pv 3) pa_nil)) pa_nil)) (pg_name (i := 4) sc_entries_of.nd rfl (Or.inl rfl)) (pss_cons (ps_set (i := 5) sc_entries_of.nd rfl (Or.inl rfl) (pe_callD d_entry (hr.mono (by decide)) (pa_cons (pe_ix ix_list (pv 3) (pv 4) (fun _ _ => rfl)) pa_nil)))
    (pss_cons (ps_if (PW.pt (pw_or (pt_cmpR op_isN (pv 5) pe_non (nomark _)) (pw_or1 (pt_not (pt_val (pe_callD d_cont (hr.mono (by decide)) (pa_cons (pv 1) (pa_cons (pv 2) (pa_cons (pe_ix ix_tup (pv 5) pe_int (fun _ _ => rfl)) pa_nil))))))))) (pss_one (ps_raiseRow rfl L hr (takes_of rfl rfl rfl rfl) (by exact (pa_cons (pv 4) pa_nil)))) pss_nil)
    (pss_cons (ps_set (i := 2) sc_entries_of.nd rfl (Or.inl rfl) (pe_ix ix_tup (pv 5) pe_int (fun _ _ => rfl)))
    (pss_one (ps_dput hu1 (pv 1) (pv 2) (pe_ix ix_tup (pv 5) pe_int (fun _ _ => rfl)) rfl))))))
    (pss_one (ps_ret (pv 1))))))))), ?_⟩
  obtain ⟨x, rfl, h⟩ := h
  rcases h with ⟨z, r, rfl, hz, hok, hrd, hq, he⟩ | ⟨⟨t, ty, ht⟩, he⟩
  rotate_left
  · refine ⟨_, rfl, _, .ty "str", _, _, false, rfl, .ty _, ty, ht, ?_⟩
    refine ⟨_, rfl, iteT ?_⟩
    exact ⟨_, rfl, _, rfl, fun d hd => he _ d (same_new hd) upd_same⟩
  refine ⟨_, rfl, _, .ty "str", _, _, true, rfl, .ty _, .base (.str _), kit_str, _, rfl, iteF ?_⟩
  intro d hd
  refine ⟨_, rfl, rfl, _, rfl, ?_⟩
  rw [str_dec]
  unfold readT at hrd
  have hbig := sizeLine_big
  have nl_ne : (("\n" : Str).length == 0) = false := by decide +kernel
  refine ifD (fun h1 => ?_) (fun h1 => ?_)
  · rw [if_pos h1] at hrd
    cases hrd
    exact ⟨_, rfl, hq _ rfl _ d (same_new hd) hd upd_same⟩
  rw [if_neg h1] at hrd
  refine ⟨_, rfl, ⟨_, rfl⟩, z, "\n", rfl, rfl, nl_ne, by omega, fun pw hpw => ?_⟩
  have hws : ∀ s ∈ PySem.Txt.split z "\n", s.length ≤ z.length ∧ PyData.strOk s = true := fun s hs => ⟨part_short hs, strOk_sub hok (part_chars hs)⟩
  have hwl := split_le z "\n"
  generalize PySem.Txt.split z "\n" = rows at hrd hws hwl
  have ndw : d ≠ pw := ne_of_none upd_same hpw
  have S0 : Same H (upd (upd H d (.dK [])) pw (.lst (rows.map V.str))) := (same_new hd).trans (same_new hpw)
  refine ⟨_, rfl, pw, _, rfl, Or.inl (SqL.of upd_same), ?_⟩
  rw [List.length_map]
  refine ⟨rows.length, rfl, by omega, by omega, for_range (lo := 0) (fun i σ H' => ∃ kvs last v4 v5, σ = [some (.str z), some (.ref d), some (.str last), some (.ref pw), v4, v5] ∧ Same H H' ∧ H' d = some (.dK kvs) ∧ H' pw = some (.lst (rows.map V.str)) ∧ kvs.length ≤ i ∧ last.length ≤ 1000000 ∧ readR (rows.drop i) i kvs last = some r)
    ⟨[], "", _, _, rfl, S0, by rw [upd_ne ndw]; exact upd_same, upd_same, Nat.zero_le _, by decide +kernel, by rw [List.drop_zero]; exact hrd⟩ ?_ ?_⟩
  · rintro i σ H1 hi ⟨kvs, last, v4, v5, rfl, sm, hd1, hw1, hk, hl, hr1⟩
    have hi' : i < rows.length := by omega
    have hrow := hws rows[i] (List.getElem_mem hi')
    rw [List.drop_eq_getElem_cons hi'] at hr1
    unfold readR at hr1
    cases hes : entryS rows[i] with
    | none => rw [hes] at hr1; cases hr1
    | some o =>
      rw [hes] at hr1
      have hat : atI (rows.map V.str) (0 + (i : Int)) = some (.str rows[i]) := by
        have := atI_nat (xs := rows.map V.str) (j := i) (v := .str rows[i]) (by rw [List.getElem?_map, List.getElem?_eq_getElem hi']; rfl)
        rw [Int.zero_add]; exact this
      refine ⟨_, rfl, _, rfl, pw, _, _, .str rows[i], rfl, rfl, SqL.of hw1, hat, rows[i], o, rfl, by omega, hrow.2, hes, fun hno H2 s2 => ?_, fun p v hso H2 q s2 hq2 => ?_⟩
      · subst hno
        cases hr1
        refine ⟨_, rfl, rfl, _, rfl, ?_⟩
        refine ifD (fun _ => ?_) (fun h => absurd rfl h)
        exact ⟨_, rfl, _, rfl, fun dx hdx => he i rfl _ dx ((sm.trans s2).trans (same_new hdx)) (by rw [upd_same, Int.zero_add])⟩
      · subst hso
        simp only at hr1
        obtain ⟨hpl, hpn⟩ := entryS_pl hes
        obtain ⟨hpt, hpe⟩ := isPl_pt hpl
        have hpn2 : p.length ≤ 1000000 := by omega
        refine ⟨_, rfl, rfl, _, rfl, ?_⟩
        refine ifD (fun h => nomatch h) (fun _ => ?_)
        refine ⟨_, rfl, _, rfl, _, rfl, q, _, _, .str p, rfl, rfl, SqT.of hq2, atI_nat (j := 0) rfl, d, kvs, last, p, rfl, s2 _ _ hd1, hl, hpn2, hpt, hpe, fun H3 s3 => ⟨_, rfl, ?_⟩⟩
        have hq3 := s3 _ _ hq2
        have hd3 := s3 _ _ (s2 _ _ hd1)
        have hw3 := s3 _ _ (s2 _ _ hw1)
        have sm3 := (sm.trans s2).trans s3
        cases hb : contS kvs last p with
        | false =>
          rw [hb, if_neg Bool.false_ne_true] at hr1
          cases hr1
          refine iteT ?_
          exact ⟨_, rfl, _, rfl, fun dx hdx => he i rfl _ dx (sm3.trans (same_new hdx)) (by rw [upd_same, Int.zero_add])⟩
        | true =>
          rw [hb, if_pos rfl] at hr1
          refine iteF ?_
          refine ⟨_, rfl, q, _, _, .str p, rfl, rfl, SqT.of hq3, atI_nat (j := 0) rfl, ?_⟩
          refine ⟨_, rfl, q, _, _, v, rfl, rfl, SqT.of hq3, atI_nat (j := 1) rfl, _, rfl, _, rfl, d, _, rfl, DPut.k (k := Sum.inr p) hd3 (by omega), ?_⟩
          have hlp := length_putK kvs (.inr p : Key) v
          refine ⟨_, p, _, _, rfl, fun b o e => ?_, upd_same, ?_, by omega, hpn2, hr1⟩
          · rw [upd_ne (ne_of_none e hd)]; exact sm3 b o e
          · rw [upd_ne ndw.symm]; exact hw3
  · rintro σ H1 ⟨kvs, last, v4, v5, rfl, sm, hd1, hw1, hk, hl, hr1⟩
    rw [List.drop_of_length_le (by omega)] at hr1
    unfold readR at hr1
    cases hr1
    exact ⟨_, rfl, hq kvs rfl H1 d sm hd hd1⟩
end
end K6

set_option Elab.async false
set_option linter.all false
set_option maxRecDepth 100000
set_option maxHeartbeats 4000000
namespace K6
open PySem PySem.Spec PyProof.Rows L2 LF
example : PySem.W.dataLe false keyD "a" "b" = true := by decide +kernel
/-- the paths above a path, the root left out -/
def begs (p : Str) : List Str := (List.range ((parts p).length - 1)).map fun i => PySem.Txt.join c_sl ((parts p).take (i + 1))
def spBeg : Sp := fun vs H Q _ => ∃ z : Str, vs = [.str z] ∧ z.length ≤ 1000000 ∧ isPl z = true ∧ ∀ H' p, Same H H' → H p = none → H' p = some (.lst ((begs z).map V.str)) → Q (.ref p) H'
abbrev s_beginnings : Stmt := topS 19
abbrev N_beginnings : List Str := ["path", "parts", "many"]
theorem sc_beginnings : FnScope ["path", "parts", "many"] ["path"] (defScope s_beginnings) := ⟨rfl, rfl, rfl, by decide +kernel, rfl, by decide +kernel, by decide +kernel⟩
theorem cut_head (l : List Str) (k : Nat) : cutV (l.map V.str) none (some (k : Int)) = (l.take k).map V.str := by
  unfold cutV
  rw [HT.sIx_none, HT.sIx_nat, List.drop_zero, Nat.sub_zero, ← List.map_take]
  congr 1
  by_cases h : k ≤ (l.map V.str).length
  · rw [Nat.min_eq_left h]
  · rw [List.length_map] at h
    rw [Nat.min_eq_right (by rw [List.length_map]; omega), List.length_map, List.take_of_length_le (Nat.le_refl _), List.take_of_length_le (by omega)]
theorem isPl_parts {z : Str} (h : isPl z = true) : (∀ s ∈ parts z, isNm s = true) ∧ 1 ≤ (parts z).length ∧ (parts z).length ≤ 10 := by
  have hp := isPl_pt h
  unfold isPl at h
  rw [Bool.and_eq_true, decide_eq_true_eq] at h
  refine ⟨?_, h.2.1, h.2.2⟩
  have h1 := h.1
  unfold isPt at h1
  rw [decide_eq_false hp.2, Bool.false_or, List.all_eq_true] at h1
  unfold parts
  rw [if_neg hp.2]
  exact h1
def rJoin (K : PySem.W.Frag) : V → List V → Hp → VK → Prop := fun x xs H Q => ∃ a p, ∃ ys : List Str, x = .str a ∧ xs = [.ref p] ∧ (SqL K H p (ys.map V.str) ∨ SqT K H p (ys.map V.str)) ∧
  (ys.map (·.length)).sum + ys.length * a.length ≤ 16777216 ∧ Q (.str (PySem.Txt.join a ys)) H
section
variable {P : Program} {w : World} {K : PySem.W.Frag} {mg : Str → Option Value} {base : Heap} {tk1 tk2 : Tok}
theorem ok_beginnings {f f1 : Addr} {fd fd1 : FuncData} (F : Fun K "beginnings" "beginnings" s_beginnings f fd) (T : Txt K mg tk1 tk2) (d_split : DefAt P w K mg base "split_path" 1 f1 fd1 ["path"] spSplit) : FnOk P w K mg base CX0 2 f fd ["path"] spBeg := by
  refine F.ok sc_beginnings (fun vs H Q E h => ?_) (fun cdv A outer s H vs Q E hr h => ?_)
  · obtain ⟨z, rfl, _⟩ := h
    rfl
  refine ⟨_, (pss_cons (ps_set (i := 1) sc_beginnings.nd rfl (Or.inr rfl) (pe_callD d_split (hr.mono (by decide)) (pa_cons (pv 0) pa_nil)))
    (pss_one (ps_ret (pe_lc (own := [("many", 2)]) rfl sc_beginnings.nd (pi_range2 (by rfl) T.n_range (pa_cons pe_int (pa_cons (pe_callB call_len_seq (by rfl) T.n_len (by decide +kernel) (pa_cons (pv 1) pa_nil)) pa_nil))) (blkOk_by (N := N_beginnings) (sc := defScope s_beginnings) (by decide +kernel)) (fun _ _ _ _ _ => pg_name (i := 2) sc_beginnings.nd rfl (Or.inl rfl)) (fun _ _ _ _ _ => pts_nil) (fun _ _ _ _ _ => (pe_m1 PySem.F.slot_str_join PySem.F.type_str_join (show MtR _ "str.join" (rJoin K) from mt_join) pe_str (pe_slice (show SlR _ (rSlL K) from sl_list) (pv 1) po_none (po_some (pv 2))) rfl rfl rfl)))))), ?_⟩
  obtain ⟨z, rfl, hz, hpl, hq⟩ := h
  obtain ⟨hn, hp1, hp2⟩ := isPl_parts hpl
  refine ⟨_, rfl, z, rfl, hz, fun H1 pp s1 np hpp => ?_⟩
  refine ⟨_, rfl, pp, _, rfl, Or.inl (SqL.of hpp), ?_⟩
  rw [List.length_map]
  refine ⟨1, (parts z).length, rfl, ⟨by decide, by decide, by omega, by omega⟩, fun D hD => ?_⟩
  have hn1 : (((parts z).length : Int) - 1).toNat = (parts z).length - 1 := by omega
  rw [hn1]
  refine lc_it walk_range (fun i H' => Same H1 H' ∧ H' D = some (.lst (((begs z).take i).map V.str))) ⟨same_new hD, by rw [upd_same]; rfl⟩ (fun _ _ _ _ => trivial) ?_ ?_
  · rintro i x H2 H3 hi ⟨sm, hd⟩ ⟨rfl, rfl⟩
    refine ⟨rfl, ?_⟩
    have hb : (begs z)[i]? = some (PySem.Txt.join c_sl ((parts z).take (i + 1))) := by
      unfold begs
      rw [List.getElem?_map, List.getElem?_range hi]; rfl
    refine ⟨⟨_, rfl⟩, _, rfl, _, rfl, _, rfl, pp, _, rfl, SqL.of (sm _ _ hpp), fun ps hps => ?_⟩
    have ei : (1 : Int) + (i : Int) = ((i + 1 : Nat) : Int) := by omega
    rw [ei, cut_head]
    have hsum := sum_le (ss := (parts z).take (i + 1)) (n := 8) fun s hs => (isNm_len (hn s (List.mem_of_mem_take hs))).2
    have hlt : ((parts z).take (i + 1)).length ≤ 10 := by rw [List.length_take]; omega
    have c1 : c_sl.length = 1 := by decide +kernel
    refine ⟨_, ps, (parts z).take (i + 1), rfl, rfl, Or.inl (SqL.of upd_same), ?_, ?_⟩
    · show (((parts z).take (i + 1)).map (·.length)).sum + ((parts z).take (i + 1)).length * c_sl.length ≤ 16777216
      rw [c1]; omega
    have hnD : ps ≠ D := Ne.symm (ne_of_none hd hps)
    refine ⟨_, same_new hps _ _ hd, ?_, ?_, ?_⟩
    · rw [List.length_map, List.length_take]
      have : (begs z).length ≤ 10 := by unfold begs; rw [List.length_map, List.length_range]; omega
      exact Nat.lt_of_le_of_lt (show _ ≤ 10 by omega) (by decide)
    · intro b o e
      rw [upd_ne (ne_of_none e (s1.free hD |> fun _ => hD))]
      exact same_new hps _ _ (sm _ _ e)
    · have et : (begs z).take (i + 1) = (begs z).take i ++ [PySem.Txt.join c_sl ((parts z).take (i + 1))] := by rw [List.take_add_one, hb]; rfl
      rw [upd_same, et, List.map_append]; rfl
  · rintro H2 ⟨sm, hd⟩
    have hl : (begs z).length = (parts z).length - 1 := by unfold begs; rw [List.length_map, List.length_range]
    rw [List.take_of_length_le (by omega)] at hd
    exact hq H2 D (s1.trans sm) (s1.free hD) hd
end
end K6

set_option Elab.async false
set_option linter.all false
set_option maxRecDepth 100000
set_option maxHeartbeats 4000000
namespace K6
open PySem PySem.Spec PyProof.Rows L2 LF
def kv (es : List (Str × V)) : List (Key × V) := es.map fun e => (.inr e.1, e.2)
/-- entries that a package may have: every parent is there, a folder; in order -/
structure OkE (es : List (Str × V)) : Prop where
  pl : ∀ e ∈ es, isPl e.1 = true ∧ e.1.length ≤ 1000000
  it : ∀ e ∈ es, Plain e.2 ∧ itemV e.2 = true
  up : ∀ e ∈ es, ∀ s ∈ begs e.1, valV (kv es) (.inr s) = some .non
  le : (es.map (·.1)).Pairwise fun a b => PySem.W.dataLe false keyD a b = true
  nd : (es.map (·.1)).Nodup
  len : es.length ≤ 1000000
theorem same_unlock {H H' : Hp} {d : Addr} {u : HO} {o : Obj} (h : H d = some u) (s : Same (upd H d (.frz o u)) H') : Same H (upd H' d u) := fun b x e => by
  by_cases hb : b = d
  · subst hb
    rw [upd_same, ← e, h]
  · rw [upd_ne hb]
    exact s b x (by rw [upd_ne hb]; exact e)
theorem kv_get {es : List (Str × V)} {i : Nat} {k : Key} {v : V} (h : (kv es)[i]? = some (k, v)) : ∃ p, k = .inr p ∧ es[i]? = some (p, v) ∧ (p, v) ∈ es := by
  unfold kv at h
  rw [List.getElem?_map] at h
  cases e : es[i]? with
  | none => rw [e] at h; cases h
  | some q =>
    rw [e] at h
    obtain ⟨p, u⟩ := q
    have h2 := Option.some.inj h
    cases h2
    exact ⟨p, rfl, rfl, List.mem_of_getElem? e⟩
theorem val_mem {es : List (Str × V)} {p : Str} {v : V} (nd : (es.map (·.1)).Nodup) (h : (p, v) ∈ es) : valV (kv es) (.inr p) = some v := by
  unfold valV kv
  induction es with
  | nil => cases h
  | cons e l ih =>
    rw [List.map_cons, List.nodup_cons] at nd
    rw [List.map_cons, List.find?_cons]
    by_cases he : e.1 = p
    · have : decide (((.inr e.1 : Key), e.2).1 = (.inr p : Key)) = true := decide_eq_true (by show (.inr e.1 : Key) = .inr p; rw [he])
      rw [this]
      rcases List.mem_cons.mp h with q | q
      · rw [← q]; rfl
      · exact absurd (by rw [he]; exact List.mem_map.mpr ⟨_, q, rfl⟩) nd.1
    · have : decide (((.inr e.1 : Key), e.2).1 = (.inr p : Key)) = false := decide_eq_false (fun q => he (Sum.inr.inj q))
      rw [this]
      rcases List.mem_cons.mp h with q | q
      · exact absurd (by rw [← q]) he
      · exact ih nd.2 q
theorem begs_facts {p : Str} (h : isPl p = true) (hl : p.length ≤ 1000000) : ∀ s ∈ begs p, isPl s = true ∧ s.length ≤ 1000000 ∧ ∀ t ∈ begs s, t ∈ begs p := by
  obtain ⟨h1, h2, h3⟩ := isPl_parts h
  intro s hs
  have hs' := hs
  unfold begs at hs'
  obtain ⟨i, hi, rfl⟩ := List.mem_map.mp hs'
  have hi2 := List.mem_range.mp hi
  have hn : ∀ t ∈ (parts p).take (i + 1), isNm t = true := fun t ht => h1 t (List.mem_of_mem_take ht)
  have hpj := parts_join hn
  have hlen : ((parts p).take (i + 1)).length = i + 1 := by rw [List.length_take]; omega
  refine ⟨?_, ?_, ?_⟩
  · unfold isPl
    rw [isPt_join hn, hpj, hlen, Bool.true_and]
    exact decide_eq_true ⟨by omega, by omega⟩
  · have := join_len_le hn
    rw [hlen] at this
    omega
  · intro t ht
    unfold begs at ht
    rw [hpj, hlen] at ht
    obtain ⟨j, hj, rfl⟩ := List.mem_map.mp ht
    have hj2 := List.mem_range.mp hj
    unfold begs
    refine List.mem_map.mpr ⟨j, List.mem_range.mpr (by omega), ?_⟩
    rw [List.take_take]
    congr 2
    omega
/-- entries that a package may be made of: no file or reference lies ahead of another one; in any order, with or without the folders ahead -/
structure OkU (es : List (Str × V)) : Prop where
  pl : ∀ e ∈ es, isPl e.1 = true ∧ e.1.length ≤ 1000000
  it : ∀ e ∈ es, Plain e.2 ∧ itemV e.2 = true
  up : ∀ e ∈ es, ∀ s ∈ begs e.1, valV (kv es) (.inr s) = none ∨ valV (kv es) (.inr s) = some .non
  nd : (es.map (·.1)).Nodup
/-- folders put in where nothing is -/
def addB (a : List (Str × V)) (bs : List Str) : List (Str × V) := bs.foldl (fun a s => if s ∈ a.map (·.1) then a else a ++ [(s, .non)]) a
def fullN (es ps : List (Str × V)) : List (Str × V) := ps.foldl (fun a e => addB a (begs e.1)) es
def fullU (es : List (Str × V)) : List (Str × V) := fullN es es
def pkE (es : List (Str × V)) : List (Str × V) := (((fullU es).map (·.1)).mergeSort (PySem.W.dataLe false keyD)).map fun p => (p, (valV (kv (fullU es)) (.inr p)).getD .non)
theorem val_no {es : List (Str × V)} {p : Str} (h : p ∉ es.map (·.1)) : valV (kv es) (.inr p) = none := by
  unfold valV kv
  rw [Option.map_eq_none_iff, List.find?_eq_none]
  intro q hq
  obtain ⟨e, he, rfl⟩ := List.mem_map.mp hq
  rw [decide_eq_true_eq]
  intro z
  exact h (List.mem_map.mpr ⟨e, he, Sum.inr.inj z⟩)
/-- what is true of entries with more and more folders -/
structure Grown (es a : List (Str × V)) : Prop where
  sub : ∀ e ∈ es, e ∈ a
  new : ∀ e ∈ a, e ∈ es ∨ (e.2 = .non ∧ e.1 ∉ es.map (·.1) ∧ ∃ q ∈ es, e.1 ∈ begs q.1)
  nd : (a.map (·.1)).Nodup
theorem Grown.refl {es : List (Str × V)} (nd : (es.map (·.1)).Nodup) : Grown es es := ⟨fun _ h => h, fun _ h => Or.inl h, nd⟩
theorem Grown.add {es : List (Str × V)} {q : Str × V} (hq : q ∈ es) : ∀ (bs : List Str) (a : List (Str × V)), (∀ s ∈ bs, s ∈ begs q.1) → Grown es a → Grown es (addB a bs) ∧ (∀ e ∈ a, e ∈ addB a bs) ∧ ∀ s ∈ bs, s ∈ (addB a bs).map (·.1)
  | [], a, _, g => ⟨g, fun _ h => h, fun _ h => nomatch h⟩
  | s :: bs, a, hb, g => by
    have g1 : Grown es (if s ∈ a.map (·.1) then a else a ++ [(s, .non)]) := by
      split
      · exact g
      · rename_i hs
        refine ⟨fun e he => List.mem_append_left _ (g.sub e he), fun e he => ?_, ?_⟩
        · rcases List.mem_append.mp he with he | he
          · exact g.new e he
          · obtain rfl := List.mem_singleton.mp he
            refine Or.inr ⟨rfl, fun h => ?_, q, hq, hb s List.mem_cons_self⟩
            obtain ⟨e2, he2, e3⟩ := List.mem_map.mp h
            exact hs (List.mem_map.mpr ⟨e2, g.sub e2 he2, e3⟩)
        · rw [List.map_append, List.map_cons, List.map_nil, List.nodup_append]
          refine ⟨g.nd, by simp, fun x hx y hy e => ?_⟩
          rw [List.mem_singleton.mp hy] at e
          have e' : x = s := e
          rw [e'] at hx
          exact hs hx
    obtain ⟨i1, i2, i3⟩ := Grown.add hq bs _ (fun t ht => hb t (List.mem_cons_of_mem _ ht)) g1
    refine ⟨i1, fun e he => i2 e ?_, fun t ht => ?_⟩
    · split
      · exact he
      · exact List.mem_append_left _ he
    · rcases List.mem_cons.mp ht with rfl | ht
      · have : t ∈ (if t ∈ a.map (·.1) then a else a ++ [(t, .non)]).map (·.1) := by
          split
          · assumption
          · rw [List.map_append]; exact List.mem_append_right _ List.mem_cons_self
        obtain ⟨e, he, e3⟩ := List.mem_map.mp this
        exact List.mem_map.mpr ⟨e, i2 e he, e3⟩
      · exact i3 t ht
theorem Grown.full {es : List (Str × V)} : ∀ (ps a : List (Str × V)), (∀ q ∈ ps, q ∈ es) → Grown es a → Grown es (fullN a ps) ∧ (∀ e ∈ a, e ∈ fullN a ps) ∧ ∀ q ∈ ps, ∀ s ∈ begs q.1, s ∈ (fullN a ps).map (·.1)
  | [], a, _, g => ⟨g, fun _ h => h, fun _ h => nomatch h⟩
  | q :: ps, a, hp, g => by
    obtain ⟨g1, m1, b1⟩ := Grown.add (hp q List.mem_cons_self) (begs q.1) a (fun _ h => h) g
    obtain ⟨g2, m2, b2⟩ := Grown.full ps (addB a (begs q.1)) (fun r hr => hp r (List.mem_cons_of_mem _ hr)) g1
    refine ⟨g2, fun e he => m2 e (m1 e he), fun r hr s hs => ?_⟩
    rcases List.mem_cons.mp hr with rfl | hr
    · obtain ⟨e, he, e3⟩ := List.mem_map.mp (b1 s hs)
      exact List.mem_map.mpr ⟨e, m2 e he, e3⟩
    · exact b2 r hr s hs
end K6

set_option Elab.async false
set_option linter.all false
set_option maxRecDepth 100000
set_option maxHeartbeats 4000000
namespace K6
open PySem PySem.Spec PyProof.Rows L2 LF
abbrev pLt (a b : Str) : Bool := PySem.W.dataLt (keyD a) (keyD b)
abbrev pLe (a b : Str) : Bool := PySem.W.dataLe false keyD a b
theorem pLe_eq (a b : Str) : pLe a b = !pLt b a := by
  show PySem.W.dataLe false keyD a b = _
  rw [PySem.W.dataLe_eq]; rfl
theorem pLt_trans {a b c : Str} (h1 : pLt a b = true) (h2 : pLt b c = true) : pLt a c = true := PyProof.Rows.lex_trans _ _ _ h1 h2
theorem pLt_irrefl (a : Str) : pLt a a = false := PyProof.Rows.lex_irrefl _
theorem pLe_trans (a b c : Str) (h1 : pLe a b = true) (h2 : pLe b c = true) : pLe a c = true := by
  rw [pLe_eq] at *
  cases h : pLt c a with
  | false => rfl
  | true =>
    rcases PyProof.Rows.lex_negTrans _ (PySem.W.keyToks (keyD b)) _ h with h3 | h3
    · rw [show pLt c b = true from h3] at h2; cases h2
    · rw [show pLt b a = true from h3] at h1; cases h1
theorem pLe_total (a b : Str) : (pLe a b || pLe b a) = true := by
  rw [pLe_eq, pLe_eq]
  cases h1 : pLt b a with
  | false => rfl
  | true =>
    cases h2 : pLt a b with
    | false => rfl
    | true => exact absurd (pLt_trans h1 h2) (by rw [pLt_irrefl]; exact Bool.false_ne_true)
theorem sort_mem {l : List Str} {p : Str} : p ∈ l.mergeSort pLe ↔ p ∈ l := (List.mergeSort_perm l pLe).mem_iff
theorem full_grown {es : List (Str × V)} (h : OkU es) : Grown es (fullU es) ∧ ∀ q ∈ es, ∀ s ∈ begs q.1, s ∈ (fullU es).map (·.1) := by
  obtain ⟨a, _, b⟩ := Grown.full es es (fun _ h => h) (Grown.refl h.nd)
  exact ⟨a, b⟩
theorem pkE_keys (es : List (Str × V)) : (pkE es).map (·.1) = ((fullU es).map (·.1)).mergeSort pLe := by
  unfold pkE
  rw [List.map_map]
  exact List.map_id _
theorem mem_pkE {es : List (Str × V)} (h : OkU es) {e : Str × V} : e ∈ pkE es ↔ e ∈ fullU es := by
  have nd := (full_grown h).1.nd
  unfold pkE
  rw [List.mem_map]
  constructor
  · rintro ⟨p, hp, rfl⟩
    obtain ⟨e2, he2, rfl⟩ := List.mem_map.mp (sort_mem.mp hp)
    rw [val_mem nd (p := e2.1) (v := e2.2) he2]
    exact he2
  · intro he
    refine ⟨e.1, sort_mem.mpr (List.mem_map.mpr ⟨e, he, rfl⟩), ?_⟩
    rw [val_mem nd (p := e.1) (v := e.2) he]; rfl
theorem pkE_nd {es : List (Str × V)} (h : OkU es) : ((pkE es).map (·.1)).Nodup := by
  rw [pkE_keys]
  exact ((List.mergeSort_perm _ pLe).nodup_iff).mpr (full_grown h).1.nd
theorem full_pl {es : List (Str × V)} (h : OkU es) : ∀ e ∈ fullU es, (isPl e.1 = true ∧ e.1.length ≤ 1000000) ∧ (Plain e.2 ∧ itemV e.2 = true) ∧ ∀ s ∈ begs e.1, (s, V.non) ∈ fullU es := by
  obtain ⟨g, gb⟩ := full_grown h
  have non : ∀ q ∈ es, ∀ s ∈ begs q.1, (s, V.non) ∈ fullU es := fun q hq s hs => by
    obtain ⟨e2, he2, rfl⟩ := List.mem_map.mp (gb q hq s hs)
    have e3 : e2.2 = .non := by
      rcases g.new e2 he2 with h2 | ⟨h2, _⟩
      · have hv := val_mem h.nd (p := e2.1) (v := e2.2) h2
        rcases h.up q hq e2.1 hs with h3 | h3
        · rw [hv] at h3; cases h3
        · rw [hv] at h3; exact Option.some.inj h3
      · exact h2
    rw [← e3]; exact he2
  intro e he
  rcases g.new e he with h1 | ⟨h1, _, q, hq, hb⟩
  · exact ⟨h.pl e h1, h.it e h1, non e h1⟩
  · obtain ⟨q1, q2⟩ := h.pl q hq
    obtain ⟨b1, b2, b3⟩ := begs_facts q1 q2 e.1 hb
    refine ⟨⟨b1, b2⟩, ?_, fun s hs => non q hq s (b3 s hs)⟩
    rw [h1]
    exact ⟨Or.inl rfl, rfl⟩
theorem pkE_len (es : List (Str × V)) : (pkE es).length = (fullU es).length := by
  unfold pkE
  rw [List.length_map, List.length_mergeSort, List.length_map]
theorem pkE_ok {es : List (Str × V)} (h : OkU es) (hl : (fullU es).length ≤ 1000000) : OkE (pkE es) := by
  refine ⟨fun e he => (full_pl h e ((mem_pkE h).mp he)).1, fun e he => (full_pl h e ((mem_pkE h).mp he)).2.1, fun e he s hs => ?_, ?_, pkE_nd h, by rw [pkE_len]; exact hl⟩
  · exact val_mem (pkE_nd h) ((mem_pkE h).mpr ((full_pl h e ((mem_pkE h).mp he)).2.2 s hs))
  · rw [pkE_keys]
    exact List.pairwise_mergeSort pLe_trans pLe_total _
/-- entries in order, with all folders, are those of the package -/
theorem addB_id {a : List (Str × V)} : ∀ {bs : List Str}, (∀ s ∈ bs, s ∈ a.map (·.1)) → addB a bs = a
  | [], _ => rfl
  | s :: bs, h => by
    show addB (if s ∈ a.map (·.1) then a else a ++ [(s, .non)]) bs = a
    rw [if_pos (h s List.mem_cons_self)]
    exact addB_id fun t ht => h t (List.mem_cons_of_mem _ ht)
theorem fullN_id {es : List (Str × V)} : ∀ {ps : List (Str × V)}, (∀ q ∈ ps, ∀ s ∈ begs q.1, s ∈ es.map (·.1)) → fullN es ps = es
  | [], _ => rfl
  | q :: ps, h => by
    show fullN (addB es (begs q.1)) ps = es
    rw [addB_id (h q List.mem_cons_self)]
    exact fullN_id fun r hr => h r (List.mem_cons_of_mem _ hr)
theorem val_key {es : List (Str × V)} {p : Str} {v : V} (h : valV (kv es) (.inr p) = some v) : p ∈ es.map (·.1) := by
  by_cases hp : p ∈ es.map (·.1)
  · exact hp
  · rw [val_no hp] at h; cases h
theorem OkE.toU {es : List (Str × V)} (h : OkE es) : OkU es := ⟨h.pl, h.it, fun e he s hs => Or.inr (h.up e he s hs), h.nd⟩
theorem full_id {es : List (Str × V)} (h : ∀ e ∈ es, ∀ s ∈ begs e.1, s ∈ es.map (·.1)) : fullU es = es := fullN_id h
theorem map_val {es : List (Str × V)} (nd : (es.map (·.1)).Nodup) : (es.map (·.1)).map (fun p => (p, (valV (kv es) (.inr p)).getD .non)) = es := by
  rw [List.map_map]
  refine (List.map_congr_left fun e he => ?_).trans (List.map_id es)
  show (e.1, (valV (kv es) (.inr e.1)).getD .non) = e
  rw [val_mem nd (p := e.1) (v := e.2) he]; rfl
theorem pkE_id {es : List (Str × V)} (h : OkE es) : pkE es = es := by
  have hf := full_id (es := es) fun e he s hs => val_key (h.up e he s hs)
  unfold pkE
  rw [hf, List.mergeSort_of_pairwise h.le]
  exact map_val h.nd
end K6

set_option Elab.async false
set_option linter.all false
set_option maxRecDepth 100000
set_option maxHeartbeats 4000000
namespace K6
open PySem PySem.Spec PyProof.Rows L2 LF
def spLB : Sp := fun vs H Q _ => ∃ (d : Addr) (kvs : List (Key × V)) (p : Str), vs = [.ref d, .str p] ∧ H d = some (.dK kvs) ∧ p.length ≤ 1000000 ∧ isPl p = true ∧ (∀ s ∈ begs p, valV kvs (.inr s) = none ∨ valV kvs (.inr s) = some .non) ∧ ∀ H', Same H H' → Q (.bl false) H'
abbrev s_lies_below_leaf : Stmt := topS 35
abbrev N_lies_below_leaf : List Str := ["entries", "path", "place"]
theorem sc_lies_below_leaf : FnScope ["entries", "path", "place"] ["entries", "path"] (defScope s_lies_below_leaf) := ⟨rfl, rfl, rfl, by decide +kernel, rfl, by decide +kernel, by decide +kernel⟩
section
variable {P : Program} {w : World} {K : PySem.W.Frag} {mg : Str → Option Value} {base : Heap} {tk1 tk2 : Tok}
theorem ok_lies {f f1 : Addr} {fd fd1 : FuncData} (F : Fun K "lies_below_leaf" "lies_below_leaf" s_lies_below_leaf f fd) (n_any : mg "any" = none) (d_beg : DefAt P w K mg base "beginnings" 2 f1 fd1 ["path"] spBeg) :
    FnOk P w K mg base CX0 3 f fd ["entries", "path"] spLB := by
  refine F.ok sc_lies_below_leaf (fun vs H Q E h => ?_) (fun cdv A outer s H vs Q E hr h => ?_)
  · obtain ⟨d, kvs, p, rfl, _⟩ := h
    rfl
  have hu1 := hu_of hr
  refine ⟨_, (pss_one (ps_ret (pe_callB (cr_any rfl) (by rfl) n_any (by decide +kernel) (pa_cons (pe_lc (own := [("place", 2)]) rfl sc_lies_below_leaf.nd (pi_list (pe_callD d_beg (hr.mono (by decide)) (pa_cons (pv 1) pa_nil))) (blkOk_by (N := N_lies_below_leaf) (sc := defScope s_lies_below_leaf) (by decide +kernel)) (fun _ _ _ _ _ => pg_name (i := 2) sc_lies_below_leaf.nd rfl (Or.inl rfl)) (fun _ _ _ _ _ => pts_nil)
      (fun _ _ _ _ _ => (pe_cmpR op_notN (pe_dget1 hu1 (pv 0) (pv 2) ⟨rfl, rfl, rfl, rfl⟩) pe_non (nomark _)))) pa_nil)))), ?_⟩
  obtain ⟨d, kvs, p, rfl, hd, hp, hpl, hup, hq⟩ := h
  obtain ⟨hn, hp1, hp2⟩ := isPl_parts hpl
  refine ⟨_, rfl, p, rfl, hp, hpl, fun H1 b s1 nb hb => ?_⟩
  refine ⟨b, rfl, ⟨_, SqL.of hb⟩, fun D hD => ?_⟩
  have hbl : (begs p).length ≤ 10 := by unfold begs; rw [List.length_map, List.length_range]; omega
  refine lc_it (walk_list (xs := (begs p).map V.str)) (fun i H' => Same H1 H' ∧ H' D = some (.lst ((List.replicate i false).map V.bl))) ⟨same_new hD, by rw [upd_same]; rfl⟩ (fun i H' _ h => sqL_same h.1 (SqL.of hb)) ?_ ?_
  · rintro i x H2 H3 hi ⟨sm, hd2⟩ ⟨rfl, hx⟩
    rw [List.length_map] at hi
    rw [List.getElem?_map] at hx
    obtain ⟨s0, hs0, rfl⟩ : ∃ s0, (begs p)[i]? = some s0 ∧ x = .str s0 := by
      cases e : (begs p)[i]? with
      | none => rw [e] at hx; cases hx
      | some q => rw [e] at hx; exact ⟨q, rfl, (Option.some.inj hx).symm⟩
    have hv := hup s0 (List.mem_of_getElem? hs0)
    have hd3 := sm _ _ (s1 _ _ hd)
    refine ⟨rfl, _, rfl, d, rfl, Or.inl ⟨_, Or.inl hd3⟩, _, rfl, _, DGet.k (k := Sum.inr s0) hd3, rfl, ?_⟩
    have hv2 : (valV kvs (.inr s0)).getD .non = .non := by rcases hv with hv | hv <;> rw [hv] <;> rfl
    rw [hv2]
    refine ⟨_, hd2, ?_, fun b' o e => ?_, ?_⟩
    · rw [List.length_map, List.length_replicate]; exact Nat.lt_of_lt_of_le (show i < 20 by omega) (by decide)
    · rw [upd_ne (ne_of_none e hD)]; exact sm _ _ e
    · rw [upd_same, List.replicate_succ', List.map_append]; rfl
  · rintro H2 ⟨sm, hd2⟩
    refine ⟨D, _, rfl, SqL.of hd2, ?_⟩
    have e : (List.replicate ((begs p).map V.str).length false).any id = false := by
      rw [List.any_eq_false]
      intro x hx
      rw [(List.mem_replicate.mp hx).2]
      exact Bool.false_ne_true
    rw [e]
    exact hq H2 (s1.trans sm)
end
end K6

set_option Elab.async false
set_option linter.all false
set_option maxRecDepth 100000
set_option maxHeartbeats 4000000
namespace K6
open PySem PySem.Spec PyProof.Rows L2 LF
abbrev s_check_entries : Stmt := topS 34
abbrev N_check_entries : List Str := ["entries", "key", "wrong", "path"]
theorem sc_check_entries : FnScope ["entries", "key", "wrong", "path"] ["entries"] (defScope s_check_entries) := ⟨rfl, rfl, rfl, by decide +kernel, rfl, by decide +kernel, by decide +kernel⟩
def spCE : Sp := fun vs H Q _ => ∃ (d : Addr) (es : List (Str × V)), vs = [.ref d] ∧ H d = some (.dK (kv es)) ∧ OkU es ∧ es.length ≤ 1000000 ∧ ∀ H', Same H H' → Q .non H'
theorem keys_kv (es : List (Str × V)) : (kv es).map (fun q => kV q.1) = (es.map (·.1)).map V.str := by
  unfold kv
  rw [List.map_map, List.map_map]; rfl
section
variable {P : Program} {w : World} {K : PySem.W.Frag} {mg : Str → Option Value} {base : Heap} {tk1 tk2 : Tok}
theorem ok_check_entries {f f1 f2 f3 f4 : Addr} {fd fd1 fd2 fd3 fd4 : FuncData} (F : Fun K "check_entries" "check_entries" s_check_entries f fd) (T : Txt K mg tk1 tk2) (d_in_order : DefAt P w K mg base "in_order" 5 f1 fd1 ["paths"] (spOrder K))
    (d_place : DefAt P w K mg base "is_place" 3 f2 fd2 ["thing"] (spS isPl)) (d_item : DefAt P w K mg base "is_item" 4 f3 fd3 ["thing"] (spV itemV)) (d_lies : DefAt P w K mg base "lies_below_leaf" 3 f4 fd4 ["entries", "path"] spLB) :
    FnOk P w K mg base CX0 6 f fd ["entries"] spCE := by
  refine F.ok sc_check_entries (fun vs H Q E h => ?_) (fun cdv A outer s H vs Q E hr h => ?_)
  · obtain ⟨d, es, rfl, _⟩ := h
    rfl
  have hu1 := hu_of hr
  refine ⟨_, (pss_cons (ps_if (PW.pt (pw_or (pt_not (pt_val (pe_callB call_isi (by rfl) T.n_isinstance (by decide +kernel) (pa_cons (pv 0) (pa_cons (pe_bltn (v := .ty "dict") (by rfl) T.n_dict (by decide +kernel) rfl) pa_nil))))) (pw_or1 (pt_not (pt_val (pe_callB (cr_all rfl) (by rfl) T.n_all (by decide +kernel) (pa_cons (pe_lock (pe_lc (own := [("key", 1)]) rfl sc_check_entries.nd (pi_keys (pv 0)) (blkOk_by (N := N_check_entries) (sc := defScope s_check_entries) (by decide +kernel)) (fun _ _ _ _ _ => pg_name (i := 1) sc_check_entries.nd rfl (Or.inl rfl)) (fun _ _ _ _ _ => pts_nil)
      (fun _ _ _ _ _ => (pe_callB (show CallR _ (.builtin "isinstance") (rIsi K) from call_isi) (by rfl) T.n_isinstance (by decide +kernel) (pa_cons (pv 1) (pa_cons (pe_bltn (v := .ty "str") (by rfl) T.n_str (by decide +kernel) rfl) pa_nil)))))) pa_nil))))))) (pss_one ps_never) pss_nil)
    (pss_cons (ps_lock (ps_setLc (i := 2) (own := [("key", 1)]) rfl sc_check_entries.nd rfl rfl (sw_true rfl rfl rfl (by decide +kernel)) (pi_keys (pv 0)) (blkOk_by (N := N_check_entries) (sc := defScope s_check_entries) (by decide +kernel)) (fun _ _ _ _ _ => pg_name (i := 1) sc_check_entries.nd rfl (Or.inl rfl))
      (fun _ _ _ _ _ => pts_one (pt_not (pt_val (pe_callD d_place (hr.mono (by decide)) (pa_cons (pv 1) pa_nil))))) (fun _ _ _ _ _ => pv 1)))
    (pss_cons (ps_if (pt_cmpR op_gt (pe_callB call_len_seq (by rfl) T.n_len (by decide +kernel) (pa_cons (pv 2) pa_nil)) pe_int (nomark _)) (pss_one ps_never) pss_nil)
    (pss_one (ps_for PassesOwn.never rfl (pi_list (pe_callD d_in_order (hr.mono (by decide)) (pa_cons (pe_callTy (call_listD rfl) (by rfl) T.n_list (by decide +kernel) (pa_cons (pv 0) pa_nil)) pa_nil))) (pg_name (i := 3) sc_check_entries.nd rfl (Or.inl rfl))
      (pss_one (ps_if (PW.pt (pw_or (pt_not (pt_val (pe_callD d_item (hr.mono (by decide)) (pa_cons (pe_dget hu1 (pv 0) (pv 3) (fun _ _ => rfl)) pa_nil)))) (pw_or1 (pt_val (pe_callD d_lies (hr.mono (by decide)) (pa_cons (pv 0) (pa_cons (pv 3) pa_nil))))))) (pss_one ps_never) pss_nil))))))), ?_⟩
  obtain ⟨d, es, rfl, hd, ok, hlen, hq⟩ := h
  have hbig := sizeLine_big
  have hkl : (kv es).length = es.length := by unfold kv; rw [List.length_map]
  refine ⟨_, rfl, _, .ty "dict", _, _, true, rfl, .ty _, .base (.dK hd), kit_ty (by decide +kernel), ?_⟩
  refine ⟨_, rfl, iteF ?_⟩
  -- every key is a text
  refine ⟨d, _, hd, True.intro, fun od => ?_⟩
  refine ⟨_, rfl, d, od, rfl, Or.inl ⟨kv es, upd_same, fun D hD => ?_⟩⟩
  have hl0 : (upd H d (.frz od (.dK (kv es)))) d = some (.frz od (.dK (kv es))) := upd_same
  have hs0 : ∀ H', Same (upd H d (.frz od (.dK (kv es)))) H' → Same H (upd H' d (.dK (kv es))) := fun H' s' => same_unlock hd s'
  generalize (upd H d (.frz od (.dK (kv es)))) = L at hl0 hs0 hD
  refine lc_it walk_keys (fun i H' => Same L H' ∧ H' D = some (.lst ((List.replicate i true).map V.bl))) ⟨same_new hD, by rw [upd_same]; rfl⟩ (fun i H' _ h => h.1 _ _ hl0) ?_ ?_
  · rintro i x H1 H2 hi ⟨sm, hd1⟩ ⟨rfl, k, v, hk, rfl⟩
    obtain ⟨p, rfl, _, hm⟩ := kv_get hk
    refine ⟨rfl, _, rfl, _, .ty "str", _, _, true, rfl, .ty _, .base (.str p), kit_str, _, hd1, ?_, fun b' o e => ?_, ?_⟩
    · rw [List.length_map, List.length_replicate]; omega
    · rw [upd_ne (ne_of_none e hD)]; exact sm _ _ e
    · rw [upd_same, List.replicate_succ', List.map_append]; rfl
  rintro H1 ⟨sm1, hd1⟩
  refine ⟨sm1 _ _ hl0, ?_⟩
  have S1 := hs0 _ sm1
  have nDd : D ≠ d := Ne.symm (ne_of_none hl0 hD)
  have hD1 : (upd H1 d (.dK (kv es))) D = some (.lst ((List.replicate (kv es).length true).map V.bl)) := by rw [upd_ne nDd]; exact hd1
  generalize (upd H1 d (.dK (kv es))) = G1 at S1 hD1
  refine ⟨D, _, rfl, SqL.of hD1, ?_⟩
  have e1 : (List.replicate (kv es).length true).all id = true := by
    rw [List.all_eq_true]
    intro x hx
    rw [(List.mem_replicate.mp hx).2]; rfl
  rw [e1]
  refine ⟨_, rfl, iteF ?_⟩
  -- wrong
  have hdG := S1 _ _ hd
  refine ⟨d, _, hdG, True.intro, fun od2 => ?_⟩
  refine ⟨_, rfl, d, od2, rfl, Or.inl ⟨kv es, upd_same, fun D2 hD2 => ?_⟩⟩
  have hl2 : (upd G1 d (.frz od2 (.dK (kv es)))) d = some (.frz od2 (.dK (kv es))) := upd_same
  have hs2 : ∀ H', Same (upd G1 d (.frz od2 (.dK (kv es)))) H' → Same G1 (upd H' d (.dK (kv es))) := fun H' s' => same_unlock hdG s'
  generalize (upd G1 d (.frz od2 (.dK (kv es)))) = L2' at hl2 hs2 hD2
  refine lc_it walk_keys (fun i H' => Same L2' H' ∧ H' D2 = some (.lst [])) ⟨same_new hD2, upd_same⟩ (fun i H' _ h => h.1 _ _ hl2) ?_ ?_
  · rintro i x H2 H3 hi ⟨sm, hd2⟩ ⟨rfl, k, v, hk, rfl⟩
    obtain ⟨p, rfl, _, hm⟩ := kv_get hk
    obtain ⟨hp1, hp2⟩ := ok.pl _ hm
    refine ⟨rfl, _, rfl, p, rfl, hp2, fun H4 s4 => ⟨_, rfl, ?_⟩⟩
    rw [hp1]
    exact iteF ⟨sm.trans s4, s4 _ _ hd2⟩
  rintro H2 ⟨sm2, hd2⟩
  refine ⟨sm2 _ _ hl2, ?_⟩
  have S2 := hs2 _ sm2
  have nD2 : D2 ≠ d := Ne.symm (ne_of_none hl2 hD2)
  have hD3 : (upd H2 d (.dK (kv es))) D2 = some (.lst []) := by rw [upd_ne nD2]; exact hd2
  generalize (upd H2 d (.dK (kv es))) = G2 at S2 hD3
  refine ⟨_, rfl, D2, [], rfl, Or.inl (SqL.of hD3), _, _, rfl, rfl, _, rfl, ?_⟩
  refine ifD (fun h => absurd h (by decide)) (fun _ => ?_)
  -- the loop
  have hdG2 := S2 _ _ hdG
  refine ⟨_, rfl, d, _, rfl, Or.inl hdG2, fun q hq1 => ?_⟩
  rw [keys_kv]
  refine ⟨q, es.map (·.1), rfl, SqL.of upd_same, fun x hx => ?_, fun H3 p s3 np hp => ?_⟩
  · obtain ⟨e, he, rfl⟩ := List.mem_map.mp hx
    exact (ok.pl e he).2
  have S3 : Same H H3 := ((S1.trans S2).trans (same_new hq1)).trans s3
  generalize hks : (es.map (·.1)).mergeSort (PySem.W.dataLe false keyD) = ks at hp
  have hkm : ∀ p ∈ ks, ∃ v, (p, v) ∈ es := fun p hp => by
    rw [← hks] at hp
    obtain ⟨e, he, rfl⟩ := List.mem_map.mp (sort_mem.mp hp)
    exact ⟨e.2, he⟩
  refine ⟨p, rfl, ⟨_, SqL.of hp⟩, for_list (K := K) (a := p) (xs := ks.map V.str) (fun i σ H' => ∃ v3, σ = [some (.ref d), none, some (.ref D2), v3] ∧ Same H3 H') ⟨_, rfl, Same.refl H3⟩ (fun i σ H' _ ⟨_, _, sm⟩ => sqL_same sm (SqL.of hp)) ?_ ?_⟩
  · rintro i x σ H' hi ⟨v3, rfl, sm⟩
    rw [List.getElem?_map] at hi
    cases e : ks[i]? with
    | none => rw [e] at hi; cases hi
    | some pth =>
      rw [e] at hi
      cases hi
      obtain ⟨v, hm⟩ := hkm pth (List.mem_of_getElem? e)
      obtain ⟨hp1, hp2⟩ := ok.pl _ hm
      obtain ⟨hi1, hi2⟩ := ok.it _ hm
      have hv := val_mem ok.nd hm
      have hd4 := sm _ _ (S3 _ _ hd)
      refine ⟨_, rfl, _, rfl, d, v, rfl, by have := DGet.k (k := Sum.inr pth) hd4; rw [hv] at this; exact this, v, rfl, hi1, fun H4 s4 => ⟨_, rfl, ?_⟩⟩
      rw [hi2]
      refine iteF ?_
      refine ⟨_, rfl, _, rfl, d, _, pth, rfl, s4 _ _ hd4, hp2, hp1, ok.up _ hm, fun H5 s5 => ⟨_, rfl, iteF ?_⟩⟩
      exact ⟨_, rfl, (sm.trans s4).trans s5⟩
  · rintro σ H' ⟨v3, rfl, sm⟩
    exact hq H' (S3.trans sm)
end
end K6

set_option Elab.async false
set_option linter.all false
set_option maxRecDepth 100000
set_option maxHeartbeats 4000000
namespace LF
open PySem PySem.Spec PyProof.Rows L2
/-- a dict's comprehension over any walk: Pv by the turn and the heap -/
theorem dc_it {J : It} {n : Nat} {G : Hp → Prop} {Y : Nat → Hp → V → Hp → Prop} (wk : Walk J n G Y) {g : TG} {tt : TT} {tk tv : TE} {vs : List Nat} {σ : L2.St} {Ha : Hp} {D : Addr} {Qd : Hp → Prop} (Pv : Nat → Hp → Prop) (start : Pv 0 (upd Ha D (.dK [])))
    (ok : ∀ i Hb, i ≤ n → Pv i Hb → G Hb)
    (turn : ∀ i x Hb Hc, i < n → Pv i Hb → Y i Hb x Hc → g x (wipe σ vs) Hc fun σ2 H2 => wipe σ2 vs = wipe σ vs ∧ tt σ2 H2 fun b H3 =>
      if b = true then tk σ2 H3 fun y H4 => tv σ2 H4 fun z H5 => ∃ kvs k, y = kV k ∧ H5 D = some (.dK kvs) ∧ kvs.length < sizeLine ∧ Pv (i + 1) (upd H5 D (.dK (putK kvs k z))) else Pv (i + 1) H3)
    (fin : ∀ Hb, Pv n Hb → Qd Hb) :
    ∃ W : Nat → Nat → Hp → Prop, (∃ m, W 0 m (upd Ha D (.dK []))) ∧ ∀ i m Hb, W i m Hb →
      (J.stop i Hb ∧ Qd Hb) ∨ (J.go i Hb ∧ ∃ Nx : Hp → Prop, (∀ Hc, Nx Hc → ∃ m', m' < m ∧ W (i + 1) m' Hc) ∧ ∀ x Hc, J.yld i Hb x Hc → g x (wipe σ vs) Hc fun σ2 H2 => wipe σ2 vs = wipe σ vs ∧ tt σ2 H2 fun b H3 =>
        if b = true then tk σ2 H3 fun y H4 => tv σ2 H4 fun z H5 => ∃ kvs k, y = kV k ∧ H5 D = some (.dK kvs) ∧ kvs.length < sizeLine ∧ Nx (upd H5 D (.dK (putK kvs k z))) else Nx H3) := by
  refine ⟨fun i m Hb => m + i = n ∧ Pv i Hb, ⟨n, Nat.add_zero n, start⟩, fun i m Hb hw => ?_⟩
  obtain ⟨hm, hp⟩ := hw
  have hi : i ≤ n := by omega
  rcases Nat.lt_or_ge i n with hlt | hge
  · exact Or.inr ⟨wk.goes i Hb hlt (ok i Hb hi hp), Pv (i + 1), fun Hc hc => ⟨n - (i + 1), by omega, by omega, hc⟩, fun x Hc y => turn i x Hb Hc hlt hp (wk.yields i Hb x Hc hlt (ok i Hb hi hp) y)⟩
  · obtain rfl : i = n := by omega
    exact Or.inl ⟨wk.stops Hb (ok i Hb hi hp), fin Hb hp⟩
end LF
namespace K6
open PySem PySem.Spec PyProof.Rows L2 LF
abbrev s_with_parents : Stmt := topS 36
abbrev N_with_parents : List Str := ["entries", "full", "path", "place"]
theorem sc_with_parents : FnScope ["entries", "full", "path", "place"] ["entries"] (defScope s_with_parents) := ⟨rfl, rfl, rfl, by decide +kernel, rfl, by decide +kernel, by decide +kernel⟩
def spWP : Sp := fun vs H Q _ => ∃ (d : Addr) (es : List (Str × V)), vs = [.ref d] ∧ H d = some (.dK (kv es)) ∧ OkU es ∧ (fullU es).length ≤ 1000000 ∧ ∀ H' p, Same H H' → H p = none → H' p = some (.dK (kv (pkE es))) → Q (.ref p) H'
theorem addB_app (a : List (Str × V)) (x y : List Str) : addB a (x ++ y) = addB (addB a x) y := List.foldl_append
theorem fullN_app (a : List (Str × V)) (x y : List (Str × V)) : fullN a (x ++ y) = fullN (fullN a x) y := List.foldl_append
theorem addB_ge : ∀ (bs : List Str) (a : List (Str × V)), a.length ≤ (addB a bs).length
  | [], _ => Nat.le_refl _
  | s :: bs, a => by
    refine Nat.le_trans ?_ (addB_ge bs (if s ∈ a.map (·.1) then a else a ++ [(s, .non)]))
    split
    · exact Nat.le_refl _
    · rw [List.length_append]; exact Nat.le_add_right _ _
theorem fullN_ge : ∀ (ps a : List (Str × V)), a.length ≤ (fullN a ps).length
  | [], _ => Nat.le_refl _
  | q :: ps, a => Nat.le_trans (addB_ge (begs q.1) a) (fullN_ge ps _)
theorem key_val {es : List (Str × V)} {p : Str} (h : p ∈ es.map (·.1)) : ∃ v, valV (kv es) (.inr p) = some v := by
  cases hv : valV (kv es) (.inr p) with
  | some v => exact ⟨v, rfl⟩
  | none =>
    unfold valV kv at hv
    rw [Option.map_eq_none_iff, List.find?_eq_none] at hv
    obtain ⟨e, he, rfl⟩ := List.mem_map.mp h
    have := hv _ (List.mem_map.mpr ⟨e, he, rfl⟩)
    rw [decide_eq_true_eq] at this
    exact absurd rfl this
theorem put_next {es : List (Str × V)} {i : Nat} {p : Str} {v : V} (nd : (es.map (·.1)).Nodup) (h : es[i]? = some (p, v)) : putK (kv (es.take i)) (.inr p) v = kv (es.take (i + 1)) := by
  have hno : p ∉ (es.take i).map (·.1) := by
    intro hm
    obtain ⟨q, hq, hqp⟩ := List.mem_map.mp hm
    obtain ⟨j, hj, hjq⟩ := List.mem_iff_getElem.mp hq
    rw [List.length_take] at hj
    have hji : j < i := by omega
    have hil := (List.getElem?_eq_some_iff.mp h).1
    have hjl : j < es.length := by omega
    rw [List.getElem_take] at hjq
    have h1 : (es.map (·.1))[j]'(by rw [List.length_map]; exact hjl) = p := by rw [List.getElem_map, hjq, hqp]
    have h2 : (es.map (·.1))[i]'(by rw [List.length_map]; exact hil) = p := by rw [List.getElem_map, (List.getElem?_eq_some_iff.mp h).2]
    exact List.pairwise_iff_getElem.mp nd j i (by rw [List.length_map]; exact hjl) (by rw [List.length_map]; exact hil) hji (h1.trans h2.symm)
  rw [putK_new _ (val_no hno), List.take_add_one, h]
  unfold kv
  rw [List.map_append]; rfl
section
variable {P : Program} {w : World} {K : PySem.W.Frag} {mg : Str → Option Value} {base : Heap} {tk1 tk2 : Tok}
theorem ok_with_parents {f f1 f2 : Addr} {fd fd1 fd2 : FuncData} (F : Fun K "with_parents" "with_parents" s_with_parents f fd) (T : Txt K mg tk1 tk2) (d_in_order : DefAt P w K mg base "in_order" 5 f1 fd1 ["paths"] (spOrder K))
    (d_beg : DefAt P w K mg base "beginnings" 2 f2 fd2 ["path"] spBeg) : FnOk P w K mg base CX0 6 f fd ["entries"] spWP := by
  refine F.ok sc_with_parents (fun vs H Q E h => ?_) (fun cdv A outer s H vs Q E hr h => ?_)
  · obtain ⟨d, es, rfl, _⟩ := h
    rfl
  have hu1 := hu_of hr
  refine ⟨_, (pss_cons (ps_set (i := 1) sc_with_parents.nd rfl (Or.inr rfl) (pe_callTy call_dictD (by rfl) T.n_dict (by decide +kernel) (pa_cons (pv 0) pa_nil)))
    (pss_cons (ps_lock (ps_for PassesOwn.never rfl (pi_keys (pv 0)) (pg_name (i := 2) sc_with_parents.nd rfl (Or.inl rfl)) (pss_one (ps_for PassesOwn.never rfl (pi_list (pe_callD d_beg (hr.mono (by decide)) (pa_cons (pv 2) pa_nil))) (pg_name (i := 3) sc_with_parents.nd rfl (Or.inl rfl)) (pss_one (ps_expr (pe_dsetd (pv 1) (pv 3) pe_non ⟨rfl, rfl, rfl, rfl⟩)))))))
    (pss_one (ps_ret (pe_dc (own := [("path", 2)]) rfl sc_with_parents.nd (pi_list (pe_callD d_in_order (hr.mono (by decide)) (pa_cons (pe_callTy (call_listD rfl) (by rfl) T.n_list (by decide +kernel) (pa_cons (pv 1) pa_nil)) pa_nil))) (blkOk_by (N := N_with_parents) (sc := defScope s_with_parents) (by decide +kernel)) (fun _ _ _ _ _ => pg_name (i := 2) sc_with_parents.nd rfl (Or.inl rfl)) (fun _ _ _ _ _ => pts_nil) (fun _ _ _ _ _ => pv 2) (fun _ _ _ _ _ => pe_dget hu1 (pv 1) (pv 2) (fun _ _ => rfl))))))), ?_⟩
  obtain ⟨d, es, rfl, hd, ok, hlen, hq⟩ := h
  have hbig := sizeLine_big
  have hel : es.length ≤ (fullU es).length := fullN_ge es es
  have hkl : ∀ l : List (Str × V), (kv l).length = l.length := fun l => by unfold kv; rw [List.length_map]
  obtain ⟨gr, _⟩ := full_grown ok
  refine ⟨_, rfl, d, _, rfl, Or.inl hd, fun e he => ?_⟩
  have ned : d ≠ e := ne_of_none hd he
  have hd1 : (upd H e (.dK (kv es))) d = some (.dK (kv es)) := same_new he _ _ hd
  have he1 : (upd H e (.dK (kv es))) e = some (.dK (kv es)) := upd_same
  have S1 : Same H (upd H e (.dK (kv es))) := same_new he
  generalize (upd H e (.dK (kv es))) = G at hd1 he1 S1
  refine ⟨d, _, hd1, True.intro, fun od => ?_⟩
  refine ⟨_, rfl, d, od, rfl, Or.inl ⟨kv es, upd_same, ?_⟩⟩
  have hl0 : (upd G d (.frz od (.dK (kv es)))) d = some (.frz od (.dK (kv es))) := upd_same
  have hle : (upd G d (.frz od (.dK (kv es)))) e = some (.dK (kv es)) := by rw [upd_ne ned.symm]; exact he1
  have hLG : ∀ b o, b ≠ d → G b = some o → (upd G d (.frz od (.dK (kv es)))) b = some o := fun b o n e => by rw [upd_ne n]; exact e
  generalize (upd G d (.frz od (.dK (kv es)))) = L at hl0 hle hLG
  refine for_it walk_keys (fun i σ H' => ∃ v2 v3, σ = [some (.ref d), some (.ref e), v2, v3] ∧ Keep e L H' ∧ H' e = some (.dK (kv (fullN es (es.take i))))) ⟨_, _, rfl, Keep.refl e L, hle⟩ (fun i σ H' _ ⟨_, _, _, kp, _⟩ => kp _ _ ned hl0) ?_ ?_
  · rintro i x σ H1 H2 hi ⟨v2, v3, rfl, kp, he1⟩ ⟨rfl, k, v, hk, rfl⟩
    obtain ⟨p, rfl, hie, hm⟩ := kv_get hk
    obtain ⟨hp1, hp2⟩ := ok.pl _ hm
    have en : fullN es (es.take (i + 1)) = addB (fullN es (es.take i)) (begs p) := by rw [List.take_add_one, hie, fullN_app]; rfl
    have hfl : (addB (fullN es (es.take i)) (begs p)).length ≤ 1000000 := by
      rw [← en]
      have h1 := fullN_ge (es.drop (i + 1)) (fullN es (es.take (i + 1)))
      rw [← fullN_app, List.take_append_drop] at h1
      exact Nat.le_trans h1 hlen
    generalize fullN es (es.take i) = A at he1 en hfl
    refine ⟨_, rfl, p, rfl, hp2, hp1, fun H3 b s3 nb hb => ?_⟩
    have nbe : b ≠ e := fun q => by rw [q, he1] at nb; cases nb
    refine ⟨b, rfl, ⟨_, SqL.of hb⟩, for_list (K := K) (a := b) (xs := (begs p).map V.str) (fun j σ H' => ∃ v3, σ = [some (.ref d), some (.ref e), some (.str p), v3] ∧ Keep e H3 H' ∧ H' e = some (.dK (kv (addB A ((begs p).take j))))) ⟨_, rfl, Keep.refl e H3, s3 _ _ he1⟩ (fun j σ H' _ ⟨_, _, k', _⟩ => SqL.of (k' _ _ nbe hb)) ?_ ?_⟩
    · rintro j x σ H4 hj ⟨v3, rfl, k4, he4⟩
      rw [List.getElem?_map] at hj
      obtain ⟨s0, hs0', rfl⟩ : ∃ s0, (begs p)[j]? = some s0 ∧ x = .str s0 := by
        cases e' : (begs p)[j]? with
        | none => rw [e'] at hj; cases hj
        | some q => rw [e'] at hj; exact ⟨q, rfl, (Option.some.inj hj).symm⟩
      have ej : addB A ((begs p).take (j + 1)) = if s0 ∈ (addB A ((begs p).take j)).map (·.1) then addB A ((begs p).take j) else addB A ((begs p).take j) ++ [(s0, .non)] := by rw [List.take_add_one, hs0', addB_app]; rfl
      have hBl : (addB A ((begs p).take j)).length ≤ 1000000 := by
        have h1 := addB_ge ((begs p).drop j) (addB A ((begs p).take j))
        rw [← addB_app, List.take_append_drop] at h1
        exact Nat.le_trans h1 hfl
      generalize addB A ((begs p).take j) = B at he4 ej hBl
      refine ⟨_, rfl, e, rfl, Or.inl ⟨_, Or.inl he4⟩, _, rfl, kv B, .inr s0, he4, rfl, by rw [hkl]; omega, fun v hv2 => ⟨_, rfl, k4, ?_⟩, fun hno => ⟨_, rfl, fun c o n eo => ?_, ?_⟩⟩
      · rw [ej, if_pos (val_key hv2)]; exact he4
      · rw [upd_ne n]; exact k4 c o n eo
      · have hni : s0 ∉ B.map (·.1) := fun hm => by
          obtain ⟨v, hv⟩ := key_val hm
          rw [hv] at hno; cases hno
        rw [upd_same, ej, if_neg hni, putK_new _ hno]
        unfold kv
        rw [List.map_append]; rfl
    · rintro σ H4 ⟨v3, rfl, k4, he4⟩
      rw [List.length_map, List.take_length, ← en] at he4
      exact ⟨_, _, rfl, (kp.trans (Same.keep s3)).trans k4, he4⟩
  rintro σ H1 ⟨v2, v3, rfl, kp, he2⟩
  rw [hkl, List.take_length] at he2
  refine ⟨kp _ _ ned hl0, ?_⟩
  have S2 : Same H (upd H1 d (.dK (kv es))) := fun b o eo => by
    by_cases hb : b = d
    · subst hb
      rw [hd] at eo
      rw [upd_same, eo]
    · rw [upd_ne hb]
      exact kp b o (ne_of_none eo he) (hLG b o hb (S1 b o eo))
  have he3 : (upd H1 d (.dK (kv es))) e = some (.dK (kv (fullU es))) := by rw [upd_ne ned.symm]; exact he2
  generalize (upd H1 d (.dK (kv es))) = G2 at S2 he3
  refine ⟨_, rfl, e, _, rfl, Or.inl he3, fun q hq1 => ?_⟩
  rw [keys_kv]
  refine ⟨q, (fullU es).map (·.1), rfl, SqL.of upd_same, fun x hx => ?_, fun H3 p s3 np hp => ?_⟩
  · obtain ⟨e', he', rfl⟩ := List.mem_map.mp hx
    exact (full_pl ok e' he').1.2
  have S3 : Same G2 H3 := (same_new hq1).trans s3
  have he4 := S3 _ _ he3
  have hpk : ∀ i, (pkE es)[i]? = (((fullU es).map (·.1)).mergeSort (PySem.W.dataLe false keyD))[i]?.map fun p => (p, (valV (kv (fullU es)) (.inr p)).getD .non) := fun i => by unfold pkE; rw [List.getElem?_map]
  have hkm : ∀ p ∈ ((fullU es).map (·.1)).mergeSort (PySem.W.dataLe false keyD), ∃ v, (p, v) ∈ fullU es := fun p hp => by
    obtain ⟨e, he, rfl⟩ := List.mem_map.mp (sort_mem.mp hp)
    exact ⟨e.2, he⟩
  have hksl : (((fullU es).map (·.1)).mergeSort (PySem.W.dataLe false keyD)).length = (pkE es).length := by unfold pkE; rw [List.length_map]
  generalize ((fullU es).map (·.1)).mergeSort (PySem.W.dataLe false keyD) = ks at hp hpk hkm hksl
  have hkpl := pkE_len es
  refine ⟨p, rfl, ⟨_, SqL.of hp⟩, fun D hD => ?_⟩
  refine dc_it (walk_list (xs := ks.map V.str)) (fun i H' => Same H3 H' ∧ H' D = some (.dK (kv ((pkE es).take i)))) ⟨same_new hD, upd_same⟩ (fun i H' _ h => sqL_same h.1 (SqL.of hp)) ?_ ?_
  · rintro i x H4 H5 hi ⟨s4, hD4⟩ ⟨rfl, hx⟩
    rw [List.getElem?_map] at hx
    cases e' : ks[i]? with
    | none => rw [e'] at hx; cases hx
    | some pth =>
      rw [e'] at hx
      cases hx
      obtain ⟨v, hm⟩ := hkm pth (List.mem_of_getElem? e')
      have hv := val_mem gr.nd hm
      have hpe : (pkE es)[i]? = some (pth, v) := by rw [hpk, e']; show some (pth, (valV (kv (fullU es)) (.inr pth)).getD .non) = _; rw [hv]; rfl
      have he5 := s4 _ _ he4
      have hil := (List.getElem?_eq_some_iff.mp hpe).1
      refine ⟨rfl, _, rfl, _, rfl, _, rfl, e, v, rfl, by have := DGet.k (k := Sum.inr pth) he5; rw [hv] at this; exact this, _, .inr pth, rfl, hD4, ?_, fun b o eb => ?_, ?_⟩
      · rw [hkl, List.length_take]; omega
      · rw [upd_ne (ne_of_none eb hD)]; exact s4 _ _ eb
      · rw [upd_same, put_next (pkE_nd ok) hpe]
  · rintro H4 ⟨s4, hD4⟩
    rw [List.length_map, hksl, List.take_length] at hD4
    have S := (S2.trans S3).trans s4
    exact hq H4 D S ((S2.trans S3).free hD) hD4
end
end K6

set_option Elab.async false
set_option linter.all false
set_option maxRecDepth 100000
set_option maxHeartbeats 4000000
namespace LF
open PySem PySem.Spec PyProof.Rows L2
/-! a dict comprehension with two clauses, {k: v for a in p if .. for b in q if ..} -/
abbrev dcx (kx vx ga pa gb pb : Expr) (fa fb : List Expr) (sc : Scope) (pz : Pos) : Expr := .DictComp kx vx [⟨ga, pa, fa, 0⟩, ⟨gb, pb, fb, 0⟩] sc pz
/-- the tests of a clause -/
abbrev tsts (fs : List Expr) (ev : Env) : Sem Bool := forIn fs true fun c r => if r = true then do let ok ← isTrue c ev (eval c ev); pure (ForInStep.yield ok) else pure (ForInStep.yield r)
theorem dcTurnA (kx vx ga pa gb pb : Expr) (fa fb : List Expr) (sc : Scope) (pz : Pos) (jt ac : Value) (ev : Env) :
    compTurn (dcx kx vx ga pa gb pb fa fb sc pz) 0 jt ac ev = (standAt pa.pos >>= fun _ => pyNext jt >>= fun r => match r with
      | none => pure (.done .next)
      | some v => letOwnedTupleGo ga jt v >>= fun _ => assign ga ev v >>= fun _ => tsts fa ev >>= fun ok => (if ok = true then
          eval pb ev >>= fun x => standAt pb.pos >>= fun _ => foldedSetIterable pb ev x >>= fun x => holding [x] (pyIter x) >>= fun jt1 => runOwn (.compStart (dcx kx vx ga pa gb pb fa fb sc pz) 1 jt1 ac ev) ev >>= fun _ =>
            again (.compLoop (dcx kx vx ga pa gb pb fa fb sc pz) 0 jt ac ev)
          else again (.compLoop (dcx kx vx ga pa gb pb fa fb sc pz) 0 jt ac ev))) := by rfl
theorem dcTurnB (kx vx ga pa gb pb : Expr) (fa fb : List Expr) (sc : Scope) (pz : Pos) (jt : Value) (D : Addr) (ev : Env) :
    compTurn (dcx kx vx ga pa gb pb fa fb sc pz) 1 jt (.ref D) ev = (standAt pb.pos >>= fun _ => pyNext jt >>= fun r => match r with
      | none => pure (.done .next)
      | some v => letOwnedTupleGo gb jt v >>= fun _ => assign gb ev v >>= fun _ => tsts fb ev >>= fun ok => (if ok = true then
          (eval kx ev >>= fun kv => holding [kv] (eval vx ev) >>= fun vv => standAt { kx.pos with endLine := vx.pos.endLine, endCol := vx.pos.endCol } >>= fun _ => holding [kv, vv] (dictSet D kv vv)) >>= fun _ =>
            again (.compLoop (dcx kx vx ga pa gb pb fa fb sc pz) 1 jt (.ref D) ev)
          else again (.compLoop (dcx kx vx ga pa gb pb fa fb sc pz) 1 jt (.ref D) ev))) := by rfl
section
variable {prog : Program} {w : World} {A : Around} {R : Result → Shared → Prop} {s : Shared} {kx vx ga pa gb pb : Expr} {fa fb : List Expr} {sc : Scope} {pz : Pos} {jt : Value} {D : Addr} {ev : Env}
abbrev nby (prog : Program) (w : World) (A : Around) (R : Result → Shared → Prop) (ev : Env) : Value → Shared → Prop := notedBy (model prog w) A ev fun e z => R (.error e) z
theorem dcLoopA (hf : ∀ x, foldedSetIterable pb ev x = pure x) (J : Nat → Shared → Prop)
    (turn : ∀ n z, J n z → wpAny (model prog w) A (pyNext jt) (fun r z1 => match r with
      | none => R (.ok .next) z1
      | some v => wpAny (model prog w) A (letOwnedTupleGo ga jt v) (fun _ z2 => wpAny (model prog w) A (assign ga ev v) (fun _ z3 => wpAny (model prog w) A (tsts fa ev) (fun ok z4 =>
          if ok = true then wpAny (model prog w) A (eval pb ev) (fun x z5 => wpAny (model prog w) A (pyIter x) (fun jt1 z6 =>
              codeAny (model prog w) A (.compStart (dcx kx vx ga pa gb pb fa fb sc pz) 1 jt1 (.ref D) ev) (fun r y => match r with
                | .ok _ => ∃ m, m < n ∧ J m y
                | .error _ => False) z6) (nby prog w A R ev) z5) (nby prog w A R ev) z4
          else ∃ m, m < n ∧ J m z4) (nby prog w A R ev) z3) (nby prog w A R ev) z2) (nby prog w A R ev) z1) (nby prog w A R ev) z)
    (n : Nat) (h : J n s) : codeAny (model prog w) A (.compLoop (dcx kx vx ga pa gb pb fa fb sc pz) 0 jt (.ref D) ev) R s := by
  refine codeAny_loop rfl J (fun n z hJ => ?_) n h
  show wpAny _ A ((compTurn (dcx kx vx ga pa gb pb fa fb sc pz) 0 jt (.ref D) ev).onRaise (fun x => do noteFrame x ev; theTreesLotGoes x)) _ _ z
  refine wpAny_noted ?_
  rw [dcTurnA]
  refine wpAny_bind (wpAny_standAt (wpAny_bind (wpAny_mono (turn n z hJ) (fun r z1 h1 => ?_) fun _ _ k => k)))
  cases r with
  | none => exact wpAny_pure h1
  | some v =>
    refine wpAny_bind (wpAny_mono h1 (fun _ z2 h2 => wpAny_bind (wpAny_mono h2 (fun _ z3 h3 => wpAny_bind (wpAny_mono h3 (fun ok z4 h4 => ?_) fun _ _ k => k)) fun _ _ k => k)) fun _ _ k => k)
    cases ok with
    | false => exact wpAny_pure ⟨rfl, h4⟩
    | true =>
      refine wpAny_bind (wpAny_mono h4 (fun x z5 h5 => wpAny_bind (wpAny_standAt (wpAny_bind (wpAny_of_eq (hf x) (wpAny_bind (wpAny_holding (wpAny_mono h5 (fun jt1 z6 h6 => ?_) fun _ _ k => k))))))) fun _ _ k => k)
      refine wpAny_bind (wpAny_runOwn ?_)
      rw [Around.mark_none]
      refine codeAny_mono h6 fun r y hr => ?_
      cases r with
      | ok f => exact wpAny_pure ⟨rfl, hr⟩
      | error e => exact hr.elim
theorem dcLoopB (J : Nat → Shared → Prop)
    (turn : ∀ n z, J n z → wpAny (model prog w) A (pyNext jt) (fun r z1 => match r with
      | none => R (.ok .next) z1
      | some v => wpAny (model prog w) A (letOwnedTupleGo gb jt v) (fun _ z2 => wpAny (model prog w) A (assign gb ev v) (fun _ z3 => wpAny (model prog w) A (tsts fb ev) (fun ok z4 =>
          if ok = true then wpAny (model prog w) A (eval kx ev) (fun kv z5 => wpAny (model prog w) A (eval vx ev) (fun vv z6 =>
              wpAny (model prog w) A (dictSet D kv vv) (fun _ z7 => ∃ m, m < n ∧ J m z7) (nby prog w A R ev) z6) (nby prog w A R ev) z5) (nby prog w A R ev) z4
          else ∃ m, m < n ∧ J m z4) (nby prog w A R ev) z3) (nby prog w A R ev) z2) (nby prog w A R ev) z1) (nby prog w A R ev) z)
    (n : Nat) (h : J n s) : codeAny (model prog w) A (.compLoop (dcx kx vx ga pa gb pb fa fb sc pz) 1 jt (.ref D) ev) R s := by
  refine codeAny_loop rfl J (fun n z hJ => ?_) n h
  show wpAny _ A ((compTurn (dcx kx vx ga pa gb pb fa fb sc pz) 1 jt (.ref D) ev).onRaise (fun x => do noteFrame x ev; theTreesLotGoes x)) _ _ z
  refine wpAny_noted ?_
  rw [dcTurnB]
  refine wpAny_bind (wpAny_standAt (wpAny_bind (wpAny_mono (turn n z hJ) (fun r z1 h1 => ?_) fun _ _ k => k)))
  cases r with
  | none => exact wpAny_pure h1
  | some v =>
    refine wpAny_bind (wpAny_mono h1 (fun _ z2 h2 => wpAny_bind (wpAny_mono h2 (fun _ z3 h3 => wpAny_bind (wpAny_mono h3 (fun ok z4 h4 => ?_) fun _ _ k => k)) fun _ _ k => k)) fun _ _ k => k)
    cases ok with
    | false => exact wpAny_pure ⟨rfl, h4⟩
    | true =>
      exact wpAny_bind (wpAny_bind (wpAny_mono h4 (fun kv z5 h5 => wpAny_bind (wpAny_holding (wpAny_mono h5 (fun vv z6 h6 => wpAny_bind (wpAny_standAt (wpAny_holding (wpAny_mono h6 (fun _ z7 h7 => wpAny_pure ⟨rfl, h7⟩) fun _ _ k => k)))) fun _ _ k => k))) fun _ _ k => k))
theorem dcStartB (h0 : codeAny (model prog w) A (.compLoop (dcx kx vx ga pa gb pb fa fb sc pz) 1 jt (.ref D) ev) R s)
    (h : wpAny (model prog w) A (pyIter jt) (fun jt' z => codeAny (model prog w) A (.compLoop (dcx kx vx ga pa gb pb fa fb sc pz) 1 jt' (.ref D) ev) R z) (nby prog w A R ev) s) :
    codeAny (model prog w) A (.compStart (dcx kx vx ga pa gb pb fa fb sc pz) 1 jt (.ref D) ev) R s := by
  refine codeAny_of_tree ?_
  show wpAny _ _ ((compStart (dcx kx vx ga pa gb pb fa fb sc pz) 1 jt (.ref D) ev).onRaise (fun x => do noteFrame x ev; standAt theWindowsPlace)) _ _ s
  refine wpAny_notedAt ?_
  unfold compStart
  show wpAny _ _ (ask >>= _) _ _ s
  refine wpAny_bind (wpAny_askSetting (wpAny_ite ?_))
  split
  · first
      | exact wpAny_bind (wpAny_pure (wpAny_pure (And.intro rfl h0)))
      | exact wpAny_pure (And.intro rfl h0)
  · first
      | exact wpAny_bind (wpAny_rule (wpAny_bind (wpAny_standAt (wpAny_bind (wpAny_mono h (fun jt' z k => wpAny_pure (And.intro rfl k)) fun _ _ x => x)))))
      | (refine wpAny_bind (wpAny_rule ?_); show wpAny _ _ (standAt pb.pos >>= _) _ _ s; exact wpAny_bind (wpAny_standAt (wpAny_bind (wpAny_mono h (fun jt' z k => wpAny_pure (And.intro rfl k)) fun _ _ x => x))))
end
end LF

set_option Elab.async false
set_option linter.all false
set_option maxRecDepth 100000
set_option maxHeartbeats 4000000
namespace LF
open PySem PySem.Spec PyProof.Rows L2
/-- what one turn of the second clause must bring: G is asked of the heap behind it -/
abbrev dcIn (tk tv : TE) (D : Addr) (σ : L2.St) (H : Hp) (G : Hp → Prop) : Prop := tk σ H fun y H1 => tv σ H1 fun z H2 => ∃ kvs k, y = kV k ∧ H2 D = some (.dK kvs) ∧ kvs.length < sizeLine ∧ G (upd H2 D (.dK (putK kvs k z)))
/-- the second clause, from the slots σ: Out is asked behind its last turn -/
def dcB (wb : TI) (gb : TG) (tb : TT) (tk tv : TE) (vb : List Nat) (D : Addr) (σ : L2.St) (H : Hp) (Out : Hp → Prop) : Prop := wb σ H fun J H1 => ∃ W : Nat → Nat → Hp → Prop, (∃ m, W 0 m H1) ∧ ∀ j k H, W j k H →
  (J.stop j H ∧ Out H) ∨ (J.go j H ∧ ∃ N : Hp → Prop, (∀ H', N H' → ∃ k', k' < k ∧ W (j + 1) k' H') ∧ ∀ x H', J.yld j H x H' → gb x (wipe σ vb) H' fun σ1 H2 => wipe σ1 vb = wipe σ vb ∧ tb σ1 H2 fun b H3 => if b = true then dcIn tk tv D σ1 H3 N else N H3)
def tDc2 (wa : TI) (ga : TG) (ta : TT) (wb : TI) (gb : TG) (tb : TT) (tk tv : TE) (va vb : List Nat) : TE := fun σ H Q => wa σ H fun J H1 => ∀ D, H1 D = none → ∃ W : Nat → Nat → Hp → Prop, (∃ m, W 0 m (upd H1 D (.dK []))) ∧ ∀ i m H, W i m H →
  (J.stop i H ∧ Q (.ref D) H) ∨ (J.go i H ∧ ∃ N : Hp → Prop, (∀ H', N H' → ∃ m', m' < m ∧ W (i + 1) m' H') ∧ ∀ x H', J.yld i H x H' → ga x (wipe σ va) H' fun σ1 H2 => wipe σ1 va = wipe σ va ∧ ta σ1 H2 fun b H3 => if b = true then dcB wb gb tb tk tv vb D σ1 H3 N else N H3)
section
variable {X : Cx}
/-- what is shown of each part of the block, wherever it stands -/
abbrev atBlk (X : Cx) (sc : Scope) (φ : Cx → Prop) : Prop := ∀ (s : Shared) (H : Hp) (C : Addr) (cl : List (Str × Addr)) (fp : List Addr), φ (X.blk s H sc (compEnvC sc cl C X.env) fp)
theorem dc2_run {pins : List (Addr × Obj)} {s : Shared} {σ : L2.St} {H : Hp} {Q : VK} {kx vx ea pa eb pb : Expr} {fa fb : List Expr} {sc : Scope} {own : List (Str × Nat)} {vb : List Nat} {pz pz' : Pos} {wa wb : TI} {ga gb : TG} {ta tb : TT} {tk tv : TE} {use : Option (Value → Sem Unit)} {Qf : Value → Shared → Prop}
    (hc : X.calm = true) (hN : X.N.Nodup) (I : Inv X pins σ H s) (hi : PI X ea pa wa) (bo : BlkOk X.N X.env.scope sc own) (hv : ∀ i ∈ vb, i ∈ own.map (·.2))
    (hga : atBlk X sc fun Y => PG Y ea ga) (hta : atBlk X sc fun Y => PTs Y fa ta) (hib : atBlk X sc fun Y => PI Y eb pb wb) (hgb : atBlk X sc fun Y => PG Y eb gb) (htb : atBlk X sc fun Y => PTs Y fb tb)
    (hk : atBlk X sc fun Y => PE Y kx tk) (hx : atBlk X sc fun Y => PE Y vx tv) (fla : ∀ x, foldedSetIterable pa X.env x = pure x) (flb : ∀ ev x, foldedSetIterable pb ev x = pure x)
    (h : tDc2 wa ga ta wb gb tb tk tv (own.map (·.2)) vb σ H Q)
    (back : ∀ D C y m H', Inv X pins σ H' y → Q (.ref D) H' → y.heap.Ns C m → FpOk X pins H' C → compPost (model X.prog X.w) X.A X.xe use Qf (.ref D) C (.ok .next) y) :
    wpAny (model X.prog X.w) X.A (comprehension (dcx kx vx ea pa eb pb fa fb sc pz) sc X.env pz' newDict false (eval pa X.env) use) Qf X.xe s := by
  have cells : ∀ y ∈ sc.names, y.2 = .free → ∃ c, X.env.cells.lookup y.1 = some c := fun y hy e => (bo.free y hy e).elim (fun k => I.ok.has _ (.inl k)) (fun k => I.ok.has _ (.inr k))
  refine wpAny_comprehension_free (use := use) rfl fla (closure_ok cells) bo.kind (fun y hy e => by rw [bo.uniq y hy, e]) (thn (hi.run pins s σ H _ I h) fun va' z1 k1 => thn k1 fun it' z2 k2 => ?_)
  obtain ⟨ia, fpa, na, Ja, Ha, ei, Ia, Ta, sa, fa0, qa⟩ := k2
  subst ei
  refine wpAny_newObj_type (newEnv_comp ?_)
  generalize eD : z2.heap.objs.size = D
  obtain ⟨W, ⟨m0, w0⟩, turnA⟩ := qa D (Ia.hok.fresh (Nat.le_of_eq eD))
  generalize ez3 : ({ z2 with heap := z2.heap.push { cls := .type "dict", data := .dict #[] } } : Shared) = z3
  have hp3 : z3.heap = z2.heap.push { cls := .type "dict", data := .dict #[] } := by rw [← ez3]
  have I3 : Inv X pins σ (upd Ha D (.dK [])) z3 := by
    rw [← ez3]
    refine Ia.laid (t' := z2.toks) (fun _ _ e => Heap.get?_push_of_some _ e) (Nat.le_of_eq eD) ?_
    rw [← eD]
    exact dk_empty z2.heap Ia.big
  have lo : ∀ b ∈ fpa, b < z2.heap.objs.size := fun b hb => let ⟨_, e, _⟩ := Ta.obj _ _ sa b hb; Heap.lt_size e
  have fa3 : ∀ b ∈ fpa, FpOk X pins (upd Ha D (.dK [])) b ∧ b < z3.heap.objs.size := fun b hb => by
    refine ⟨⟨?_, (fa0 b hb).2⟩, by rw [hp3, Heap.size_push]; exact Nat.lt_succ_of_lt (lo b hb)⟩
    rw [upd_ne (by rw [← eD]; exact Nat.ne_of_lt (lo b hb))]
    exact (fa0 b hb).1
  have sa3 : na 0 z3.heap := Ta.keep _ _ _ sa fun _ _ _ e => by rw [hp3]; exact Heap.get?_push_of_some _ e
  have Ib := block_start I3 bo hN fa3
  show codeAny _ _ (.compStart (dcx kx vx ea pa eb pb fa fb sc pz) 0 (.ref ia) (.ref D) (compEnvC sc (cellsFrom (z3.heap.objs.size + 1) sc.names (cloFrom X.env.cells sc.names [])) z3.heap.objs.size X.env))
    (compPost (model X.prog X.w) X.A X.xe use Qf (.ref D) z3.heap.objs.size) { z3 with heap := pushCells (z3.heap.push { cls := .type "dict", data := .dict #[] }) sc.names }
  generalize cellsFrom (z3.heap.objs.size + 1) sc.names (cloFrom X.env.cells sc.names []) = cl at Ib ⊢
  have pga := hga z3 (upd Ha D (.dK [])) z3.heap.objs.size cl fpa
  have pta := hta z3 (upd Ha D (.dK [])) z3.heap.objs.size cl fpa
  have pib := hib z3 (upd Ha D (.dK [])) z3.heap.objs.size cl fpa
  have pgb := hgb z3 (upd Ha D (.dK [])) z3.heap.objs.size cl fpa
  have ptb := htb z3 (upd Ha D (.dK [])) z3.heap.objs.size cl fpa
  have pk := hk z3 (upd Ha D (.dK [])) z3.heap.objs.size cl fpa
  have px := hx z3 (upd Ha D (.dK [])) z3.heap.objs.size cl fpa
  have nfa : ∀ b ∈ fpa, (upd Ha D (.dK [])) b = none := fun b hb => (fa3 b hb).1.1
  generalize ece : compEnvC sc cl z3.heap.objs.size X.env = ce at Ib pga pta pib pgb ptb pk px ⊢
  have ceL : ce.locals = z3.heap.objs.size := by subst ece; rfl
  generalize eH3 : upd Ha D (.dK []) = H3 at I3 Ib pga pta pib pgb ptb pk px w0 nfa fa3
  generalize ez4 : ({ z3 with heap := pushCells (z3.heap.push { cls := .type "dict", data := .dict #[] }) sc.names } : Shared) = z4 at Ib ⊢
  have sa4 : na 0 z4.heap := Ta.keep _ _ _ sa3 fun _ _ _ e => by rw [← ez4]; exact pushCells_keeps _ _ _ _ (Heap.get?_push_of_some _ e)
  generalize eY : X.blk z3 H3 sc ce fpa = Y at Ib pga pta pib pgb ptb pk px
  have cY : Y.calm = true := by rw [← eY]; exact hc
  have stay : ∀ {σ' : L2.St} {H' : Hp} {y : Shared}, Inv Y [] σ' H' y → (∀ b ∈ fpa, H' b = none) → ∀ b ∈ fpa, FpOk Y [] H' b := fun {σ' H' y} I' hn b hb => by
    subst eY
    exact ⟨hn b hb, (I'.ok.exf b hb).1, I'.ok.exfs b hb, .inl hb, fun x c e => (I'.ok.exf b hb).2 x c e, fun p hp => absurd (show p ∈ ([] : List (Addr × Obj)) ++ [] from hp) (by simp)⟩
  let st0 := wipe σ (own.map (·.2))
  let Turn : Nat → Shared → Prop := fun n y => ∃ i H', Inv Y [] st0 H' y ∧ na i y.heap ∧ (∀ b ∈ fpa, H' b = none) ∧ W i n H'
  have eP : model Y.prog Y.w = model X.prog X.w := by subst eY; rfl
  have eA : Y.A = X.A := by subst eY; rfl
  have loopA : codeAny (model X.prog X.w) X.A (.compLoop (dcx kx vx ea pa eb pb fa fb sc pz) 0 (.ref ia) (.ref D) ce) (compPost (model X.prog X.w) X.A X.xe use Qf (.ref D) z3.heap.objs.size) z4 := by
    refine dcLoopA (flb ce) Turn ?_ m0 ⟨0, H3, Ib, sa4, nfa, w0⟩
    rintro n z5 ⟨i, H5, I5, s5, n5, w5⟩
    rcases turnA i n H5 w5 with ⟨stop, qq⟩ | ⟨go, N, hNx, step⟩
    · subst eY
      refine thnF (Ta.done (X.blk z3 H3 sc ce fpa) rfl rfl rfl hc i [] z5 _ H5 (fun _ _ => False) I5 (stay I5 n5) s5 stop) fun r z6 ⟨hr, I6⟩ => ?_
      subst hr
      have I7 : Inv X pins σ H5 z6 := I3.call' (ch := fpa) I6.os I6.base I6.hok I6.bare fun b hb => ⟨(fa3 b hb).1.2.2.2.1, (fa3 b hb).1.2.1, (fa3 b hb).1.2.2.2.2.1, (fa3 b hb).1.2.2.2.2.2⟩
      have nC : H5 z3.heap.objs.size = none := by have q0 : H5 ce.locals = none := I6.free; rw [ceL] at q0; exact q0
      obtain ⟨m, hn, _⟩ := I6.loc
      have hn' : z6.heap.Ns ce.locals m := hn
      rw [ceL] at hn'
      exact back D z3.heap.objs.size z6 m H5 I7 qq hn' (I3.fpOk (Nat.le_refl _) nC)
    · subst eY
      refine thnF (Ta.item (X.blk z3 H3 sc ce fpa) rfl rfl rfl hc i [] z5 _ H5 (fun _ _ => False) I5 (stay I5 n5) s5 go) fun r z6 ⟨u, hr, k6⟩ => ?_
      subst hr
      refine thnF k6 fun _ z7 ⟨x, H7, I7, r7, y7, s7, n7⟩ => ?_
      have I7p := I7.pinned (stay I7 n7) (Ta.obj _ _ s7)
      refine thnF (pga.run _ z7 _ H7 x u _ I7p r7 (step x H7 y7)) fun _ z8 ⟨σ8, H8, I8, hw8, q8⟩ => ?_
      refine thnF (pta.run _ z8 σ8 H8 _ I8 q8) fun b z9 ⟨H9, I9, q9⟩ => ?_
      -- behind the turn, from slots that still know what the block knew
      have ends : ∀ {τ : L2.St} {y : Shared} {H' : Hp}, Inv (X.blk z3 H3 sc ce fpa) ([] ++ pinsAt fpa z7.heap) τ H' y → st0.length = τ.length → (∀ (j : Nat) v, st0[j]? = some (some v) → τ[j]? = some (some v)) → N H' → ∃ m, m < n ∧ Turn m y := fun {τ y H'} I' hl hkn nx => by
        obtain ⟨m', lt, w'⟩ := hNx H' nx
        have same : ∀ b ∈ fpa, ∀ o, z7.heap.get? b = some o → y.heap.get? b = some o ∧ H' b = none := fun b hb o e => let q := I'.pin (b, o) (List.mem_append_right _ (List.mem_append_right _ (mem_pinsAt hb e))); ⟨q.1, q.2.1⟩
        refine ⟨m', lt, i + 1, H', (I'.unpinned (pins := [])).weak hl hkn, Ta.keep _ _ _ s7 fun b hb o e => (same b hb o e).1, fun b hb => ?_, w'⟩
        obtain ⟨o, e, _⟩ := Ta.obj _ _ s7 b hb
        exact (same b hb o e).2
      have ln8 : st0.length = σ8.length := by show (wipe σ _).length = _; rw [← hw8, wipe_length]
      have kn8 : ∀ (j : Nat) v, st0[j]? = some (some v) → σ8[j]? = some (some v) := fun j v e => (wipe_some (show (wipe σ8 _)[j]? = _ by rw [hw8]; exact e)).1
      have kn9 : ∀ (j : Nat) v, st0[j]? = some (some v) → (wipe σ8 vb)[j]? = some (some v) := fun j v e => by
        obtain ⟨e1, e2⟩ := wipe_some (show (wipe σ8 (own.map (·.2)))[j]? = some (some v) by rw [hw8]; exact e)
        rw [wipe_out fun q => e2 (hv j q)]
        exact e1
      cases b with
      | false => exact ends I9 ln8 kn8 q9
      | true =>
        refine thnF (pib.run _ z9 σ8 H9 _ I9 q9) fun vv' z10 k10 => thnF k10 fun it'' z11 k11 => ?_
        obtain ⟨ib, fpb, nb, Jb, Hb, ej, I11, Tb, s11, fb0, Wb, ⟨mb, wb0⟩, turnB⟩ := k11
        subst ej
        have stayB : ∀ {H' : Hp}, (∀ b ∈ fpb, H' b = none) → ∀ b ∈ fpb, FpOk (X.blk z3 H3 sc ce fpa) ([] ++ pinsAt fpa z7.heap) H' b := fun hn b hb => ⟨hn b hb, (fb0 b hb).2⟩
        let TurnB : Nat → Shared → Prop := fun k y => ∃ j H', Inv (X.blk z3 H3 sc ce fpa) ([] ++ pinsAt fpa z7.heap) (wipe σ8 vb) H' y ∧ nb j y.heap ∧ (∀ b ∈ fpb, H' b = none) ∧ Wb j k H'
        have loopB : codeAny (model X.prog X.w) X.A (.compLoop (dcx kx vx ea pa eb pb fa fb sc pz) 1 (.ref ib) (.ref D) ce) (fun r y => match r with
            | .ok _ => ∃ m, m < n ∧ Turn m y
            | .error _ => False) z11 := by
          refine dcLoopB TurnB ?_ mb ⟨0, Hb, I11.weak (wipe_length _ _) (fun j v e => (wipe_some e).1), s11, fun b hb => (fb0 b hb).1, wb0⟩
          rintro k z12 ⟨j, H12, I12, s12, n12, w12⟩
          rcases turnB j k H12 w12 with ⟨stop1, nx1⟩ | ⟨go1, N1, hN1, step1⟩
          · refine thnF (Tb.done (X.blk z3 H3 sc ce fpa) rfl rfl rfl hc j _ z12 (wipe σ8 vb) H12 (fun _ _ => False) I12 (stayB n12) s12 stop1) fun r z13 ⟨hr, I13⟩ => ?_
            subst hr
            exact ends I13 (ln8.trans (wipe_length σ8 vb).symm) kn9 nx1
          · refine thnF (Tb.item (X.blk z3 H3 sc ce fpa) rfl rfl rfl hc j _ z12 (wipe σ8 vb) H12 (fun _ _ => False) I12 (stayB n12) s12 go1) fun r z13 ⟨u1, hr, k13⟩ => ?_
            subst hr
            refine thnF k13 fun _ z14 ⟨x1, H14, I14, r14, y14, s14, n14⟩ => ?_
            refine thnF (pgb.run _ z14 (wipe σ8 vb) H14 x1 u1 _ (I14.pinned (stayB n14) (Tb.obj _ _ s14)) r14 (step1 x1 H14 y14)) fun _ z15 ⟨σ15, H15, I15, hw15, q15⟩ => ?_
            refine thnF (ptb.run _ z15 σ15 H15 _ I15 q15) fun b1 z16 ⟨H16, I16, q16⟩ => ?_
            have endsB : ∀ {y : Shared} {H' : Hp}, Inv (X.blk z3 H3 sc ce fpa) (([] ++ pinsAt fpa z7.heap) ++ pinsAt fpb z14.heap) σ15 H' y → N1 H' → ∃ m, m < k ∧ TurnB m y := fun {y H'} I' nx => by
              obtain ⟨m', lt, w'⟩ := hN1 H' nx
              have same : ∀ b ∈ fpb, ∀ o, z14.heap.get? b = some o → y.heap.get? b = some o ∧ H' b = none := fun b hb o e => let q := I'.pin (b, o) (List.mem_append_right _ (List.mem_append_right _ (mem_pinsAt hb e))); ⟨q.1, q.2.1⟩
              refine ⟨m', lt, j + 1, H', I'.unpinned.weak (by rw [← hw15, wipe_length]) (fun j' v e => (wipe_some (show (wipe σ15 vb)[j']? = some (some v) by rw [hw15]; exact e)).1), Tb.keep _ _ _ s14 fun b hb o e => (same b hb o e).1, fun b hb => ?_, w'⟩
              obtain ⟨o, e, _⟩ := Tb.obj _ _ s14 b hb
              exact (same b hb o e).2
            cases b1 with
            | false => exact endsB I16 q16
            | true =>
              refine thnF (pk.run _ z16 σ15 H16 _ I16 q16) fun uk z17 ⟨yk, H17, I17, r17, q17⟩ => ?_
              refine thnF (px.run _ z17 σ15 H17 _ I17 q17) fun uv z18 ⟨yv, H18, I18, r18, kvs, ky, ek, hD18, hz18, nx⟩ => ?_
              subst ek
              exact d_dictSet (X := X.blk z3 H3 sc ce fpa) I18 hD18 hz18 r17 r18 fun z19 I19 => endsB I19 nx
        exact dcStartB loopB (Tb.self X.A 0 _ _ _ s11 loopB)
  exact codeAny_compStart_dict loopA (Ta.self X.A 0 _ _ _ sa4 loopA)
theorem pe_dc2 {kx vx ea pa eb pb : Expr} {fa fb : List Expr} {sc : Scope} {own : List (Str × Nat)} {vb : List Nat} {pz : Pos} {wa wb : TI} {ga gb : TG} {ta tb : TT} {tk tv : TE}
    (hc : X.calm = true) (hN : X.N.Nodup) (hi : PI X ea pa wa) (bo : BlkOk X.N X.env.scope sc own) (hv : ∀ i ∈ vb, i ∈ own.map (·.2))
    (hga : ∀ (z : Shared) (G : Hp) (c : Addr) (cs : List (Str × Addr)) (fs : List Addr), PG (X.blk z G sc (compEnvC sc cs c X.env) fs) ea ga) (hta : ∀ (z : Shared) (G : Hp) (c : Addr) (cs : List (Str × Addr)) (fs : List Addr), PTs (X.blk z G sc (compEnvC sc cs c X.env) fs) fa ta) (hib : ∀ (z : Shared) (G : Hp) (c : Addr) (cs : List (Str × Addr)) (fs : List Addr), PI (X.blk z G sc (compEnvC sc cs c X.env) fs) eb pb wb) (hgb : ∀ (z : Shared) (G : Hp) (c : Addr) (cs : List (Str × Addr)) (fs : List Addr), PG (X.blk z G sc (compEnvC sc cs c X.env) fs) eb gb) (htb : ∀ (z : Shared) (G : Hp) (c : Addr) (cs : List (Str × Addr)) (fs : List Addr), PTs (X.blk z G sc (compEnvC sc cs c X.env) fs) fb tb)
    (hk : ∀ (z : Shared) (G : Hp) (c : Addr) (cs : List (Str × Addr)) (fs : List Addr), PE (X.blk z G sc (compEnvC sc cs c X.env) fs) kx tk) (hx : ∀ (z : Shared) (G : Hp) (c : Addr) (cs : List (Str × Addr)) (fs : List Addr), PE (X.blk z G sc (compEnvC sc cs c X.env) fs) vx tv) (fla : ∀ x, foldedSetIterable pa X.env x = pure x := by intro _; rfl) (flb : ∀ ev x, foldedSetIterable pb ev x = pure x := by intro _ _; rfl) :
    PE X (dcx kx vx ea pa eb pb fa fb sc pz) (tDc2 wa ga ta wb gb tb tk tv (own.map (·.2)) vb) := by
  refine ⟨fun pins s σ H Q I h => ?_⟩
  have e0 : eval (dcx kx vx ea pa eb pb fa fb sc pz) X.env = comprehension (dcx kx vx ea pa eb pb fa fb sc pz) sc X.env (firstIterPos [⟨ea, pa, fa, 0⟩, ⟨eb, pb, fb, 0⟩] pz) newDict false (eval pa X.env) none := by rfl
  rw [e0]
  refine dc2_run hc hN I hi bo hv hga hta hib hgb htb hk hx fla flb h fun D C y m H' I' q hn f => ⟨m, hn, fun h'' sb => ?_⟩
  obtain ⟨f0, f1, f2, f3, f4, f5⟩ := f
  exact ⟨.ref D, H', I'.turned (t' := y.toks) (fun b o hb e => (sb.2 b hb).trans e) f0 f1 f3 f4 f5, rfl, q⟩
end
end LF

set_option Elab.async false
set_option linter.all false
set_option maxRecDepth 100000
set_option maxHeartbeats 4000000
namespace K6
open PySem PySem.Spec PyProof.Rows L2 TL LF
/-! the parent of a path and its last name -/
def par (p : Str) : Str := PySem.Txt.join c_sl (parts p).dropLast
def lastN (p : Str) : Str := (parts p).getLast?.getD ""
theorem jp {z : Str} (h : ¬ z = "") : PySem.Txt.join c_sl (parts z) = z := by
  unfold parts
  rw [if_neg h, TL.join_eq]
  exact PySem.StrLaws.join_split _ _
theorem jSnocL (n : List Nat) : ∀ (l : List (List Nat)), l ≠ [] → joinL [47] (l ++ [n]) = joinL [47] l ++ 47 :: n
  | [], h => absurd rfl h
  | [p], _ => rfl
  | p :: q :: r, _ => by
    show p ++ ([47] ++ joinL [47] ((q :: r) ++ [n])) = (p ++ ([47] ++ joinL [47] (q :: r))) ++ 47 :: n
    rw [jSnocL n (q :: r) (by simp)]
    simp [List.append_assoc]
theorem jSnoc {init : List Str} (n : Str) (hne : init ≠ []) : tl (PySem.Txt.join c_sl (init ++ [n])) = tl (PySem.Txt.join c_sl init) ++ 47 :: tl n := by
  rw [TL.join_eq, TL.join_eq, tl_join, tl_join, tl_sl, List.map_append]
  exact jSnocL (tl n) _ (by simpa using hne)
theorem atMem {x : Str} {i : Nat} (h : StrLaws.At x c_sl x.length i) : 47 ∈ (tl x).drop i := by
  have h1 := (at_iff (by rw [tl_sl]; simp) i).mp h
  rw [tl_sl] at h1
  have h2 : ((tl x).drop i).take 1 = [47] := eq_of_beq h1
  exact List.mem_of_mem_take (by rw [h2]; exact List.mem_singleton_self _)
theorem rpOne {n : Str} (hn : 47 ∉ tl n) : PySem.Txt.rpartition n c_sl = ((Str.ofString "", Str.ofString "", n) : Str × Str × Str) := by
  unfold PySem.Txt.rpartition
  rcases StrLaws.last_spec n c_sl with ⟨h1, _⟩ | ⟨i, h1, h2, _⟩
  · rw [h1]; rfl
  · exact absurd (List.mem_of_mem_drop (atMem h2)) hn
theorem rpMany {init : List Str} {n : Str} (hi : init ≠ []) (hn : 47 ∉ tl n) : PySem.Txt.rpartition (PySem.Txt.join c_sl (init ++ [n])) c_sl = (PySem.Txt.join c_sl init, c_sl, n) := by
  have et := jSnoc n hi
  generalize hx : PySem.Txt.join c_sl (init ++ [n]) = x at et
  generalize hy : PySem.Txt.join c_sl init = y at et
  have hat : StrLaws.At x c_sl x.length (tl y).length := by
    refine (at_iff (by rw [tl_sl]; simp) _).mpr ?_
    rw [et, tl_sl, List.drop_left]
    rfl
  unfold PySem.Txt.rpartition
  rcases StrLaws.last_spec x c_sl with ⟨_, h2⟩ | ⟨i, h1, h2, h3⟩
  · exact absurd hat (h2 _)
  · have hle : (tl y).length ≤ i := Nat.le_of_not_lt fun q => h3 _ q hat
    have hie : i = (tl y).length := by
      refine Nat.le_antisymm (Nat.le_of_not_lt fun q => ?_) hle
      have hm := atMem h2
      have e : i = (tl y).length + (1 + (i - (tl y).length - 1)) := by omega
      rw [et, e, ← List.drop_drop, List.drop_left, ← List.drop_drop] at hm
      exact hn (List.mem_of_mem_drop hm)
    rw [h1]
    have e1 : Builtin.Str.strSub x 0 i = y := by
      apply ext_tl
      rw [tl_strSub, hie, List.drop_zero, Nat.sub_zero, et, List.take_left]
    have e2 : Builtin.Str.strSub x (i + c_sl.length) x.length = n := by
      apply ext_tl
      have hl : c_sl.length = 1 := by decide +kernel
      rw [tl_strSub_end, hie, hl, et, ← List.drop_drop, List.drop_left]; rfl
    show (Builtin.Str.strSub x 0 i, c_sl, Builtin.Str.strSub x (i + c_sl.length) x.length) = _
    rw [e1, e2]
theorem isPl_snoc {p : Str} (h : isPl p = true) : ∃ init n, parts p = init ++ [n] ∧ (∀ s ∈ init, isNm s = true) ∧ isNm n = true ∧ p = PySem.Txt.join c_sl (init ++ [n]) := by
  obtain ⟨h1, h2, _⟩ := isPl_parts h
  have hne : parts p ≠ [] := fun e => by rw [e] at h2; simp at h2
  have e := (List.dropLast_concat_getLast hne).symm
  refine ⟨(parts p).dropLast, (parts p).getLast hne, e, fun s hs => h1 s (List.dropLast_subset _ hs), h1 _ (List.getLast_mem hne), ?_⟩
  rw [← e]; exact (jp (isPl_pt h).2).symm
theorem rpPl {p : Str} (h : isPl p = true) : ∃ s, PySem.Txt.rpartition p c_sl = (par p, s, lastN p) := by
  obtain ⟨init, n, e, h1, h2, h3⟩ := isPl_snoc h
  have ep : par p = PySem.Txt.join c_sl init := by unfold par; rw [e, List.dropLast_concat]
  have en : lastN p = n := by unfold lastN; rw [e]; simp
  rw [ep, en]
  have hn : 47 ∉ tl n := isNm_sl h2
  by_cases hi : init = []
  · subst hi
    have ej : PySem.Txt.join c_sl ([] ++ [n]) = n := by
      apply ext_tl
      rw [TL.join_eq, tl_join]; rfl
    rw [h3, ej, join_nil0]
    exact ⟨_, rpOne hn⟩
  · rw [h3]
    exact ⟨_, rpMany hi hn⟩
theorem par_begs {p : Str} (h : isPl p = true) : par p = "" ∨ par p ∈ begs p := by
  obtain ⟨init, n, e, h1, h2, h3⟩ := isPl_snoc h
  have ep : par p = PySem.Txt.join c_sl init := by unfold par; rw [e, List.dropLast_concat]
  by_cases hi : init = []
  · exact Or.inl (by rw [ep, hi]; exact join_nil0)
  · refine Or.inr ?_
    have hl : 1 ≤ init.length := List.length_pos_iff.mpr hi
    unfold begs
    rw [List.mem_map]
    refine ⟨init.length - 1, ?_, ?_⟩
    · rw [List.mem_range, e, List.length_append]; simp; omega
    · rw [ep, e, show init.length - 1 + 1 = init.length by omega, List.take_left]
theorem parts_par {p : Str} (h : isPl p = true) : parts (par p) = (parts p).dropLast := by
  obtain ⟨init, n, e, h1, h2, h3⟩ := isPl_snoc h
  unfold par
  rw [e, List.dropLast_concat]
  exact parts_join h1
/-- fewer names come first -/
theorem lenLt {a b : Str} (h : (parts a).length < (parts b).length) : PySem.W.dataLt (keyD a) (keyD b) = true := by
  unfold keyD
  rw [PySem.W.dataLt_pair (by simp [PySem.W.alike]) (by simp only [PySem.W.alike]; exact alike_strs _ _), PySem.W.dataLt_int]
  have e1 : PyData.eqv (.int (parts a).length) (.int (parts b).length) = false := by
    show (((parts a).length : Int) == ((parts b).length : Int)) = _
    have h' : ¬ ((parts a).length : Int) = ((parts b).length : Int) := by omega
    simp [h']
  rw [e1, if_neg Bool.false_ne_true]
  exact decide_eq_true (by omega)
theorem memVal {es : List (Str × V)} (nd : (es.map (·.1)).Nodup) {z : Str} {v : V} (hv : valV (kv es) (.inr z) = some v) : (z, v) ∈ es := by
  by_cases hp : z ∈ es.map (·.1)
  · obtain ⟨e, he, rfl⟩ := List.mem_map.mp hp
    have := val_mem nd (p := e.1) (v := e.2) he
    rw [hv] at this
    rw [Option.some.inj this]; exact he
  · rw [val_no hp] at hv; cases hv
/-- a parent stands ahead of its path -/
theorem par_ahead {es : List (Str × V)} (ok : OkE es) {i : Nat} {p : Str} {v : V} (h : es[i]? = some (p, v)) : par p = "" ∨ (par p, V.non) ∈ es.take i := by
  have hm := List.mem_of_getElem? h
  obtain ⟨hp1, hp2⟩ : isPl p = true ∧ p.length ≤ 1000000 := ok.pl _ hm
  rcases par_begs hp1 with h0 | h0
  · exact Or.inl h0
  · refine Or.inr ?_
    have hv := ok.up _ hm _ h0
    have hm2 := memVal ok.nd hv
    obtain ⟨j, hj, hje⟩ := List.mem_iff_getElem.mp hm2
    have hi := (List.getElem?_eq_some_iff.mp h).1
    have hie : es[i] = (p, v) := (List.getElem?_eq_some_iff.mp h).2
    have hpl := parts_par hp1
    have hn : 1 ≤ (parts p).length := (isPl_parts hp1).2.1
    have hlt : (parts (par p)).length < (parts p).length := by rw [hpl, List.length_dropLast]; omega
    have hji : j < i := by
      refine Nat.lt_of_not_le fun hij => ?_
      rcases Nat.lt_or_eq_of_le hij with hij | hij
      · have := List.pairwise_iff_getElem.mp ok.le i j (by rw [List.length_map]; exact hi) (by rw [List.length_map]; exact hj) hij
        rw [List.getElem_map, List.getElem_map, hie, hje, PySem.W.dataLe_eq] at this
        have h2 : PySem.W.dataLt (keyD (par p)) (keyD p) = true := lenLt hlt
        simp only at this
        rw [h2] at this
        cases this
      · subst hij
        rw [hie] at hje
        have : par p = p := (Prod.mk.inj hje).1.symm
        rw [this] at hlt
        exact Nat.lt_irrefl _ hlt
    rw [← hje]
    exact List.mem_iff_getElem.mpr ⟨j, by rw [List.length_take]; omega, by rw [List.getElem_take]⟩
end K6

set_option Elab.async false
set_option linter.all false
set_option maxRecDepth 100000
set_option maxHeartbeats 4000000
namespace LF
open PySem PySem.Spec PyProof.Rows L2
section
variable {J : It} {n : Nat} {G : Hp → Prop} {Y : Nat → Hp → V → Hp → Prop}
theorem dcB_it (wk : Walk J n G Y) {gb : TG} {tb : TT} {tk tv : TE} {vb : List Nat} {D : Addr} {σ : L2.St} {H0 : Hp} {Out : Hp → Prop} (Pv : Nat → Hp → Prop) (start : Pv 0 H0) (stays : ∀ i H, i ≤ n → Pv i H → G H)
    (turn : ∀ i x H H', i < n → Pv i H → Y i H x H' → gb x (wipe σ vb) H' fun σ1 H2 => wipe σ1 vb = wipe σ vb ∧ tb σ1 H2 fun b H3 => if b = true then dcIn tk tv D σ1 H3 (Pv (i + 1)) else Pv (i + 1) H3) (done : ∀ H, Pv n H → Out H) :
    ∃ W : Nat → Nat → Hp → Prop, (∃ m, W 0 m H0) ∧ ∀ j k H, W j k H →
      (J.stop j H ∧ Out H) ∨ (J.go j H ∧ ∃ N : Hp → Prop, (∀ H', N H' → ∃ k', k' < k ∧ W (j + 1) k' H') ∧ ∀ x H', J.yld j H x H' → gb x (wipe σ vb) H' fun σ1 H2 => wipe σ1 vb = wipe σ vb ∧ tb σ1 H2 fun b H3 => if b = true then dcIn tk tv D σ1 H3 N else N H3) := by
  refine ⟨fun i m H => m = n - i ∧ i ≤ n ∧ Pv i H, ⟨n, by simp, Nat.zero_le _, start⟩, ?_⟩
  rintro i m H ⟨rfl, hi, p⟩
  rcases Nat.lt_or_eq_of_le hi with lt | rfl
  · exact .inr ⟨wk.goes i H lt (stays i H hi p), Pv (i + 1), fun H' p' => ⟨n - (i + 1), by omega, rfl, lt, p'⟩, fun x H' y => turn i x H H' lt p (wk.yields i H x H' lt (stays i H hi p) y)⟩
  · exact .inl ⟨wk.stops H (stays i H hi p), done H p⟩
theorem dc2_it (wk : Walk J n G Y) {ga : TG} {ta : TT} {wb : TI} {gb : TG} {tb : TT} {tk tv : TE} {va vb : List Nat} {D : Addr} {σ : L2.St} {H0 : Hp} {Out : Hp → Prop} (Pv : Nat → Hp → Prop) (start : Pv 0 (upd H0 D (.dK []))) (stays : ∀ i H, i ≤ n → Pv i H → G H)
    (turn : ∀ i x H H', i < n → Pv i H → Y i H x H' → ga x (wipe σ va) H' fun σ1 H2 => wipe σ1 va = wipe σ va ∧ ta σ1 H2 fun b H3 => if b = true then dcB wb gb tb tk tv vb D σ1 H3 (Pv (i + 1)) else Pv (i + 1) H3) (done : ∀ H, Pv n H → Out H) :
    ∃ W : Nat → Nat → Hp → Prop, (∃ m, W 0 m (upd H0 D (.dK []))) ∧ ∀ i m H, W i m H →
      (J.stop i H ∧ Out H) ∨ (J.go i H ∧ ∃ N : Hp → Prop, (∀ H', N H' → ∃ m', m' < m ∧ W (i + 1) m' H') ∧ ∀ x H', J.yld i H x H' → ga x (wipe σ va) H' fun σ1 H2 => wipe σ1 va = wipe σ va ∧ ta σ1 H2 fun b H3 => if b = true then dcB wb gb tb tk tv vb D σ1 H3 N else N H3) := by
  refine ⟨fun i m H => m = n - i ∧ i ≤ n ∧ Pv i H, ⟨n, by simp, Nat.zero_le _, start⟩, ?_⟩
  rintro i m H ⟨rfl, hi, p⟩
  rcases Nat.lt_or_eq_of_le hi with lt | rfl
  · exact .inr ⟨wk.goes i H lt (stays i H hi p), Pv (i + 1), fun H' p' => ⟨n - (i + 1), by omega, rfl, lt, p'⟩, fun x H' y => turn i x H H' lt p (wk.yields i H x H' lt (stays i H hi p) y)⟩
  · exact .inl ⟨wk.stops H (stays i H hi p), done H p⟩
end
end LF

set_option Elab.async false
set_option linter.all false
set_option maxRecDepth 100000
set_option maxHeartbeats 4000000
namespace K6
open PySem PySem.Spec PyProof.Rows L2 LF
/-! the files and plain folders among entries -/
def isRef : V → Bool
  | .str _ => true
  | _ => false
/-- the folders above a reference -/
def tornE (es : List (Str × V)) : List Str := es.flatMap fun e => if isRef e.2 = true then begs e.1 else []
def keepE (es : List (Str × V)) (e : Str × V) : Bool := !isRef e.2 && !decide (e.1 ∈ tornE es)
def solidE (es : List (Str × V)) : List (Str × V) := es.filter (keepE es)
theorem plain_str {K : PySem.W.Frag} {H : Hp} {x : V} (h : Plain x) : ∃ t b, TyX K H x t ∧ PySem.W.kitOne K t (.type "str") = some b ∧ b = isRef x := by
  rcases h with rfl | ⟨i, rfl⟩ | ⟨z, rfl, hz⟩
  · exact ⟨_, _, .base .non, kit_no (t := "NoneType") (by simp [notStr]), rfl⟩
  · exact ⟨_, _, .base (.int i), kit_no (t := "int") (by simp [notStr]), rfl⟩
  · exact ⟨_, _, .base (.str z), kit_str, rfl⟩
theorem begs_len (p : Str) : (begs p).length = (parts p).length - 1 := by unfold begs; rw [List.length_map, List.length_range]
theorem valPut {kvs : List (Key × V)} {k q : Key} {v : V} : (valV (putK kvs k v) q).isSome = ((valV kvs q).isSome || decide (q = k)) := by
  by_cases h : q = k
  · rw [valV_put, if_pos h, decide_eq_true h, Bool.or_true]; rfl
  · rw [valV_put, if_neg h, decide_eq_false h, Bool.or_false]
def spSolid : Sp := fun vs H Q _ => ∃ (d : Addr) (es : List (Str × V)), vs = [.ref d] ∧ H d = some (.dK (kv es)) ∧ OkE es ∧ es.length ≤ 1000 ∧ ∀ H' p, Same H H' → H p = none → H' p = some (.dK (kv (solidE es))) → Q (.ref p) H'
abbrev s_solid_entries : Stmt := topS 37
abbrev N_solid_entries : List Str := ["entries", "torn", "path", "place"]
theorem sc_solid_entries : FnScope ["entries", "torn", "path", "place"] ["entries"] (defScope s_solid_entries) := ⟨rfl, rfl, rfl, by decide +kernel, rfl, by decide +kernel, by decide +kernel⟩
section
variable {P : Program} {w : World} {K : PySem.W.Frag} {mg : Str → Option Value} {base : Heap} {tk1 tk2 : Tok}
theorem filt_next {es : List (Str × V)} {g : Str × V → Bool} {i : Nat} {e : Str × V} (h : es[i]? = some e) : (es.take (i + 1)).filter g = (es.take i).filter g ++ (if g e = true then [e] else []) := by
  rw [List.take_add_one, h, List.filter_append]
  congr 1
  cases hg : g e <;> simp [hg]
theorem put_filt {es : List (Str × V)} {g : Str × V → Bool} {i : Nat} {p : Str} {v : V} (nd : (es.map (·.1)).Nodup) (h : es[i]? = some (p, v)) : putK (kv ((es.take i).filter g)) (.inr p) v = kv ((es.take i).filter g ++ [(p, v)]) := by
  have hno : p ∉ ((es.take i).filter g).map (·.1) := by
    intro hm
    obtain ⟨q, hq, hqp⟩ := List.mem_map.mp hm
    obtain ⟨j, hj, hjq⟩ := List.mem_iff_getElem.mp (List.mem_filter.mp hq).1
    rw [List.length_take] at hj
    have hil := (List.getElem?_eq_some_iff.mp h).1
    rw [List.getElem_take] at hjq
    have h1 : (es.map (·.1))[j]'(by rw [List.length_map]; omega) = p := by rw [List.getElem_map, hjq, hqp]
    have h2 : (es.map (·.1))[i]'(by rw [List.length_map]; exact hil) = p := by rw [List.getElem_map, (List.getElem?_eq_some_iff.mp h).2]
    exact List.pairwise_iff_getElem.mp nd j i (by rw [List.length_map]; omega) (by rw [List.length_map]; exact hil) (by omega) (h1.trans h2.symm)
  rw [putK_new _ (val_no hno)]
  unfold kv
  rw [List.map_append]; rfl
theorem ok_solid {f f1 : Addr} {fd fd1 : FuncData} (F : Fun K "solid_entries" "solid_entries" s_solid_entries f fd) (T : Txt K mg tk1 tk2)
    (d_beg : DefAt P w K mg base "beginnings" 2 f1 fd1 ["path"] spBeg) : FnOk P w K mg base CX0 3 f fd ["entries"] spSolid := by
  refine F.ok sc_solid_entries (fun vs H Q E h => ?_) (fun cdv A outer s H vs Q E hr h => ?_)
  · obtain ⟨d, es, rfl, _⟩ := h
    rfl
  have hu1 := hu_of hr
  refine ⟨_, (pss_cons (ps_set (i := 1) sc_solid_entries.nd rfl (Or.inr rfl) (pe_lock (pe_dc2 (own := [("path", 2), ("place", 3)]) (vb := [3]) rfl sc_solid_entries.nd (pi_keys (pv 0)) (blkOk_by (N := N_solid_entries) (sc := defScope s_solid_entries) (by decide +kernel)) (by decide)
      (fun _ _ _ _ _ => pg_name (i := 2) sc_solid_entries.nd rfl (Or.inl rfl))
      (fun _ _ _ _ _ => pts_one (pt_val (pe_callB (show CallR _ (.builtin "isinstance") (rIsi K) from call_isi) (by rfl) T.n_isinstance (by decide +kernel) (pa_cons (pe_dget hu1 (pv 0) (pv 2) (fun _ _ => rfl)) (pa_cons (pe_bltn (v := .ty "str") (by rfl) T.n_str (by decide +kernel) rfl) pa_nil)))))
      (fun _ _ _ _ _ => (show PI _ _ _ (iList K _) from pi_list (pe_callD d_beg (hr.mono (by decide)) (pa_cons (pv 2) pa_nil)))) (fun _ _ _ _ _ => pg_name (i := 3) sc_solid_entries.nd rfl (Or.inl rfl)) (fun _ _ _ _ _ => pts_nil) (fun _ _ _ _ _ => pv 3) (fun _ _ _ _ _ => pe_bl))))
    (pss_one (ps_ret (pe_lock (pe_dc (own := [("path", 2)]) rfl sc_solid_entries.nd (pi_keys (pv 0)) (blkOk_by (N := N_solid_entries) (sc := defScope s_solid_entries) (by decide +kernel)) (fun _ _ _ _ _ => pg_name (i := 2) sc_solid_entries.nd rfl (Or.inl rfl))
      (fun _ _ _ _ _ => pts_one (PW.pt (pw_and (pt_not (pt_val (pe_callB (show CallR _ (.builtin "isinstance") (rIsi K) from call_isi) (by rfl) T.n_isinstance (by decide +kernel) (pa_cons (pe_dget hu1 (pv 0) (pv 2) (fun _ _ => rfl)) (pa_cons (pe_bltn (v := .ty "str") (by rfl) T.n_str (by decide +kernel) rfl) pa_nil))))) (pw_and1 (pt_cmp (pc_dnotin hu1 (pv 2) (pv 1)))))))
      (fun _ _ _ _ _ => pv 2) (fun _ _ _ _ _ => pe_dget hu1 (pv 0) (pv 2) (fun _ _ => rfl))))))), ?_⟩
  obtain ⟨d, es, rfl, hd, ok, hlen, hq⟩ := h
  have hbig := sizeLine_big
  have hkl : (kv es).length = es.length := by unfold kv; rw [List.length_map]
  refine ⟨d, _, hd, True.intro, fun od => ?_⟩
  refine ⟨_, rfl, d, od, rfl, Or.inl ⟨kv es, upd_same, fun D hD => ?_⟩⟩
  have hl0 : (upd H d (.frz od (.dK (kv es)))) d = some (.frz od (.dK (kv es))) := upd_same
  have hs0 : ∀ H', Same (upd H d (.frz od (.dK (kv es)))) H' → Same H (upd H' d (.dK (kv es))) := fun H' s' => same_unlock hd s'
  generalize (upd H d (.frz od (.dK (kv es)))) = L at hl0 hs0 hD
  have nDd : D ≠ d := Ne.symm (ne_of_none hl0 hD)
  refine dc2_it walk_keys (fun i H' => Same L H' ∧ ∃ ts : List (Key × V), H' D = some (.dK ts) ∧ ts.length ≤ 10 * i ∧ ∀ q, (valV ts (.inr q)).isSome = decide (q ∈ tornE (es.take i))) ⟨same_new hD, [], upd_same, Nat.le_refl _, fun q => rfl⟩ (fun i H' _ h => h.1 _ _ hl0) ?_ ?_
  · rintro i x H1 H2 hi ⟨sm, ts, hts, htl, htv⟩ ⟨rfl, k, v, hk, rfl⟩
    obtain ⟨p, rfl, hie, hm⟩ := kv_get hk
    obtain ⟨hp1, hp2⟩ : isPl p = true ∧ p.length ≤ 1000000 := ok.pl _ hm
    obtain ⟨hi1, hi2⟩ := ok.it _ hm
    have hv := val_mem ok.nd hm
    have etake : tornE (es.take (i + 1)) = tornE (es.take i) ++ (if isRef v = true then begs p else []) := by
      rw [List.take_add_one, hie]; unfold tornE; rw [List.flatMap_append]; simp
    obtain ⟨t, b, ty, hkit, hb⟩ := plain_str (K := K) (H := H2) hi1
    refine ⟨rfl, _, rfl, _, rfl, d, v, rfl, .inl ⟨kv es, .inr p, .inr ⟨od, sm _ _ hl0⟩, rfl, hv.symm⟩, v, .ty "str", _, _, b, rfl, .ty _, ty, hkit, b, rfl, ?_⟩
    subst hb
    cases hr0 : isRef v with
    | false =>
      refine iteF ⟨sm, ts, hts, by omega, fun q => ?_⟩
      rw [htv q, etake, hr0, if_neg Bool.false_ne_true, List.append_nil]
    | true =>
      refine iteT ⟨_, rfl, p, rfl, hp2, hp1, fun H3 bl s3 nb hb => ⟨bl, rfl, ⟨_, SqL.of hb⟩, ?_⟩⟩
      have hlb : (begs p).length ≤ 9 := by rw [begs_len]; have := (isPl_parts hp1).2.2; omega
      have hi9 : i < 1000 := by omega
      refine dcB_it (walk_list (xs := (begs p).map V.str)) (fun j H' => Same H3 (upd H' D (.dK ts)) ∧ ∃ us : List (Key × V), H' D = some (.dK us) ∧ us.length ≤ 10 * i + j ∧ ∀ q, (valV us (.inr q)).isSome = decide (q ∈ tornE (es.take i) ++ (begs p).take j)) ⟨?_, ts, s3 _ _ hts, by omega, fun q => by rw [htv q, List.take_zero, List.append_nil]⟩ ?_ ?_ ?_
      · intro a o e
        by_cases ha : a = D
        · subst ha; rw [upd_same, ← e, s3 _ _ hts]
        · rw [upd_ne ha]; exact e
      · rintro j H' _ ⟨s4, us, hus, _⟩
        have nbD : bl ≠ D := fun e => by subst e; rw [s3 _ _ hts] at hb; cases hb
        have := s4 _ _ hb
        rw [upd_ne nbD] at this
        exact SqL.of this
      · rintro j x H4 H5 hj ⟨s4, us, hus, hul, huv⟩ ⟨rfl, hx⟩
        rw [List.length_map] at hj
        rw [List.getElem?_map, List.getElem?_eq_getElem hj] at hx
        obtain rfl := (Option.some.inj hx).symm
        refine ⟨rfl, _, rfl, us, .inr ((begs p)[j]), rfl, hus, by omega, ?_, _, upd_same, ?_, fun q => ?_⟩
        · rw [upd_upd]; exact s4
        · have := length_putK us (.inr ((begs p)[j])) (.bl true); omega
        · rw [valPut, huv q, List.take_add_one, List.getElem?_eq_getElem hj]
          have e1 : decide ((Sum.inr q : Key) = Sum.inr ((begs p)[j])) = decide (q = (begs p)[j]) := key_rr _ _
          rw [e1, ← List.append_assoc]
          show _ = decide (q ∈ (tornE (es.take i) ++ (begs p).take j) ++ [(begs p)[j]])
          by_cases h1 : q ∈ tornE (es.take i) ++ (begs p).take j
          · rw [decide_eq_true h1, decide_eq_true (List.mem_append_left _ h1)]; rfl
          · by_cases h2 : q = (begs p)[j]
            · have h3 : q ∈ (tornE (es.take i) ++ (begs p).take j) ++ [(begs p)[j]] := List.mem_append.mpr (Or.inr (List.mem_singleton.mpr h2))
              rw [decide_eq_true h2, decide_eq_true h3, Bool.or_true]
            · rw [decide_eq_false h1, decide_eq_false h2, decide_eq_false (fun h => (List.mem_append.mp h).elim h1 fun h => h2 (List.mem_singleton.mp h))]; rfl
      · rintro H4 ⟨s4, us, hus, hul, huv⟩
        rw [List.length_map] at huv hul
        refine ⟨?_, us, hus, by omega, fun q => ?_⟩
        · intro a o e
          have na : a ≠ D := fun ea => by subst ea; rw [hD] at e; cases e
          have := s4 _ _ (s3 _ _ (sm _ _ e))
          rw [upd_ne na] at this; exact this
        · rw [huv q, etake, hr0, if_pos rfl, List.take_length]
  rintro H1 ⟨sm, ts, hts, htl, htv⟩
  rw [hkl, List.take_length] at htv
  refine ⟨sm _ _ hl0, ?_⟩
  have S1 := hs0 _ sm
  have hts1 : (upd H1 d (.dK (kv es))) D = some (.dK ts) := by rw [upd_ne nDd]; exact hts
  generalize (upd H1 d (.dK (kv es))) = G1 at S1 hts1
  have hdG := S1 _ _ hd
  -- the second one
  refine ⟨d, _, hdG, True.intro, fun od2 => ?_⟩
  refine ⟨_, rfl, d, od2, rfl, Or.inl ⟨kv es, upd_same, fun D2 hD2 => ?_⟩⟩
  have hl2 : (upd G1 d (.frz od2 (.dK (kv es)))) d = some (.frz od2 (.dK (kv es))) := upd_same
  have hs2 : ∀ H', Same (upd G1 d (.frz od2 (.dK (kv es)))) H' → Same G1 (upd H' d (.dK (kv es))) := fun H' s' => same_unlock hdG s'
  have hts2 : (upd G1 d (.frz od2 (.dK (kv es)))) D = some (.dK ts) := by rw [upd_ne nDd]; exact hts1
  have hfr : G1 D2 = none := by
    by_cases e : D2 = d
    · subst e; rw [hl2] at hD2; cases hD2
    · rw [upd_ne e] at hD2; exact hD2
  generalize (upd G1 d (.frz od2 (.dK (kv es)))) = L2' at hl2 hs2 hD2 hts2
  have nD2 : D2 ≠ d := Ne.symm (ne_of_none hl2 hD2)
  refine dc_it walk_keys (fun i H' => Same L2' H' ∧ H' D2 = some (.dK (kv ((es.take i).filter (keepE es))))) ⟨same_new hD2, upd_same⟩ (fun i H' _ h => h.1 _ _ hl2) ?_ ?_
  · rintro i x H1 H2 hi ⟨sm, hd2⟩ ⟨rfl, k, v, hk, rfl⟩
    obtain ⟨p, rfl, hie, hm⟩ := kv_get hk
    obtain ⟨hi1, hi2⟩ := ok.it _ hm
    have hv := val_mem ok.nd hm
    obtain ⟨t, b, ty, hkit, hb⟩ := plain_str (K := K) (H := H2) hi1
    have hds := sm _ _ hl2
    have step := filt_next (g := keepE es) hie
    have hfl : (kv ((es.take i).filter (keepE es))).length ≤ es.length := by
      unfold kv; rw [List.length_map]
      exact Nat.le_trans (List.length_filter_le _ _) (by rw [List.length_take]; omega)
    refine ⟨rfl, _, rfl, _, rfl, d, v, rfl, .inl ⟨kv es, .inr p, .inr ⟨od2, hds⟩, rfl, hv.symm⟩, v, .ty "str", _, _, b, rfl, .ty _, ty, hkit, b, rfl, ?_⟩
    subst hb
    cases hr0 : isRef v with
    | true =>
      have hk0 : keepE es (p, v) = false := by unfold keepE; rw [hr0]; rfl
      rw [hk0, if_neg Bool.false_ne_true, List.append_nil] at step
      refine iteF (iteF ⟨sm, ?_⟩)
      rw [step]; exact hd2
    | false =>
      refine iteT ⟨_, rfl, _, rfl, D, _, rfl, DGet.k (k := Sum.inr p) (sm _ _ hts2), _, rfl, ?_⟩
      have hk0 : keepE es (p, v) = !decide (p ∈ tornE es) := by unfold keepE; rw [hr0]; rfl
      rw [htv p, ← hk0]
      cases hk1 : keepE es (p, v) with
      | false =>
        rw [hk1, if_neg Bool.false_ne_true, List.append_nil] at step
        refine iteF ⟨sm, ?_⟩
        rw [step]; exact hd2
      | true =>
        rw [hk1, if_pos rfl] at step
        refine iteT ⟨_, rfl, _, rfl, _, rfl, d, v, rfl, .inl ⟨kv es, .inr p, .inr ⟨od2, hds⟩, rfl, hv.symm⟩, _, .inr p, rfl, hd2, by omega, same_upd hD2 sm, ?_⟩
        rw [upd_same, put_filt ok.nd hie, step]
  · rintro H1 ⟨sm, hd2⟩
    rw [hkl, List.take_length] at hd2
    refine ⟨sm _ _ hl2, ?_⟩
    have S2 := hs2 _ sm
    exact hq _ D2 (S1.trans S2) (S1.free hfr) (by rw [upd_ne nD2]; exact hd2)
end
end K6

set_option Elab.async false
set_option linter.all false
set_option maxRecDepth 100000
set_option maxHeartbeats 4000000
namespace K6
open PySem PySem.Spec PyProof.Rows L2 LF
/-! the names directly in each folder -/
abbrev Room3 := Str × Addr × List Str
def rkv (rs : List Room3) : List (Key × V) := rs.map fun r => (.inr r.1, .ref r.2.1)
/-- rooms laid at r: a dict of lists -/
structure Rooms (H : Hp) (r : Addr) (rs : List Room3) : Prop where
  d : H r = some (.dK (rkv rs))
  l : ∀ x ∈ rs, H x.2.1 = some (.lst (x.2.2.map V.str))
theorem Rooms.same {H H' : Hp} {r : Addr} {rs : List Room3} (h : Rooms H r rs) (s : Same H H') : Rooms H' r rs := ⟨s _ _ h.d, fun x hx => s _ _ (h.l x hx)⟩
def bare3 (rs : List Room3) : List (Str × List Str) := rs.map fun r => (r.1, r.2.2)
def roomStep (rs : List (Str × List Str)) (e : Str × V) : List (Str × List Str) := (rs.map fun r => if r.1 = par e.1 then (r.1, r.2 ++ [lastN e.1]) else r) ++ (if e.2 = .non then [(e.1, [])] else [])
def roomsE (es : List (Str × V)) : List (Str × List Str) := es.foldl roomStep [("", [])]
theorem roomsE_next {es : List (Str × V)} {i : Nat} {e : Str × V} (h : es[i]? = some e) : roomsE (es.take (i + 1)) = roomStep (roomsE (es.take i)) e := by
  unfold roomsE
  rw [List.take_add_one, h, List.foldl_append]; rfl
theorem room_keys (es : List (Str × V)) : (roomsE es).map (·.1) = (Str.ofString "") :: (es.filter fun e => decide (e.2 = .non)).map (·.1) := by
  have gen : ∀ (es : List (Str × V)) (rs : List (Str × List Str)), (es.foldl roomStep rs).map (·.1) = rs.map (·.1) ++ (es.filter fun e => decide (e.2 = .non)).map (·.1) := by
    intro es
    induction es with
    | nil => intro rs; simp
    | cons e l ih =>
      intro rs
      rw [List.foldl_cons, ih]
      have e1 : (roomStep rs e).map (·.1) = rs.map (·.1) ++ (if e.2 = .non then [e.1] else []) := by
        unfold roomStep
        rw [List.map_append, List.map_map]
        congr 1
        · refine List.map_congr_left fun r _ => ?_
          show (if r.1 = par e.1 then (r.1, r.2 ++ [lastN e.1]) else r).1 = r.1
          split <;> rfl
        · split <;> rfl
      rw [e1, List.filter_cons]
      by_cases h : e.2 = .non
      · rw [if_pos h, if_pos (decide_eq_true h)]; simp
      · rw [if_neg h, if_neg (by rw [decide_eq_false h]; exact Bool.false_ne_true)]; simp
  exact gen es _
theorem room_nd {es : List (Str × V)} (ok : OkE es) (i : Nat) : ((roomsE (es.take i)).map (·.1)).Nodup := by
  rw [room_keys, List.nodup_cons]
  constructor
  · intro h
    obtain ⟨e, he, h0⟩ := List.mem_map.mp h
    have hm := List.mem_of_mem_take (List.mem_filter.mp he).1
    exact (isPl_pt (ok.pl e hm).1).2 h0
  · have h1 : ((es.take i).map (·.1)).Nodup := by rw [List.map_take]; exact ok.nd.sublist (List.take_sublist _ _)
    exact h1.sublist (List.filter_sublist.map _)
theorem val_rkv {rs : List Room3} (nd : (rs.map (·.1)).Nodup) {x : Room3} (h : x ∈ rs) : valV (rkv rs) (.inr x.1) = some (.ref x.2.1) := by
  have := val_mem (es := rs.map fun r => (r.1, V.ref r.2.1)) (p := x.1) (v := .ref x.2.1) (by rw [List.map_map]; exact nd) (List.mem_map.mpr ⟨x, h, rfl⟩)
  unfold kv at this
  rw [List.map_map] at this
  exact this
theorem val_rkv_no {rs : List Room3} {p : Str} (h : p ∉ rs.map (·.1)) : valV (rkv rs) (.inr p) = none := by
  have := val_no (es := rs.map fun r => (r.1, V.ref r.2.1)) (p := p) (by rw [List.map_map]; exact h)
  unfold kv at this
  rw [List.map_map] at this
  exact this
/-- a name put behind those of one folder -/
def addRoom (rs : List Room3) (f n : Str) : List Room3 := rs.map fun r => if r.1 = f then (r.1, r.2.1, r.2.2 ++ [n]) else r
theorem addRoom_kv (rs : List Room3) (f n : Str) : rkv (addRoom rs f n) = rkv rs := by
  unfold rkv addRoom
  rw [List.map_map]
  refine List.map_congr_left fun r _ => ?_
  show (Sum.inr (if r.1 = f then (r.1, r.2.1, r.2.2 ++ [n]) else r).1, V.ref (if r.1 = f then (r.1, r.2.1, r.2.2 ++ [n]) else r).2.1) = _
  split <;> rfl
theorem addRoom_ad (rs : List Room3) (f n : Str) : (addRoom rs f n).map (·.2.1) = rs.map (·.2.1) := by
  unfold addRoom
  rw [List.map_map]
  refine List.map_congr_left fun r _ => ?_
  show (if r.1 = f then (r.1, r.2.1, r.2.2 ++ [n]) else r).2.1 = _
  split <;> rfl
theorem addRoom_bare (rs : List Room3) (f n : Str) : bare3 (addRoom rs f n) = (bare3 rs).map fun r => if r.1 = f then (r.1, r.2 ++ [n]) else r := by
  unfold bare3 addRoom
  rw [List.map_map, List.map_map]
  refine List.map_congr_left fun r _ => ?_
  show ((if r.1 = f then (r.1, r.2.1, r.2.2 ++ [n]) else r).1, (if r.1 = f then (r.1, r.2.1, r.2.2 ++ [n]) else r).2.2) = (if r.1 = f then (r.1, r.2.2 ++ [n]) else (r.1, r.2.2))
  split <;> rfl
theorem nd_inj {α β : Type} {f : α → β} {l : List α} (nd : (l.map f).Nodup) {a b : α} (ha : a ∈ l) (hb : b ∈ l) (h : f a = f b) : a = b := by
  induction l with
  | nil => cases ha
  | cons x l ih =>
    rw [List.map_cons, List.nodup_cons] at nd
    rcases List.mem_cons.mp ha with rfl | ha
    · rcases List.mem_cons.mp hb with rfl | hb
      · rfl
      · exact absurd (List.mem_map.mpr ⟨b, hb, h.symm⟩) nd.1
    · rcases List.mem_cons.mp hb with rfl | hb
      · exact absurd (List.mem_map.mpr ⟨a, (by assumption), h⟩) nd.1
      · exact ih nd.2 ha hb
theorem Rooms.add {H : Hp} {r : Addr} {rs : List Room3} (h : Rooms H r rs) (nk : (rs.map (·.1)).Nodup) (na : (rs.map (·.2.1)).Nodup) {x : Room3} (hx : x ∈ rs) (n : Str) :
    Rooms (upd H x.2.1 (.lst (x.2.2.map V.str ++ [.str n]))) r (addRoom rs x.1 n) := by
  have nr : r ≠ x.2.1 := ne_of h.d (h.l x hx) (by intro z; cases z)
  refine ⟨by rw [upd_ne nr, addRoom_kv]; exact h.d, fun y hy => ?_⟩
  obtain ⟨z, hz, rfl⟩ := List.mem_map.mp hy
  by_cases hzx : z.1 = x.1
  · obtain rfl := nd_inj nk hz hx hzx
    rw [if_pos rfl]
    show upd H z.2.1 _ z.2.1 = some (.lst ((z.2.2 ++ [n]).map V.str))
    rw [upd_same, List.map_append]; rfl
  · rw [if_neg hzx]
    have : z.2.1 ≠ x.2.1 := fun e => hzx (by rw [nd_inj na hz hx e])
    rw [upd_ne this]
    exact h.l z hz
def spWithin : Sp := fun vs H Q _ => ∃ (d : Addr) (es : List (Str × V)), vs = [.ref d] ∧ H d = some (.dK (kv es)) ∧ OkE es ∧ es.length ≤ 1000 ∧ ∀ H' p rs, Same H H' → H p = none → Rooms H' p rs → bare3 rs = roomsE es → Q (.ref p) H'
abbrev s_names_within : Stmt := topS 38
abbrev N_names_within : List Str := ["entries", "rooms", "path", "folder", "slash", "name"]
theorem sc_names_within : FnScope ["entries", "rooms", "path", "folder", "slash", "name"] ["entries"] (defScope s_names_within) := ⟨rfl, rfl, rfl, by decide +kernel, rfl, by decide +kernel, by decide +kernel⟩
section
variable {P : Program} {w : World} {K : PySem.W.Frag} {mg : Str → Option Value} {base : Heap} {tk1 tk2 : Tok}
theorem room_len (es : List (Str × V)) : (roomsE es).length ≤ es.length + 1 := by
  have h := congrArg List.length (room_keys es)
  rw [List.length_map, List.length_cons, List.length_map] at h
  have := List.length_filter_le (fun e : Str × V => decide (e.2 = .non)) es
  omega
theorem room_size : ∀ (es : List (Str × V)), ∀ r ∈ roomsE es, r.2.length ≤ es.length := by
  have gen : ∀ (es : List (Str × V)) (rs : List (Str × List Str)) (n : Nat), (∀ r ∈ rs, r.2.length ≤ n) → ∀ r ∈ es.foldl roomStep rs, r.2.length ≤ n + es.length := by
    intro es
    induction es with
    | nil => intro rs n h r hr; exact h r hr
    | cons e l ih =>
      intro rs n h r hr
      rw [List.foldl_cons] at hr
      have := ih (roomStep rs e) (n + 1) (fun q hq => ?_) r hr
      · rw [List.length_cons]; omega
      · unfold roomStep at hq
        rcases List.mem_append.mp hq with hq | hq
        · obtain ⟨y, hy, rfl⟩ := List.mem_map.mp hq
          have hy2 := h y hy
          split
          · show (y.2 ++ [lastN e.1]).length ≤ n + 1
            rw [List.length_append]; simp; omega
          · omega
        · split at hq
          · obtain rfl := List.mem_singleton.mp hq; exact Nat.zero_le _
          · cases hq
  intro es r hr
  have := gen es [("", [])] 0 (fun q hq => by obtain rfl := List.mem_singleton.mp hq; exact Nat.le_refl _) r hr
  omega
theorem ok_within {f : Addr} {fd : FuncData} (F : Fun K "names_within" "names_within" s_names_within f fd) (T : Txt K mg tk1 tk2) : FnOk P w K mg base CX0 1 f fd ["entries"] spWithin := by
  refine F.ok sc_names_within (fun vs H Q E h => ?_) (fun cdv A outer s H vs Q E hr h => ?_)
  · obtain ⟨d, es, rfl, _⟩ := h
    rfl
  have hu1 := hu_of hr
  refine ⟨_, (pss_cons (ps_set (i := 1) sc_names_within.nd rfl (Or.inl rfl) (pe_disp (pps_cons pe_str (pe_lst pa_nil) pps_nil) rfl rfl (fun h => nomatch h) (by decide)))
    (pss_cons (ps_lock (ps_for PassesOwn.never rfl (pi_keys (pv 0)) (pg_name (i := 2) sc_names_within.nd rfl (Or.inl rfl)) (pss_cons (ps_asg (pe_rpartition (pv 2) pe_str) (pg_tup (by rfl) (pgs_cons (pg_name (i := 3) sc_names_within.nd rfl (Or.inl rfl)) (pgs_cons (pg_name (i := 4) sc_names_within.nd rfl (Or.inl rfl)) (pgs_cons (pg_name (i := 5) sc_names_within.nd rfl (Or.inl rfl)) pgs_nil)))))
    (pss_cons (ps_expr (pe_bm PySem.F.plainAttrs_list PySem.F.slot_list_append PySem.F.type_list_append mt_append (pe_dget hu1 (pv 1) (pv 3) (fun _ _ => rfl)) (pa_cons (pv 5) pa_nil)))
    (pss_one (ps_if (pt_cmpR op_isN (pe_dget hu1 (pv 0) (pv 2) (fun _ _ => rfl)) pe_non (nomark _)) (pss_one (ps_dput hu1 (pv 1) (pv 2) (pe_lst pa_nil) rfl)) pss_nil))))))
    (pss_one (ps_ret (pv 1))))), ?_⟩
  obtain ⟨d, es, rfl, hd, ok, hlen, hq⟩ := h
  have hbig := sizeLine_big
  have hkl : (kv es).length = es.length := by unfold kv; rw [List.length_map]
  intro p hp
  refine ⟨Nat.zero_le _, fun l hl => ?_⟩
  have npl : p ≠ l := ne_of_none upd_same hl
  have hl0 : H l = none := by rw [upd_ne npl.symm] at hl; exact hl
  refine ⟨by rw [upd_ne npl, upd_same], [(.inr "", .ref l)], rfl, (by show 1 ≤ 15; decide), ?_⟩
  have npd : d ≠ p := ne_of_none hd hp
  have nld : d ≠ l := ne_of_none hd hl0
  -- the rooms at first
  generalize eG : upd (upd (upd H p (.dK [])) l (.lst [])) p (.dK (mergeK [] [(.inr "", .ref l)])) = G
  have sG : Same H G := by
    intro a o e
    rw [← eG, upd_ne (ne_of_none e hp), upd_ne (ne_of_none e hl0), upd_ne (ne_of_none e hp)]; exact e
  have rG : Rooms G p [((Str.ofString ""), l, [])] := by
    refine ⟨by rw [← eG, upd_same]; rfl, fun x hx => ?_⟩
    obtain rfl := List.mem_singleton.mp hx
    rw [← eG, upd_ne npl.symm, upd_same]; rfl
  have hdG := sG _ _ hd
  refine ⟨d, _, hdG, True.intro, fun od => ?_⟩
  refine ⟨_, rfl, d, od, rfl, Or.inl ⟨kv es, upd_same, ?_⟩⟩
  have hs0 : ∀ H', Same (upd H d (.frz od (.dK (kv es)))) H' → Same H (upd H' d (.dK (kv es))) := fun H' s' => same_unlock hd s'
  have hlk : (upd H d (.frz od (.dK (kv es)))) d = some (.frz od (.dK (kv es))) := upd_same
  have fr0 : ∀ a, H a = none → (upd H d (.frz od (.dK (kv es)))) a = none := fun a e => by rw [upd_ne (Ne.symm (ne_of_none hd e))]; exact e
  have sL : Same (upd H d (.frz od (.dK (kv es)))) (upd G d (.frz od (.dK (kv es)))) := by
    intro a o e
    by_cases ha : a = d
    · subst ha; rw [upd_same] at e ⊢; exact e
    · rw [upd_ne ha] at e ⊢; exact sG _ _ e
  have rL : Rooms (upd G d (.frz od (.dK (kv es)))) p [((Str.ofString ""), l, [])] := by
    refine ⟨by rw [upd_ne npd.symm]; exact rG.d, fun x hx => ?_⟩
    have := rG.l x hx
    obtain rfl := List.mem_singleton.mp hx
    rw [upd_ne nld.symm]; exact this
  generalize (upd G d (.frz od (.dK (kv es)))) = G1 at sL rL
  generalize eL : (upd H d (.frz od (.dK (kv es)))) = L at hs0 hlk fr0 sL
  refine for_it walk_keys (fun i σ H' => ∃ (rs : List Room3) (v2 v3 v4 v5 : Option V), σ = [some (.ref d), some (.ref p), v2, v3, v4, v5] ∧ Same L H' ∧ Rooms H' p rs ∧ bare3 rs = roomsE (es.take i) ∧ (rs.map (·.2.1)).Nodup ∧ ∀ x ∈ rs, H x.2.1 = none)
    ⟨_, none, none, none, none, rfl, sL, rL, rfl, by simp, fun x hx => by obtain rfl := List.mem_singleton.mp hx; exact hl0⟩ (fun i σ H' _ ⟨_, _, _, _, _, _, sm, _⟩ => sm _ _ hlk) ?_ ?_
  · rintro i x σ H1 H2 hi ⟨rs, v2, v3, v4, v5, rfl, sm, rm, br, na, fr⟩ ⟨rfl, k, v, hk, rfl⟩
    obtain ⟨pth, rfl, hie, hm⟩ := kv_get hk
    obtain ⟨hp1, hp2⟩ : isPl pth = true ∧ pth.length ≤ 1000000 := ok.pl _ hm
    have hv := val_mem ok.nd hm
    have hkeys : rs.map (·.1) = (roomsE (es.take i)).map (·.1) := by rw [← br]; unfold bare3; rw [List.map_map]; rfl
    have nk : (rs.map (·.1)).Nodup := by rw [hkeys]; exact room_nd ok i
    have hln : rs.length ≤ es.length + 1 := by
      have h1 := congrArg List.length hkeys
      rw [List.length_map, List.length_map] at h1
      have h2 := room_len (es.take i)
      rw [List.length_take] at h2; omega
    -- the parent's list
    have hpar : par pth ∈ rs.map (·.1) := by
      rw [hkeys, room_keys]
      rcases par_ahead ok hie with h0 | h0
      · rw [h0]; exact List.mem_cons_self
      · exact List.mem_cons_of_mem _ (List.mem_map.mpr ⟨_, List.mem_filter.mpr ⟨h0, decide_eq_true rfl⟩, rfl⟩)
    obtain ⟨rm3, hx3, hpe⟩ := List.mem_map.mp hpar
    obtain ⟨s0, hrp⟩ := rpPl hp1
    refine ⟨_, rfl, ⟨_, rfl⟩, pth, c_sl, rfl, rfl, sl_ne, by omega, fun t ht => ?_⟩
    rw [hrp]
    refine ⟨t, _, rfl, SqT.of upd_same, rfl, _, _, rfl, _, _, rfl, _, _, rfl, rfl, ?_⟩
    have smt : Same H2 (upd H2 t (.tup [.str (par pth), .str s0, .str (lastN pth)])) := same_new ht
    have rmt := rm.same smt
    have sm1 := sm.trans smt
    generalize (upd H2 t (.tup [.str (par pth), .str s0, .str (lastN pth)])) = H3 at smt rmt sm1
    have hvr : valV (rkv rs) (.inr (par pth)) = some (.ref rm3.2.1) := by rw [← hpe]; exact val_rkv nk hx3
    have hlst := rmt.l _ hx3
    have nm_len : rm3.2.2.length ≤ 1000 := by
      have h1 : (rm3.1, rm3.2.2) ∈ roomsE (es.take i) := by rw [← br]; exact List.mem_map.mpr ⟨rm3, hx3, rfl⟩
      have : rm3.2.2.length ≤ (es.take i).length := room_size _ _ h1
      rw [List.length_take] at this
      omega
    refine ⟨_, rfl, _, rfl, p, .ref rm3.2.1, rfl, by have := DGet.k (k := Sum.inr (par pth)) rmt.d; rw [hvr] at this; exact this, .inl ⟨rfl, _, SqL.of hlst⟩, _, rfl, rm3.2.1, _, _, rfl, rfl, hlst, by rw [List.length_map]; omega, ?_⟩
    have rma := rmt.add nk na hx3 (lastN pth)
    have sma : Same L (upd H3 rm3.2.1 (.lst (rm3.2.2.map V.str ++ [.str (lastN pth)]))) := same_upd (fr0 _ (fr _ hx3)) sm1
    generalize (upd H3 rm3.2.1 (.lst (rm3.2.2.map V.str ++ [.str (lastN pth)]))) = H4 at rma sma
    have bra : bare3 (addRoom rs (par pth) (lastN pth)) = (roomsE (es.take i)).map fun r => if r.1 = par pth then (r.1, r.2 ++ [lastN pth]) else r := by rw [addRoom_bare, br]
    rw [hpe] at rma
    have naa : ((addRoom rs (par pth) (lastN pth)).map (·.2.1)).Nodup := by rw [addRoom_ad]; exact na
    have fra : ∀ x ∈ addRoom rs (par pth) (lastN pth), H x.2.1 = none := fun x hx => by
      obtain ⟨y, hy, rfl⟩ := List.mem_map.mp hx
      have := fr y hy
      split <;> exact this
    refine ⟨_, rfl, _, rfl, d, v, rfl, .inl ⟨kv es, .inr pth, .inr ⟨od, sma _ _ hlk⟩, rfl, hv.symm⟩, rfl, _, rfl, ?_⟩
    have next := roomsE_next hie
    refine ifD (fun hnon => ?_) (fun hnon => ?_)
    · refine ⟨Nat.zero_le _, fun l2 hl2 => ?_⟩
      have nl2p : p ≠ l2 := ne_of_none rma.d hl2
      have hl2L : L l2 = none := sma.free hl2
      have hl2H : H l2 = none := by
        by_cases e : l2 = d
        · subst e; rw [hlk] at hl2L; cases hl2L
        · rw [← eL, upd_ne e] at hl2L; exact hl2L
      have rml := rma.same (same_new (o := .lst []) hl2)
      have sml := sma.trans (same_new (o := .lst []) hl2)
      have hkno : pth ∉ rs.map (·.1) := by
        rw [hkeys, room_keys, List.mem_cons]
        rintro (h0 | h0)
        · exact (isPl_pt hp1).2 h0
        · obtain ⟨e, he, h1⟩ := List.mem_map.mp h0
          have := put_filt (g := fun e => decide (e.2 = .non)) ok.nd hie
          have hn2 : ((es.take (i + 1)).map (·.1)).Nodup := by rw [List.map_take]; exact ok.nd.sublist (List.take_sublist _ _)
          rw [List.take_add_one, hie, List.map_append, List.nodup_append] at hn2
          exact hn2.2.2 pth (List.mem_map.mpr ⟨e, (List.mem_filter.mp he).1, h1⟩) pth (by simp) rfl
      have hvno : valV (rkv (addRoom rs (par pth) (lastN pth))) (.inr pth) = none := by rw [addRoom_kv]; exact val_rkv_no hkno
      refine ⟨_, rfl, _, rfl, p, _, rfl, DPut.k (k := Sum.inr pth) rml.d ?_, ?_⟩
      · rw [addRoom_kv]; unfold rkv; rw [List.length_map]; omega
      · rw [putK_new _ hvno]
        refine ⟨addRoom rs (par pth) (lastN pth) ++ [(pth, l2, [])], _, _, _, _, rfl, ?_, ⟨?_, ?_⟩, ?_, ?_, ?_⟩
        · refine same_upd (fr0 _ hp) sml
        · rw [upd_same]; unfold rkv; rw [List.map_append]; rfl
        · intro x hx
          rcases List.mem_append.mp hx with hx | hx
          · have nx : x.2.1 ≠ p := ne_of (rml.l x hx) rml.d (by intro z; cases z)
            rw [upd_ne nx]; exact rml.l x hx
          · obtain rfl := List.mem_singleton.mp hx
            rw [upd_ne nl2p.symm, upd_same]; rfl
        · rw [next]
          unfold roomStep
          rw [if_pos (show ((pth, v) : Str × V).2 = .non from hnon)]
          show bare3 (_ ++ _) = _
          unfold bare3
          rw [List.map_append]
          congr 1
        · rw [List.map_append, List.nodup_append]
          refine ⟨naa, by simp, fun a ha b hb => ?_⟩
          obtain ⟨x, hx, rfl⟩ := List.mem_map.mp ha
          obtain rfl : b = l2 := List.mem_singleton.mp hb
          exact ne_of_none (rma.l x hx) hl2
        · intro x hx
          rcases List.mem_append.mp hx with hx | hx
          · exact fra x hx
          · obtain rfl := List.mem_singleton.mp hx; exact hl2H
    · refine ⟨_, _, _, _, _, rfl, sma, rma, ?_, naa, fra⟩
      rw [next, bra]
      unfold roomStep
      rw [if_neg (show ¬ ((pth, v) : Str × V).2 = .non from hnon), List.append_nil]
  · rintro σ H1 ⟨rs, v2, v3, v4, v5, rfl, sm, rm, br, na, fr⟩
    rw [hkl, List.take_length] at br
    refine ⟨sm _ _ hlk, _, rfl, ?_⟩
    refine hq _ p rs (hs0 _ sm) hp ⟨by rw [upd_ne npd.symm]; exact rm.d, fun x hx => ?_⟩ br
    rw [upd_ne (Ne.symm (ne_of_none hd (fr x hx)))]
    exact rm.l x hx
end
end K6

set_option Elab.async false
set_option linter.all false
set_option maxRecDepth 100000
set_option maxHeartbeats 4000000
namespace LF
open PySem PySem.Spec PySem.Calls PyProof.Rows PySem.HandSPX
open PySem.Builtin PySem.Builtin.ObjectAttr
open PySem.W (Looks InstAt)
section
variable {prog : Program} {w : World} {A : Around} {R : Result → Shared → Prop} {hh : Heap} {gg : Array GenState} {dw : Drawn} {tt : Nat} {oo : OsState} {K : PySem.W.Frag}
/-- the first field of an own error that stands right above a builtin one -/
theorem put_field {B : String} {tail : List Value} {fld : Str} {tk : Tok} {u : Value} {e C : Addr} {fv : Array Value} {cls : ClassData} (SB : StoreFacts B tail "object.__setattr__" "object") (hob : tail.contains (.type "object") = true)
    (inK : K.In hh) (he : hh.get? e = some { cls := .ref C, data := .fields fv }) (hcls : PySem.W.clsIn K C = some cls) (hmro : cls.mro = .ref C :: tail) (hdct : cls.hasDict = true) (hno : PySem.W.findIn K (.ref C) fld = some none)
    (k : ∀ h' tk' dx, (∀ b o, b ≠ e → hh.get? b = some o → h'.get? b = some o) → hh.objs.size ≤ dx → dx ≠ e → h'.get? e = some { cls := .ref C, dict := some dx, data := .fields fv } →
      h'.Ns1 dx (fun y => if y = fld then some u else none) → R (.ok (.ret .none)) ⟨h', gg, dw, tk', oo⟩) :
    codeAny (model prog w) A (.call (.builtin "object.__setattr__") ⟨[.ref e, .str fld tk, u], []⟩) R ⟨hh, gg, dw, tt, oo⟩ := by
  have J : InstAt hh e { cls := .ref C, data := .fields fv } C none := ⟨he, rfl, rfl, trivial⟩
  have SO := PySem.F.store_object
  have nemp : cls.mro.isEmpty = false := by rw [hmro]; rfl
  have hobj : cls.mro.contains (.type "object") = true := by rw [hmro, List.contains_cons, hob, Bool.or_true]
  have apart : e ≠ hh.objs.size := Nat.ne_of_lt (Heap.lt_size he)
  have inst : Looks (model prog w) hh (isInstance (.ref e) (.type "object")) true :=
    J.type.andThen (PySem.W.looks_mroIn inK (by unfold PySem.W.mroIn; rw [hcls, Option.bind_some, if_neg (by rw [nemp]; decide), hobj]))
  have lmro : Looks (model prog w) hh (mroOf (.ref C)) cls.mro := (PySem.W.looks_clsIn inK hcls).andThen .now
  have ltak : Looks (model prog w) hh (storeTaker? none) none := .now
  have lcls : Looks (model prog w) hh (classData C) cls := PySem.W.looks_clsIn inK hcls
  refine codeAny_call_builtin SO.slot.plain SO.entry (@PySem.W.check_slot (model prog w) _ _ ⟨hh, gg, dw, tt, oo⟩ "object.__setattr__" "object" "__setattr__" (.ref e) [.str fld tk, u] [] _ SO.kind SO.split inst (SO.args (.ref e) (.str fld tk) u) ?_)
  rw [PySem.W.osa_eq, refuse_eq]
  refine wpAny_bind (wpAny_bind (J.type.at (wpAny_bind (lmro.at ?_))))
  rw [hmro, refuseLoop_ref, SB.passes (.ref e)]
  refine wpAny_pure (wpAny_bind (J.type.at (wpAny_bind ((PySem.W.looks_findIn inK hno).at (wpAny_bind (ltak.at ?_))))))
  show wpAny _ _ (storeInOwnDict (.ref e) (.ref C) (.str fld tk) fld u false) _ _ _
  obtain ⟨c1, c2, c3, c4, c5, c6, c7, c8, c9, c10, c11⟩ := cls
  dsimp only at hdct
  subst hdct
  unfold storeInOwnDict ownDictForStores
  repeat (first
    | with_reducible refine store_in_new ?_ ?_
    | with_reducible refine wpAny_loadPart_at he ?_
    | with_reducible refine lcls.at ?_
    | wp_step)
  · exact ⟨_, #[], _, (Heap.get?_update_ne _ _ _ _ apart.symm).trans (Heap.get?_push_at rfl rfl), rfl, fun z hz => absurd hz (by simp), fun _ => rfl⟩
  · intro h' tk' ns' but
    have he1 : (hh.push { cls := .type "dict", data := .dict #[] }).get? e = some { cls := .ref C, data := .fields fv } := Heap.get?_push_of_some _ he
    refine k h' tk' hh.objs.size (fun b o hb ho => ?_) (Nat.le_refl _) apart.symm ?_ ns'
    · exact (but.2 b (Nat.ne_of_lt (Heap.lt_size ho))).trans ((Heap.get?_update_ne _ _ _ _ hb).trans (Heap.get?_push_of_some _ ho))
    · exact (but.2 e apart).trans (Heap.get?_update_self _ he1 rfl)
end
end LF

set_option Elab.async false
set_option linter.all false
set_option maxRecDepth 100000
set_option maxHeartbeats 4000000
namespace PySem
namespace TooManyX
open PySem.W PySem.Calls PyProof.Rows PySem.HandSPX
abbrev ovTail : List Value := [.type "OverflowError", .type "ArithmeticError", .type "Exception", .type "BaseException", .type "object"]
/-! ### the text of __init__ -/
def iA (p1 p2 : Pos) : Arguments := { posonlyargs := [], args := [{ arg := "self", annotation := none, pos := p1 }, { arg := "limit", annotation := none, pos := p2 }], vararg := none, kwonlyargs := [], kw_defaults := [], kwarg := none, defaults := [] }
def iB (q1 q2 q3 q4 : Pos) : List Stmt := [.Assign [.Attribute (.Name "self" q1) "limit" q2] (.Name "limit" q3) q4]
def iS : Scope := { kind := .function, names := [(PySem.Str.ofString "self", .local), (PySem.Str.ofString "limit", .local)], isGenerator := false, isCoroutine := false, more := [] }
/-- what the written part says of Low, at C, and of its __init__, at fI -/
structure ManyTxt (K : Frag) (mg : Str → Option Value) (C fI : Addr) : Prop where
  gC : mg "TooMany" = some (.ref C)
  cls : ∃ nm q N bs bm sn sub ab col dd k0 k1 k2 k3 k5, K.lookup C = some (excClassObj nm q C N bs bm true sn sub ab col dd k0 k1 k2 k3 k5 "OverflowError.__new__") ∧ bm = ovTail
  sa : findIn K (.ref C) "__setattr__" = some (some (.builtin "object.__setattr__"))
  ga : findIn K (.ref C) "__getattribute__" = some (some (.builtin "BaseException.__getattribute__"))
  gg : findIn K (.ref C) "__getattr__" = some none
  noN : findIn K (.ref C) "limit" = some none
  iC : findIn K (.ref C) "__init__" = some (some (.ref fI))
  tC : typeIn K (.ref fI) = some (.type "function")
  kC : keepIn K (.ref C) = true
  exC : subIn K (.ref C) (.type "BaseException") = some true
  tyC : typeIn K (.ref C) = some (.type "type")
  hdC : hasDictIn K C = true
  te : exmOne K (.ref C) (.ref C) = some true
  fn : ∃ (oc : Value) (od : Option Addr) (doc pm : Value) (an : Option Addr) (cdv ct : Value) (osl : Array (Option Value)) (p1 p2 q1 q2 q3 q4 : Pos),
    K.lookup fI = some ⟨oc, od, .func (fnOf "__init__" "TooMany.__init__" (iA p1 p2) (iB q1 q2 q3 q4) iS .none .none doc pm an cdv ct), osl⟩ ∧ codeIn K cdv "TooMany.__init__" = true
theorem one_size (v : Value) : [v].length ≤ sizeLine := by
  rw [sizeLine_eq]
  exact (by decide : 1 ≤ 16777216)
theorem kept_but {K : Frag} {h h' : Heap} {x : Addr} (X : K.In h) (hx : K.lookup x = none) (k : ∀ b o, b ≠ x → h.get? b = some o → h'.get? b = some o) : K.In h' := fun a o e =>
  k a o (fun z => by rw [z, hx] at e; cases e) (X a o e)
theorem ldC {M : Model} {s : Shared} {name : Str} {scope : Scope} {L a : Addr} {cd : Value} {m : Str → Option Value} {x : Str} {pos : Pos} {v : Value} {Q : Value → Shared → Prop} {A : Around} {E : Value → Shared → Prop} (hn : s.heap.Ns L m) (hv : m x = some v) (h : Q v s)
    (hk : scope.kind = .function := by rfl) (hl : (envOfC name scope L a cd).kindOf x = some .local := by rfl) (hd : (x == ("__debug__" : Str)) = false := by decide) :
    wpAny M A (eval (.Name x pos) (envOfC name scope L a cd)) Q E s := wpAny_Name (wpAny_loadName_local hk hl hn hv h) hd
/-- what __init__ leaves of a fresh exception at x -/
structure InitEnd (h h' : Heap) (x C dx t1 : Addr) (v : Value) : Prop where
  keep : ∀ b o, b ≠ x → h.get? b = some o → h'.get? b = some o
  obj : h'.get? x = some { cls := .ref C, dict := some dx, data := .fields #[.ref t1, .none, .none, .none, .bool false, .none] }
  dbig : h.objs.size ≤ dx
  dne : dx ≠ x
  ns : h'.Ns1 dx (fun y => if y = "limit" then some v else none)
/-- a made Low -/
structure OwnMade (h h' : Heap) (e C d : Addr) (v : Value) : Prop where
  keep : ∀ b o, h.get? b = some o → h'.get? b = some o
  new : h.objs.size ≤ e
  obj : ∃ oe vs, h'.get? e = some oe ∧ oe.cls = .ref C ∧ oe.dict = some d ∧ oe.data = .fields vs ∧ vs[1]? = some .none
  dbig : h.objs.size ≤ d
  dne : d ≠ e
  ns : h'.Ns1 d (fun y => if y = "limit" then some v else none)
section
variable {prog : Program} {w : World} {A : Around} {E : Value → Shared → Prop} {R : Result → Shared → Prop} {s : Shared} {K : Frag} {mg : Str → Option Value} {C fI : Addr}
theorem low_init (T : ManyTxt K mg C fI) {x t0 : Addr} {v : Value} (X : K.In s.heap) (hlim : s.heap.NoLimit) (hx : s.heap.get? x = some (excO C t0)) (hnx : K.lookup x = none) (hroom : A.depth < recursionLimit)
    (hq : ∀ h' tk dx, InitEnd s.heap h' x C dx t0 v → R (.ok (.ret .none)) { s with heap := h', toks := tk }) :
    codeAny (model prog w) A (.call (.ref fI) ⟨[.ref x, v], []⟩) R s := by
  obtain ⟨oc, od, doc, pm, an, cdv, ct, osl, p1, p2, q1, q2, q3, q4, ho, hcd⟩ := T.fn
  obtain ⟨nm, q, N, bs, bm, sn, sub, ab, col, dd, k0, k1, k2, k3, k5, hC, hbm⟩ := T.cls
  have hcl : clsIn K C = some { name := nm, bases := bs, mro := .ref C :: bm, ns := N, qualname := q, hasDict := true, slotNames := sn, subclasses := sub, abstract := ab, collection := col, hasDel := false } := by unfold clsIn; rw [hC] <;> rfl
  refine Att.call_fn (binds := [("self", .ref x), ("limit", v)]) X hlim ho hcd hroom (BindsTo.of_eq (by first | rfl | with_unfolding_all rfl)) (by first | rfl | decide | with_unfolding_all rfl) (fun s₁ IC => ?_) rfl rfl rfl
  obtain ⟨h₁, tk₁, rfl⟩ := IC.toInCall.same
  have k : ∀ b o, s.heap.get? b = some o → h₁.get? b = some o := IC.toInCall.keep
  have hn := IC.toInCall.ns
  have hxL : s.heap.objs.size ≠ x := Nat.ne_of_gt (Heap.lt_size hx)
  have X₁ : K.In h₁ := X.keeps k
  have hx₁ := k _ _ hx
  -- self.by = by
  show wpAny _ _ (execs _ _) _ _ _
  refine wpAny_execs_cons (plainObj_wpAny_Assign_Attribute ?_)
  refine ldC (v := v) hn (by first | rfl | with_unfolding_all rfl | kernel_rfl) (ldC (v := .ref x) hn (by first | rfl | with_unfolding_all rfl | kernel_rfl) ?_)
  refine set_plain X₁ (ox := excO C t0) (od := none) ⟨hx₁, rfl, rfl, trivial⟩ T.sa ?_
  subst hbm
  refine LF.put_field PySem.F.store_OverflowError (by decide +kernel) X₁ hx₁ hcl rfl rfl T.noN (fun h₃ tk₃ dx k₃ dn dne hx₃ hn₃ => ?_)
  show wpAny _ _ (execs _ _) _ _ _
  have z : s.heap.objs.size < h₁.objs.size := hn.lt
  exact wpAny_execs_nil (hq h₃ tk₃ dx ⟨fun b o hb e => k₃ b o hb (k b o e), hx₃, Nat.le_of_lt (Nat.lt_of_lt_of_le z dn), dne, hn₃⟩)
theorem low_made (T : ManyTxt K mg C fI) {v : Value} (X : K.In s.heap) (hlim : s.heap.NoLimit) (hroom : A.depth + 1 < recursionLimit)
    (hq : ∀ h' tk e d, OwnMade s.heap h' e C d v → R (.ok (.ret (.ref e))) { s with heap := h', toks := tk }) :
    codeAny (model prog w) A (.call (.ref C) ⟨[v], []⟩) R s := by
  obtain ⟨nm, q, N, bs, bm, sn, sub, ab, col, dd, k0, k1, k2, k3, k5, hC, hbm⟩ := T.cls
  obtain ⟨hp, g, dr, tk, os⟩ := s
  have k : ∀ b o, hp.get? b = some o → ((hp.push (kdv_tup [v])).push (excO C hp.objs.size)).get? b = some o := fun b o e => Heap.get?_push_of_some _ (Heap.get?_push_of_some _ e)
  have hget : ((hp.push (kdv_tup [v])).push (excO C hp.objs.size)).get? (hp.objs.size + 1) = some (excO C hp.objs.size) := by heap_get
  have hnx : K.lookup (hp.objs.size + 1) = none := by
    cases e : K.lookup (hp.objs.size + 1) with
    | none => rfl
    | some o =>
      have z : hp.get? (hp.objs.size + 1) = some o := X _ _ e
      exact absurd (Nat.lt_of_succ_lt (Heap.lt_size z)) (Nat.lt_irrefl _)
  subst hbm
  refine call_own F.excBase_OverflowError (fun X => rfl) (X _ _ hC) (looks_findIn X T.iC) (fun self => bind_fn X self T.tC) (one_size v) ?_
  refine low_init (s := ⟨(hp.push (kdv_tup [v])).push (excO C hp.objs.size), g, dr, tk, os⟩) T (X.keeps k) (hlim.keeps k) hget hnx ?_ fun h' tk' dx ⟨k', hx, dn, dne, hns⟩ => ?_
  · show A.depth + 1 < recursionLimit
    exact hroom
  · have old : ∀ b o, hp.get? b = some o → h'.get? b = some o := fun b o e => k' b o (Nat.ne_of_lt (Nat.lt_succ_of_lt (Heap.lt_size e))) (k b o e)
    have z : hp.objs.size + 1 + 1 ≤ dx := by
      first
        | (simpa only [Heap.size_push] using dn)
        | exact dn
        | (have q := dn; rw [Heap.size_push, Heap.size_push] at q; exact q)
    exact ⟨rfl, hq h' tk' (hp.objs.size + 1) dx ⟨old, Nat.le_succ _, ⟨_, _, hx, rfl, rfl, rfl, rfl⟩, Nat.le_trans (Nat.le_trans (Nat.le_succ _) (Nat.le_succ _)) z, dne, hns⟩⟩
end
end TooManyX
end PySem
namespace L2
open PySem PySem.Spec PyProof.Rows
theorem relO_limit {v : V} {v' : Value} (r : RelV v v') (f : Str) : RelO (List.lookup f [(("limit" : Str), v)]) (if f = "limit" then some v' else none) := by
  by_cases hw : f = "limit"
  · subst hw
    rw [if_pos rfl]
    have q : List.lookup ("limit" : Str) [(("limit" : Str), v)] = some v := by simp [List.lookup]
    rw [q]
    exact r
  · rw [if_neg hw]
    have qw : (f == ("limit" : Str)) = false := by simpa using hw
    have q2 : List.lookup f [(("limit" : Str), v)] = none := by simp [List.lookup, qw]
    rw [q2]
    trivial
section
variable {X : Cx} {C fI : Addr}
/-- Low(e) -/
def tMkMany (C : Addr) (ta : TA) : St → Hp → XK → Prop := fun σ H Q => ta σ H fun vs H1 => ∃ v, vs = [v] ∧ ∀ d, H1 d = none → Q (.ref C) (some d) (upd H1 d (.xd [(("limit" : Str), v)]))
theorem pmk_many {a : Expr} {ta : TA} {p pos : Pos} {k : Nat} (T : PySem.TooManyX.ManyTxt X.K X.mg C fI) (hr : Room k X.A) (ha : PA X [a] ta) (hg : Gl X "TooMany" := by rfl)
    (he : starEach (a :: []) X.env = (false, eval a X.env) :: starEach [] X.env := by rfl) (hpl : (backTo pos (starEach [] X.env)).any (·.1) = false := by rfl) :
    PMk X (.Call (.Name "TooMany" p) [a] [] pos) (tMkMany C ta) := by
  intro pins s σ H Q I h
  refine wpAny_Call_Name_kw (ld_glob I hg T.gC ?_)
  refine PySem.W.callWith_K (h₀ := X.base) I.ok.mod.kin T.kC (thn (ha.run pos pins s σ H _ I h) fun us s1 hh => ?_) he hpl
  obtain ⟨vs, H1, I1, r1, v, ev, q1⟩ := hh
  subst ev
  refine ⟨I1.kIn, ?_⟩
  cases r1 with
  | cons rv rn =>
    rename_i v' us'
    cases rn
    show wpAny _ _ (call (.ref C) [v']) _ _ _
    have hlim := I1.nolimit
    obtain ⟨hp, g, dr, tk, os⟩ := s1
    refine wpAny_call (PySem.TooManyX.low_made T I1.kIn hlim (by have := hr.dp; omega) fun h' tk' e d M => ?_)
    show MkP X pins σ Q (.ref e) ⟨h', g, dr, tk', os⟩
    obtain ⟨oe, fv, hoe, hc, hd, hdat, h1⟩ := M.obj
    have hns := M.ns
    obtain ⟨G', g1, g2⟩ := restrict h' fun b => decide (b ≠ e)
    have gk : ∀ b, b ≠ e → G'.get? b = h'.get? b := fun b hb => g1 b (decide_eq_true hb)
    have ge : G'.get? e = none := g2 e (by simp)
    have old : ∀ b o, hp.get? b = some o → G'.get? b = some o := fun b o q => (gk b (Nat.ne_of_lt (Nat.lt_of_lt_of_le (Heap.lt_size q) M.new))).trans (M.keep b o q)
    have ob : ObjOk X.prog X.w (upd H1 d (.xd [(("limit" : Str), v)])) G' d (.xd [(("limit" : Str), v)]) :=
      ⟨_, hns.at (fun o q => (gk d M.dne).trans q), fun f => relO_limit rv f⟩
    have J : Inv X pins σ (upd H1 d (.xd [(("limit" : Str), v)])) ⟨G', g, dr, tk', os⟩ := I1.laid (t' := tk') old M.dbig ob
    refine ⟨e, oe, fv, ⟨G', g, dr, tk', os⟩, _, .ref C, some d, rfl, J, fun b o q => ?_, ge, hoe, ⟨hc, hd⟩, hdat, h1, ?_, rfl, I1.bare, raises_own T.exC T.tyC, q1 d (I1.hok.fresh M.dbig)⟩
    · by_cases hb : b = e
      · have q' : G'.get? b = some o := q
        rw [hb, ge] at q'; cases q'
      · exact (gk b hb).symm.trans q
    · rw [upd_ne (Ne.symm M.dne)]
      exact I1.hok.fresh M.new
/-- raise Low(e) -/
def tRaiseMany (C : Addr) (W : WX) (ta : TA) : TS := fun _ σ H => tMkMany C ta σ H fun cls d H' => W cls d σ H'
theorem ps_raiseMany {a : Expr} {ta : TA} {W : WX} {p pos pos2 : Pos} {k : Nat} (hc : X.calm = true) (T : PySem.TooManyX.ManyTxt X.K X.mg C fI) (hr : Room k X.A) (tk : Takes X W) (ha : PA X [a] ta) (hg : Gl X "TooMany" := by rfl)
    (he : starEach (a :: []) X.env = (false, eval a X.env) :: starEach [] X.env := by rfl) (hpl : (backTo pos (starEach [] X.env)).any (·.1) = false := by rfl) :
    PS X (.Raise (some (.Call (.Name "TooMany" p) [a] [] pos)) none pos2) (tRaiseMany C W ta) := ps_raise hc tk (pmk_many T hr ha hg he hpl)
/-- low.by, low the exception that the suite holds (at a; its class cls, its dict d) -/
def tLimitOf (C : Addr) (a : Addr) (cls : Value) (d : Option Addr) (te : TE) : TE := fun σ H Q => te σ H fun x H1 => x = .ref a ∧ cls = .ref C ∧ ∃ (dd : Addr) (v : V), d = some dd ∧ H1 dd = some (.xd [(("limit" : Str), v)]) ∧ Q v H1
theorem pe_limitOf {a : Addr} {oe : Obj} {cls : Value} {d : Option Addr} {pn : List (Addr × Obj)} {e : Expr} {te : TE} {pos : Pos} (T : PySem.TooManyX.ManyTxt X.K X.mg C fI) (hz : Zc cls d oe) (hf : ∃ vs, oe.data = .fields vs) (he : PE (X.suite a ((a, oe) :: pn)) e te)
    (hb : attributeBase e "limit" X.env (eval e X.env) = eval e X.env := by rfl) :
    PE (X.suite a ((a, oe) :: pn)) (.Attribute e "limit" pos) (tLimitOf C a cls d te) := by
  refine ⟨fun pins s σ H Q I h => ?_⟩
  refine attr_of hb (thn (he.run pins s σ H _ I h) fun u s1 hh => ?_)
  obtain ⟨x, H1, I1, rx, ex, ec, dd, v, ed, ea, q⟩ := hh
  subst ex
  obtain rfl : u = Value.ref a := rx
  subst ec
  subst ed
  obtain ⟨ha, _⟩ := I1.pin (a, oe) (List.mem_append_left _ List.mem_cons_self)
  obtain ⟨vs, hd⟩ := hf
  have hx : ObjOk X.prog X.w H1 s1.heap dd (.xd [(("limit" : Str), v)]) := I1.hok dd _ ea
  obtain ⟨mA, hns, hr⟩ := hx
  obtain ⟨od, ho, hl⟩ := lookIn_ns hns
  have l : List.lookup ("limit" : Str) [(("limit" : Str), v)] = some v := by simp [List.lookup]
  obtain ⟨u, hu, ru⟩ := RelO.some_of (v := v) (o := mA "limit") (by rw [← l]; exact hr "limit")
  have J : PySem.W.InstAt s1.heap a oe C (some od) := ⟨ha, hz.1, by unfold PySem.W.notCls; rw [hd] <;> rfl, by rw [hz.2]; exact ho⟩
  exact HandSPX.exc_get I1.kIn J T.ga T.gg T.exC (PySem.W.findObj_own T.hdC T.noN rfl (by rw [hl, hu])) (handed_of ru) ⟨v, H1, I1.tok _, ru, q⟩
end
end L2


set_option Elab.async false
set_option linter.all false
set_option maxRecDepth 100000
set_option maxHeartbeats 4000000
namespace LF
open PySem PySem.Spec PyProof.Rows L2
/-- what a class without an __init__ must have to be made -/
structure Mk0 (K : PySem.W.Frag) (C : Addr) : Prop where
  makes : PySem.W.makesIn K C = true
  init : PySem.W.findIn K (.ref C) "__init__" = some (some (.builtin "object.__init__"))
  kp : PySem.W.keepIn K (.ref C) = true
def tMake0 (C : Addr) : TE := fun _ H Q => ∀ x dx, H x = none → H dx = none → dx ≠ x → Q (.ref x) (upd (upd H dx (.own x)) x (.ins C dx []))
/-- C() of a class without an __init__ -/
theorem pe_new0 {X : Cx} {C : Addr} {x : Str} {p pos : Pos} (M : Mk0 X.K C) (hg : Gl X x) (hm : X.mg x = some (.ref C))
    (hdb : (x == ("__debug__" : Str)) = false := by decide) : PE X (.Call (.Name x p) [] [] pos) (tMake0 C) := by
  refine ⟨fun pins s σ H Q I h => ?_⟩
  refine wpAny_Call_Name_kw (ld_glob I hg hm ?_ hdb)
  refine PySem.W.callWith_K0 I.kIn M.kp ?_
  have hq := h (s.heap.objs.size + 1) s.heap.objs.size (I.hok.fresh (Nat.le_succ _)) (I.hok.fresh (Nat.le_refl _)) (Nat.ne_of_lt (Nat.lt_succ_self _))
  have I2 := Inv.made (C := C) I
  have Y := PySem.W.makes_of (M := model X.prog X.w) I.kIn M.makes
  refine wpAny_call (make_map0 I.kIn M.makes M.init (fun self => PySem.W.Looks.of_pure (PySem.W.oi_bind self)) ?_)
  have e2 : ((s.heap.push PySem.W.emptyDict).push (PySem.W.instObj C s.heap.objs.size)).get? (s.heap.objs.size + 1) = some (PySem.W.instObj C s.heap.objs.size) := by
    have := Heap.get?_push_size (s.heap.push PySem.W.emptyDict) (o := PySem.W.instObj C s.heap.objs.size) rfl
    rwa [Heap.size_push] at this
  have t1 : PySem.W.Looks (model X.prog X.w) ((s.heap.push PySem.W.emptyDict).push (PySem.W.instObj C s.heap.objs.size)) (typeOf (.ref (s.heap.objs.size + 1))) (.ref C) := (PySem.W.Looks.ld e2).andThen .now
  have t2 : PySem.W.Looks (model X.prog X.w) ((s.heap.push PySem.W.emptyDict).push (PySem.W.instObj C s.heap.objs.size)) (isInstance (.ref (s.heap.objs.size + 1)) (.type "object")) true :=
    t1.andThen (Y.top.keeps fun b o e => Heap.get?_push_of_some _ (Heap.get?_push_of_some _ e))
  refine codeAny_call_builtin PySem.W.oi_plain PySem.W.entry_oi (@PySem.W.check_slot (model X.prog X.w) _ _ _ "object.__init__" "object" "__init__" (.ref (s.heap.objs.size + 1)) [] [] _ PySem.W.oi_kind PySem.W.oi_split t2 (PySem.W.oi_args (.ref (s.heap.objs.size + 1))) ?_)
  rw [PySem.W.oi_run]
  exact wpAny_pure (And.intro rfl ⟨V.ref (s.heap.objs.size + 1), _, I2, rfl, hq⟩)
end LF

set_option Elab.async false
set_option linter.all false
set_option maxRecDepth 100000
set_option maxHeartbeats 4000000
namespace K6
open PySem PySem.Spec PyProof.Rows L2 LF
abbrev s_Notebook : Stmt := topS 48
abbrev s_ninit : Stmt := inClass s_Notebook 0
theorem sc_ninit : FnScope ["self"] ["self"] (defScope s_ninit) := ⟨rfl, rfl, rfl, by decide +kernel, rfl, by decide +kernel, by decide +kernel⟩
abbrev s_Package : Stmt := topS 50
abbrev s_init : Stmt := inClass s_Package 1
theorem sc_init : FnScope ["self", "entries", "given"] ["self", "entries"] (defScope s_init) := ⟨rfl, rfl, rfl, by decide +kernel, rfl, by decide +kernel, by decide +kernel⟩
/-- what else a package has: solid, rooms, token, notes -/
structure PkX where
  s : Addr
  r : Addr
  t : Addr
  n : Addr
def pkFs (d : Addr) (x : PkX) : List (Str × V) := [("entries", .ref d), ("solid", .ref x.s), ("rooms", .ref x.r), ("token", .ref x.t), ("notes", .ref x.n)]
structure PkRest (H : Hp) (x : PkX) (es : List (Str × V)) : Prop where
  s : H x.s = some (.dK (kv (solidE es)))
  r : ∃ rs, Rooms H x.r rs ∧ bare3 rs = roomsE es
theorem PkRest.same {H H' : Hp} {x : PkX} {es : List (Str × V)} (h : PkRest H x es) (s : Same H H') : PkRest H' x es := ⟨s _ _ h.s, let ⟨rs, r1, r2⟩ := h.r; ⟨rs, r1.same s, r2⟩⟩
theorem PkRest.keep {H H' : Hp} {x : PkX} {es : List (Str × V)} {b : Addr} {o : HO} (h : PkRest H x es) (hb : H b = some o) (hn : (∀ l, o ≠ .lst l) ∧ (∀ l, o ≠ .dK l)) (s : Keep b H H') : PkRest H' x es := by
  obtain ⟨h1, rs, r1, r2⟩ := h
  have nd : ∀ {a l}, H a = some (.dK l) → a ≠ b := fun e q => by subst q; rw [hb] at e; exact hn.2 _ (Option.some.inj e)
  have nl : ∀ {a l}, H a = some (.lst l) → a ≠ b := fun e q => by subst q; rw [hb] at e; exact hn.1 _ (Option.some.inj e)
  exact ⟨s _ _ (nd h1) h1, rs, ⟨s _ _ (nd r1.d) r1.d, fun y hy => s _ _ (nl (r1.l y hy)) (r1.l y hy)⟩, r2⟩
/-- the package at p has these entries -/
def PkAt (C : Addr) (H : Hp) (p : Addr) (es : List (Str × V)) : Prop := ∃ dx d, (∃ x, H p = some (.ins C dx (pkFs d x)) ∧ PkRest H x es) ∧ H d = some (.dK (kv es))
theorem PkAt.same {C p : Addr} {H H' : Hp} {es : List (Str × V)} (h : PkAt C H p es) (s : Same H H') : PkAt C H' p es := by
  obtain ⟨dx, d, ⟨x, h1, h3⟩, h2⟩ := h
  exact ⟨dx, d, ⟨x, s _ _ h1, h3.same s⟩, s _ _ h2⟩
structure PkTxt (K : PySem.W.Frag) (mg : Str → Option Value) (C : Addr) : Prop where
  cl : Cls K C
  nE : NoAttr K C "entries"
  gC : mg "Package" = some (.ref C)
  lim : ∃ tk, Con K C "LIMIT" (.int 40) (.int 40 tk)
  nS : NoAttr K C "solid"
  nR : NoAttr K C "rooms"
  nT : NoAttr K C "token"
  nN : NoAttr K C "notes"
/-- the classes Token and Notebook -/
structure TokTxt (K : PySem.W.Frag) (mg : Str → Option Value) (CT : Addr) : Prop where
  made : Mk0 K CT
  g : mg "Token" = some (.ref CT)
def spNote (CN : Addr) : Sp := fun vs H Q _ => ∃ p dx, vs = [.ref p] ∧ H p = some (.ins CN dx []) ∧ ∀ H' r, Keep p H H' → H r = none → H' p = some (.ins CN dx [("rows", .ref r)]) → H' r = some (.dK []) → Q .non H'
structure NoteTxt (P : Program) (w : World) (K : PySem.W.Frag) (mg : Str → Option Value) (base : Heap) (CN fN : Addr) (fdN : FuncData) : Prop where
  made : Mk K CN fN
  g : mg "Notebook" = some (.ref CN)
  F : FnOk P w K mg base CX0 1 fN fdN ["self"] (spNote CN)
  b : Binds K fdN ["self"] []
theorem okE_nil : OkE [] := ⟨fun _ h => (nomatch h), fun _ h => (nomatch h), fun _ h => (nomatch h), .nil, .nil, Nat.zero_le _⟩
def spIn (CK CM : Addr) : Sp := fun vs H Q E => ∃ (p dx : Addr) (y : V) (es : List (Str × V)), vs = [.ref p, y] ∧ H p = some (.ins CK dx []) ∧ ((y = .non ∧ es = []) ∨ ∃ d, y = .ref d ∧ H d = some (.dK (kv es))) ∧ OkU es ∧ (fullU es).length ≤ 1000000 ∧
  ((pkE es).length ≤ 40 → ∀ H', Keep p H H' → PkAt CK H' p (pkE es) → Q .non H') ∧ (40 < (pkE es).length → ∀ H' dd, Keep p H H' → H' dd = some (.xd [("limit", .int 40)]) → E (.ref CM) (some dd) H')
theorem lk_entries (d : Addr) {x : PkX} : List.lookup ("entries" : Str) (pkFs d x) = some (.ref d) := by simp [pkFs, List.lookup]
def pkNot (m : Str) : Bool := !(m == ("entries" : Str)) && !(m == ("solid" : Str)) && !(m == ("rooms" : Str)) && !(m == ("token" : Str)) && !(m == ("notes" : Str))
theorem lk_no {m : Str} (d : Addr) {x : PkX} (h : pkNot m = true) : List.lookup m (pkFs d x) = none := by
  unfold pkNot at h
  simp only [Bool.and_eq_true, Bool.not_eq_true'] at h
  obtain ⟨⟨⟨⟨h1, h2⟩, h3⟩, h4⟩, h5⟩ := h
  simp [pkFs, List.lookup, h1, h2, h3, h4, h5]
section
variable {P : Program} {w : World} {K : PySem.W.Frag} {mg : Str → Option Value} {base : Heap} {tk1 tk2 : Tok}
theorem ok_ninit {f CN : Addr} {fd : FuncData} (F : Fun K "__init__" "Notebook.__init__" s_ninit f fd) (cl : Cls K CN) (nr : NoAttr K CN "rows") : FnOk P w K mg base CX0 1 f fd ["self"] (spNote CN) := by
  refine F.ok sc_ninit (fun vs H Q E h => ?_) (fun cdv A outer s H vs Q E hr h => ?_)
  · obtain ⟨p, dx, rfl, _⟩ := h
    rfl
  refine ⟨_, pss_one (ps_fld (pv 0) pe_dnewK rfl), ?_⟩
  obtain ⟨p, dx, rfl, hp, hq⟩ := h
  intro r hr0
  have npr : p ≠ r := ne_of_none hp hr0
  refine ⟨_, rfl, p, CN, dx, [], rfl, (by rw [upd_ne npr]; exact hp), cl, nr, (by show 0 < 1000; decide), ?_⟩
  refine hq _ r (keep_put (Same.keep (same_new hr0))) hr0 upd_same (by rw [upd_ne npr.symm, upd_same])
def pf1 (d : Addr) : List (Str × V) := [("entries", .ref d)]
def pf2 (d s : Addr) : List (Str × V) := [("entries", .ref d), ("solid", .ref s)]
def pf3 (d s r : Addr) : List (Str × V) := [("entries", .ref d), ("solid", .ref s), ("rooms", .ref r)]
def pf4 (d s r t : Addr) : List (Str × V) := [("entries", .ref d), ("solid", .ref s), ("rooms", .ref r), ("token", .ref t)]
theorem put0 {d : Addr} : putF "entries" (V.ref d) [] = pf1 d := rfl
theorem put1 {d s : Addr} : putF "solid" (V.ref s) (pf1 d) = pf2 d s := by
  unfold pf1 pf2; simp only [putF]; rw [if_neg (by decide +kernel)]
theorem put2 {d s r : Addr} : putF "rooms" (V.ref r) (pf2 d s) = pf3 d s r := by
  unfold pf2 pf3; simp only [putF]; rw [if_neg (by decide +kernel), if_neg (by decide +kernel)]
theorem put3 {d s r t : Addr} : putF "token" (V.ref t) (pf3 d s r) = pf4 d s r t := by
  unfold pf3 pf4; simp only [putF]; rw [if_neg (by decide +kernel), if_neg (by decide +kernel), if_neg (by decide +kernel)]
theorem put4 {d s r t n : Addr} : putF "notes" (V.ref n) (pf4 d s r t) = pkFs d ⟨s, r, t, n⟩ := by
  unfold pf4 pkFs; simp only [putF]; rw [if_neg (by decide +kernel), if_neg (by decide +kernel), if_neg (by decide +kernel), if_neg (by decide +kernel)]
theorem lkE1 {v : V} {r : List (Str × V)} : List.lookup ("entries" : Str) (("entries", v) :: r) = some v := by simp [List.lookup]
theorem ok_init {f f1 f2 f3 f4 C CM CT CN fM fN : Addr} {fd fd1 fd2 fd3 fd4 fdN : FuncData} (F : FunD K "__init__" "Package.__init__" (defArgs s_init) (defBody s_init) (defScope s_init) [.non] [] f fd) (T : Txt K mg tk1 tk2) (R : PkTxt K mg C) (L : PySem.TooManyX.ManyTxt K mg CM fM)
    (d_ce : DefAt P w K mg base "check_entries" 6 f1 fd1 ["entries"] spCE) (d_wp : DefAt P w K mg base "with_parents" 6 f2 fd2 ["entries"] spWP)
    (d_so : DefAt P w K mg base "solid_entries" 3 f3 fd3 ["entries"] spSolid) (d_nw : DefAt P w K mg base "names_within" 1 f4 fd4 ["entries"] spWithin) (TT : TokTxt K mg CT) (NT : NoteTxt P w K mg base CN fN fdN) :
    FnOk P w K mg base (L2.CX P w) 8 f fd ["self", "entries"] (spIn C CM) := by
  refine F.ok sc_init (fun vs H Q E h => ?_) (fun cdv A outer s H vs Q E hr h => ?_)
  · obtain ⟨p, dx, y, es, rfl, _⟩ := h
    rfl
  refine ⟨_, (pss_cons (ps_set (i := 2) sc_init.nd rfl (Or.inl rfl) (pe_ifExp (pt_cmpR op_isN (pv 1) pe_non (nomark _)) pe_dnewK (pv 1)))
    (pss_cons (ps_expr (pe_callD d_ce (hr.mono (by decide)) (pa_cons (pv 2) pa_nil)))
    (pss_cons (ps_fld (pv 0) (pe_callD d_wp (hr.mono (by decide)) (pa_cons (pv 2) pa_nil)) rfl)
    (pss_cons (ps_if (pt_cmpR op_gt (pe_callB call_lenD (by rfl) T.n_len (by decide +kernel) (pa_cons (pe_fld (pv 0) rfl) pa_nil)) (pe_con (pv 0) rfl) (nomark _)) (pss_one (ps_raiseMany rfl L hr (takes_of rfl rfl rfl rfl) (by exact (pa_cons (pe_con (pv 0) rfl) pa_nil)))) pss_nil)
    (pss_cons (ps_fld (pv 0) (pe_callD d_so (hr.mono (by decide)) (pa_cons (pe_fld (pv 0) rfl) pa_nil)) rfl)
    (pss_cons (ps_fld (pv 0) (pe_callD d_nw (hr.mono (by decide)) (pa_cons (pe_fld (pv 0) rfl) pa_nil)) rfl)
    (pss_cons (ps_fld (pv 0) (pe_new0 TT.made (by rfl) TT.g) rfl)
    (pss_one (ps_fld (pv 0) (pe_make0 NT.made NT.F (hr.mono (by decide)) rfl NT.g NT.b .nil pass0) rfl))))))))), ?_⟩
  obtain ⟨p, dx, y, es, rfl, hp, hy, okU, hful, hq, he⟩ := h
  have hel : es.length ≤ 1000000 := Nat.le_trans (fullN_ge es es) hful
  have ok : OkE (pkE es) := pkE_ok okU hful
  obtain ⟨tkL, lim⟩ := R.lim
  have main : ∀ (H0 : Hp) (g : Addr), Same H H0 → H0 g = some (.dK (kv es)) → tSeq (tDrop (tCall spCE [] E0 (tCons (tVar 2) tNil)))
      (tSeq (sFld K (tVar 0) (tCall spWP [] E0 (tCons (tVar 2) tNil)) "entries")
        (tSeq (tIfS (tTest (tOp (rI0 fun i j => .bl (decide (j < i))) (tCB (fun xs H Q => ∃ a kvs, xs = [V.ref a] ∧ H a = some (.dK kvs) ∧ Q (.int kvs.length) H) (tCons (tFld K (tVar 0) "entries") tNil)) (tCon K (tVar 0) "LIMIT")))
          (tRaiseMany CM (fun cls d _ H' => E cls d H') (tCons (tCon K (tVar 0) "LIMIT") tNil)) tNext)
        (tSeq (sFld K (tVar 0) (tCall spSolid [] E0 (tCons (tFld K (tVar 0) "entries") tNil)) "solid")
        (tSeq (sFld K (tVar 0) (tCall spWithin [] E0 (tCons (tFld K (tVar 0) "entries") tNil)) "rooms")
        (tSeq (sFld K (tVar 0) (tMake0 CT) "token")
        (sFld K (tVar 0) (tMake CN (spNote CN) [] E0 tNil) "notes"))))))
      { nx := fun _ H' => Q .non H', rt := Q } [some (.ref p), some y, some (.ref g)] H0 := by
    intro H0 g s0 hg
    refine ⟨_, rfl, g, es, rfl, hg, okU, hel, fun H1 s1 => ?_⟩
    have S1 := s0.trans s1
    refine ⟨_, rfl, g, es, rfl, s1 _ _ hg, okU, hful, fun H2 d s2 hd0 hd => ?_⟩
    have S2 := S1.trans s2
    have hp2 := S2 _ _ hp
    have npd : d ≠ p := Ne.symm (ne_of_none (S1 _ _ hp) hd0)
    refine ⟨_, rfl, p, C, dx, [], rfl, hp2, R.cl, R.nE, (by show 0 < 1000; decide), ?_⟩
    rw [put0]
    have lk2 : List.lookup ("LIMIT" : Str) (pf1 d) = none := by
      have e : ((Str.ofString "LIMIT") == (Str.ofString "entries")) = false := by decide +kernel
      simp [pf1, List.lookup, e]
    have hd3 : (upd H2 p (.ins C dx (pf1 d))) d = some (.dK (kv (pkE es))) := by rw [upd_ne npd]; exact hd
    have hp3 : (upd H2 p (.ins C dx (pf1 d))) p = some (.ins C dx (pf1 d)) := upd_same
    have K3 : Keep p H (upd H2 p (.ins C dx (pf1 d))) := keep_put (Same.keep S2)
    generalize (upd H2 p (.ins C dx (pf1 d))) = H3 at hd3 hp3 K3
    refine ⟨_, rfl, p, C, dx, _, _, rfl, hp3, R.cl, R.nE, lkE1, d, kv (pkE es), rfl, hd3, ?_⟩
    refine ⟨_, rfl, p, C, dx, _, _, _, rfl, hp3, R.cl, lim, lk2, _, _, rfl, rfl, _, rfl, ?_⟩
    have hkl : (kv (pkE es)).length = (pkE es).length := by unfold kv; rw [List.length_map]
    rw [hkl]
    refine ifD (fun h => ?_) (fun h => ?_)
    · refine ⟨_, rfl, p, C, dx, _, _, _, rfl, hp3, R.cl, lim, lk2, _, rfl, fun dd hdd => he (by omega) _ dd (K3.trans (Same.keep (same_new hdd))) upd_same⟩
    -- solid
    refine ⟨_, rfl, p, C, dx, _, _, rfl, hp3, R.cl, R.nE, lkE1, d, pkE es, rfl, hd3, ok, by omega, fun H4 so s4 hso0 hso => ?_⟩
    have hp4 := s4 _ _ hp3
    refine ⟨_, rfl, p, C, dx, _, rfl, hp4, R.cl, R.nS, (by show 1 < 1000; decide), ?_⟩
    rw [put1]
    have nso : so ≠ p := Ne.symm (ne_of_none hp3 hso0)
    have hd5 : (upd H4 p (.ins C dx (pf2 d so))) d = some (.dK (kv (pkE es))) := by rw [upd_ne npd]; exact s4 _ _ hd3
    have hs5 : (upd H4 p (.ins C dx (pf2 d so))) so = some (.dK (kv (solidE (pkE es)))) := by rw [upd_ne nso]; exact hso
    have hp5 : (upd H4 p (.ins C dx (pf2 d so))) p = some (.ins C dx (pf2 d so)) := upd_same
    have K5 : Keep p H (upd H4 p (.ins C dx (pf2 d so))) := K3.trans (keep_put (Same.keep s4))
    generalize (upd H4 p (.ins C dx (pf2 d so))) = H5 at hd5 hs5 hp5 K5
    -- rooms
    refine ⟨_, rfl, p, C, dx, _, _, rfl, hp5, R.cl, R.nE, lkE1, d, pkE es, rfl, hd5, ok, by omega, fun H6 ro rs s6 hro0 hro hbr => ?_⟩
    have hp6 := s6 _ _ hp5
    refine ⟨_, rfl, p, C, dx, _, rfl, hp6, R.cl, R.nR, (by show 2 < 1000; decide), ?_⟩
    rw [put2]
    have rest6 : PkRest H6 ⟨so, ro, so, so⟩ (pkE es) := ⟨s6 _ _ hs5, rs, hro, hbr⟩
    have rest7 := rest6.keep (H' := upd H6 p (.ins C dx (pf3 d so ro))) hp6 ⟨(fun _ q => nomatch q), (fun _ q => nomatch q)⟩ (keep_put (Keep.refl _ _))
    have hd7 : (upd H6 p (.ins C dx (pf3 d so ro))) d = some (.dK (kv (pkE es))) := by rw [upd_ne npd]; exact s6 _ _ hd5
    have hp7 : (upd H6 p (.ins C dx (pf3 d so ro))) p = some (.ins C dx (pf3 d so ro)) := upd_same
    have K7 : Keep p H (upd H6 p (.ins C dx (pf3 d so ro))) := K5.trans (keep_put (Same.keep s6))
    generalize (upd H6 p (.ins C dx (pf3 d so ro))) = H7 at hd7 hp7 K7 rest7
    -- token
    intro t dt ht hdt ndt
    have s8 : Same H7 (upd (upd H7 dt (.own t)) t (.ins CT dt [])) := same_upd ht (same_new hdt)
    have npt : p ≠ t := ne_of_none hp7 ht
    generalize (upd (upd H7 dt (.own t)) t (.ins CT dt [])) = H8 at s8
    have hp8 := s8 _ _ hp7
    refine ⟨_, rfl, p, C, dx, _, rfl, hp8, R.cl, R.nT, (by show 3 < 1000; decide), ?_⟩
    rw [put3]
    have rest9 := (rest7.same s8).keep (H' := upd H8 p (.ins C dx (pf4 d so ro t))) hp8 ⟨(fun _ q => nomatch q), (fun _ q => nomatch q)⟩ (keep_put (Keep.refl _ _))
    have hd9 : (upd H8 p (.ins C dx (pf4 d so ro t))) d = some (.dK (kv (pkE es))) := by rw [upd_ne npd]; exact s8 _ _ hd7
    have hp9 : (upd H8 p (.ins C dx (pf4 d so ro t))) p = some (.ins C dx (pf4 d so ro t)) := upd_same
    have K6' : Keep p H (upd H8 p (.ins C dx (pf4 d so ro t))) := K7.trans (keep_put (Same.keep s8))
    generalize (upd H8 p (.ins C dx (pf4 d so ro t))) = H9 at hd9 hp9 K6' rest9
    -- notes
    intro n dn hn hdn ndn
    have sN : Same H9 (upd (upd H9 dn (.own n)) n (.ins CN dn [])) := same_upd hn (same_new hdn)
    have npn : p ≠ n := ne_of_none hp9 hn
    have hN : (upd (upd H9 dn (.own n)) n (.ins CN dn [])) n = some (.ins CN dn []) := upd_same
    refine ⟨n, dn, rfl, hN, fun Ha r kp hr0 hna hra => ⟨rfl, ?_⟩⟩
    have sa : Same H9 Ha := fun a o e => kp a o (ne_of_none e hn) (sN _ _ e)
    have hpa := sa _ _ hp9
    refine ⟨_, rfl, p, C, dx, _, rfl, hpa, R.cl, R.nN, (by show 4 < 1000; decide), ?_⟩
    rw [put4]
    have restA := (rest9.same sa).keep (H' := upd Ha p (.ins C dx (pkFs d ⟨so, ro, t, n⟩))) hpa ⟨(fun _ q => nomatch q), (fun _ q => nomatch q)⟩ (keep_put (Keep.refl _ _))
    exact hq (by omega) _ (K6'.trans (keep_put (Same.keep sa))) ⟨dx, d, ⟨⟨so, ro, t, n⟩, upd_same, ⟨restA.s, restA.r⟩⟩, by rw [upd_ne npd]; exact sa _ _ hd9⟩
  refine ⟨_, rfl, rfl, _, rfl, ?_⟩
  rcases hy with ⟨rfl, rfl⟩ | ⟨d, rfl, hd⟩
  · refine ifD (fun _ => ?_) (fun h => absurd rfl h)
    intro g hg
    exact main _ g (same_new hg) upd_same
  · refine ifD (fun h => nomatch h) (fun _ => ?_)
    exact ⟨_, rfl, main H d (Same.refl H) hd⟩
end
end K6

set_option Elab.async false
set_option linter.all false
set_option maxRecDepth 100000
set_option maxHeartbeats 4000000
namespace LF
open PySem PySem.Spec PyProof.Rows L2
/-- cls(..), the class at C in the i-th slot -/
def tMakeL (i : Nat) (C : Addr) (sp : Sp) (dvs : List V) (E : XK) (t : TA) : TE := fun σ H Q => σ[i]? = some (some (.ref C)) ∧ t σ H fun vs H1 => ∀ x dx, H1 x = none → H1 dx = none → dx ≠ x →
  sp (.ref x :: (vs ++ dvs)) (upd (upd H1 dx (.own x)) x (.ins C dx [])) (fun v H2 => v = .non ∧ Q (.ref x) H2) E
section
variable {X : Cx} {CX : CXT} {k i : Nat} {C f : Addr} {fd : FuncData} {ps : List Str} {sp : Sp} {dvs : List V} {ds : List Value} {E : XK} {x : Str} {p pos : Pos} {e : Expr} {es : List Expr} {t : TA}
theorem pe_makeL (M : Mk X.K C f) (F : FnOk X.prog X.w X.K X.mg X.base CX k f fd ps sp) (hr : Room (k + 1) X.A) (hN : X.N[i]? = some x) (hv : Vis X.env.scope x) (hb : Binds X.K fd ps ds) (hd : Vals dvs ds) (hx : Passes CX X E) (ha : PA X (e :: es) t)
    (h1 : (x == ("__debug__" : Str)) = false := by decide) (h2 : (x == ("__classdict__" : Str)) = false := by decide)
    (he : starEach (e :: es) X.env = (false, eval e X.env) :: starEach es X.env := by rfl) (hpl : (backTo pos (starEach es X.env)).any (·.1) = false := by rfl) : PE X (.Call (.Name x p) (e :: es) [] pos) (tMakeL i C sp dvs E t) := by
  refine ⟨fun pins s σ H Q I h => ?_⟩
  obtain ⟨hs, ht⟩ := h
  refine wpAny_Call_Name_kw (thn ((pe_var (pos := p) hN hv h1 h2).run pins s σ H (fun v H1 => v = .ref C ∧ H1 = H) I ⟨.ref C, hs, rfl, rfl⟩) fun u s1 ⟨v, H1, I1, r1, q1⟩ => ?_)
  obtain ⟨rfl, rfl⟩ := q1
  cases r1
  refine PySem.W.callWith_K (h₀ := X.base) I.ok.mod.kin M.kp (thn (ha.run pos pins s1 σ _ _ I1 ht) fun us s2 ⟨vs, H2, I2, r, q⟩ => ⟨I2.kIn, ?_⟩) he hpl
  exact run_make M F hr hb hd hx I2 r q
end
/-- a def whose parameters are all given, by its arguments alone -/
theorem FnOk.toR {P : Program} {w : World} {K : PySem.W.Frag} {mg : Str → Option Value} {base : Heap} {CX : CXT} {k : Nat} {f : Addr} {fd : FuncData} {ps : List Str} {sp : Sp} (F : FnOk P w K mg base CX k f fd ps sp) (hb : Binds K fd ps []) : FnR P w K mg base CX k f sp := by
  intro A fr st H us vs Q E hr e0 r h
  have hl : us.length = ps.length := by rw [← r.length]; exact F.len _ _ _ _ h
  have KX : K.In st.heap := e0.mod.kin.keeps fun b o e => (e0.bs b o e).1
  have b := hb st us KX (by rw [List.append_nil]; exact hl)
  rw [List.append_nil] at b
  exact F.run A fr st H ⟨us, []⟩ us vs Q E hr e0 b r h
end LF

set_option Elab.async false
set_option linter.all false
set_option maxRecDepth 100000
set_option maxHeartbeats 4000000
namespace LF
open PySem PySem.Spec PyProof.Rows L2
open PySem.Builtin
/-- len(x), x an own instance of the class at C: its own __len__ -/
def rLenO (C : Addr) (sp : Sp) : List V → Hp → VK → Prop := fun xs H Q => ∃ (a dx : Addr) (fs : List (Str × V)), xs = [.ref a] ∧ H a = some (.ins C dx fs) ∧ sp [.ref a] H (fun v H' => ∃ n : Nat, v = .int n ∧ n < 2 ^ 60 ∧ Q (.int n) H') E0
theorem call_lenO {X : Cx} {k : Nat} {f C : Addr} {fd : FuncData} {sp : Sp} {px : Str} (G : FnOk X.prog X.w X.K X.mg X.base CX0 k f fd [px] sp) (hr : Room (k + 1) X.A) (hb : Binds X.K fd [px] [])
    (hs : PySem.W.findIn X.K (.ref C) "__len__" = some (some (.ref f))) (hf : PySem.W.isFn X.K (.ref f) = true) : CallR X (.builtin "len") (rLenO C sp) := by
  intro pins s σ H xs us Q I r h
  obtain ⟨a, dx, fs, rfl, ha, hsp⟩ := h
  rw [Vals.ref1 r]
  obtain ⟨mA, O, _, _, _, _⟩ := ins_get I.hok ha
  obtain ⟨od, J, _⟩ := O.look
  have b' := hb s [.ref a] I.kIn rfl
  rw [List.append_nil] at b'
  have run := G.run X.A.in1 X.stack s H ⟨[.ref a], []⟩ [.ref a] [.ref a] _ E0 hr.in1 I.env0.in1 b' (.cons rfl .nil) hsp
  refine Calls.call_function_entry kind_len plain_len entry_len (args_len1 _) ?_
  unfold Builtin.«len»
  refine wpAny_bind (m := oneArg "len" _) (wpAny_pure ?_)
  refine wpAny_bind (m := callSpecial? (.ref a) (Str.ofString "__len__")) (PySem.W.special_fn I.kIn J hs (beq_iff_eq.mp hf) (wpAny_call (codeAny_mono run ?_)))
  intro rr s2 hq2
  cases rr with
  | error e => exact hq2.elim
  | ok fl =>
    cases fl with
    | next => exact hq2.elim
    | brk => exact hq2.elim
    | cont => exact hq2.elim
    | ret u =>
      obtain ⟨y, H2, J2, ry, n, ey, hn, q⟩ := I.after hq2
      subst ey
      obtain ⟨tk, rfl⟩ := ry
      refine wpAny_bind (wpAny_holding (wpAny_pure ?_))
      refine wpAny_bind (wpAny_letGo ?_)
      show wpAny _ _ (if (n : Int) < 0 then _ else _) _ _ _
      rw [if_neg (by omega)]
      show wpAny _ _ (if (n : Int) ≥ 2 ^ 63 then _ else _) _ _ _
      rw [if_neg (by have : (2 : Nat) ^ 60 = 1152921504606846976 := by decide
                     omega)]
      exact wpAny_bind (wpAny_mkInt (wpAny_pure ⟨_, rfl, .int n, H2, J2.tok _, ⟨_, rfl⟩, q⟩))
end LF

set_option Elab.async false
set_option linter.all false
set_option maxRecDepth 100000
set_option maxHeartbeats 4000000
namespace LF
open PySem PySem.Spec PyProof.Rows L2
abbrev Suite := Addr → Value → Option Addr → TS
/-- several clauses «except c as n», one behind the other: slot i is n's -/
def wAsMany (K : PySem.W.Frag) (i : Nat) (Wout : WX) (D : Ends) : List (Value × Suite) → WX
  | [] => Wout
  | (c, ts) :: more => wAs K c i ts (wAsMany K i Wout D more) D
inductive HdsAs (X : Cx) (n : Str) : List ExceptHandler → List (Value × Suite) → Prop
  | nil : HdsAs X n [] []
  | cons {x : Str} {c : Value} {ts : Suite} {b0 : Stmt} {bs : List Stmt} {p1 p2 : Pos} {hs : List ExceptHandler} {l : List (Value × Suite)} (named : Names X x c)
      (body : ∀ (a : Addr) (o : Obj) (k : Value) (d : Option Addr) (pn : List (Addr × Obj)), Zc k d o → (∃ vs, o.data = .fields vs) → PSs (X.suite a ((a, o) :: pn)) (b0 :: bs) (ts a k d)) (more : HdsAs X n hs l) :
      HdsAs X n (.ExceptHandler (some (.Name x p1)) (some n) (b0 :: bs) p2 :: hs) ((c, ts) :: l)
section
variable {X : Cx} {n : Str} {i : Nat} {body : List Stmt} {hd1 : ExceptHandler} {hds : List ExceptHandler} {l : List (Value × Suite)} {pos : Pos} {tb : WX → TS} {Wout : WX}
theorem ps_try_asMany (hs : X.stack = X.env :: X.outer) (hf : X.env.frame = some X.env.locals) (hN : X.N.Nodup) (hi : X.N[i]? = some n) (hln : X.env.kindOf n = some .local) (tk : Takes X Wout)
    (hb : ∀ (W : WX) (pn : List (Addr × Obj)) (xe : Value → Shared → Prop), Takes (X.tr pn xe) W → PassesOwn (model X.prog X.w) X.A X.env xe → PSs (X.tr pn xe) body (tb W))
    (hh : HdsAs X n (hd1 :: hds) l) : PS X (.Try body (hd1 :: hds) [] [] pos) (fun D σ H => tb (wAsMany X.K i Wout D l) D σ H) := by
  refine ⟨fun pins s σ H D I h => ?_⟩
  have inv := I.ok
  have frm : X.A.frames = some (X.env :: X.outer) := by rw [inv.frames, hs]
  have loc : Loc X.env.scope n := .inl hln
  refine wpAny_Try_except ?_
  refine wpAny_mono ((hb (wAsMany X.K i Wout D l) (X.pn ++ pins)
    (fun e t1 => wpAny (model X.prog X.w) X.A (noteFrame e X.env) (fun _ t2 => wpAny (model X.prog X.w) X.A (setFlight e none) (fun _ t3 => wpAny (model X.prog X.w) X.A (handleBy e X.env (hd1 :: hds)) (SP X pins D) X.xe t3) X.xe t2) X.xe t1)
    (fun u t0 caught => ?_) PassesOwn.looking).run [] s σ H D (I.toTry _) h) (fun f t1 ended => ?_) (fun e t1 he => he)
  · obtain ⟨a, B, sI, pin2, σ1, H1, k, d, rfl, J1, nb, up, sky, na, os, ag, wish⟩ := caught
    have J : Inv X pins σ1 H1 sI := J1.ofTry inv
    have sky1 : Sky B (X.env :: X.outer) a (Zc k d) X.env.locals t0.heap := by rw [← hs]; exact sky
    show wpAny (model X.prog X.w) X.A (noteFrame (.ref a) X.env) _ _ _
    refine Sky.land Zc.steady frm hf sky1 fun hA flA upA => ?_
    have JA : Inv X pins σ1 H1 { t0 with heap := hA } := J.landed nb flA.1 (up.trans upA) os ag
    obtain ⟨oA, vA, hoA, zA, dA⟩ := flA.there
    have far : a ∉ frs (X.env :: X.outer) := fun hm => by
      obtain ⟨_, o', e', hnf⟩ := flA.2.2.1.mem hm
      rw [hoA] at e'
      cases e'
      exact hnf _ dA
    have aL : a ≠ X.env.locals := fun z => far (List.mem_filterMap.mpr ⟨X.env, List.mem_cons_self, by rw [hf, z]⟩)
    have aF : a ∉ X.fs := fun hm => by
      obtain ⟨e, he, q⟩ := List.mem_filterMap.mp hm
      exact far (List.mem_filterMap.mpr ⟨e, List.mem_cons_of_mem _ he, q⟩)
    have SA := JA.suite hoA dA na aL aF
    have go : ∀ {hs2 : List ExceptHandler} {l2 : List (Value × Suite)}, HdsAs X n hs2 l2 → wAsMany X.K i Wout D l2 k d σ1 H1 →
        wpAny (model X.prog X.w) X.A (handleBy (.ref a) X.env hs2) (SP X pins D) X.xe { t0 with heap := hA } := by
      intro hs2 l2 hk
      induction hk with
      | nil =>
        intro out
        refine wpAny_handleBy_nil ?_
        obtain ⟨_, _, _, oe, vs, tt, oT, ts', he, hz, hd, h1, hr⟩ := id flA
        unfold PySem.passOn
        refine wpAny_bind (wpAny_field he hd h1 ?_)
        rw [if_neg (by simp : ¬ ((Value.ref tt == Value.none) = true))]
        have leave : wpAny (model X.prog X.w) X.A (setFlight (.ref a) X.env.frame) (fun _ t4 => wpAny (model X.prog X.w) X.A (throw (.ref a) : Sem Flow) (SP X pins D) X.xe t4) X.xe { t0 with heap := hA } := by
          rw [hf]
          refine HandSPX.setFlight_upZ flA fun hB fB uB => wpAny_throw (tk _ _ ?_)
          exact ⟨a, B, sI, pins, σ1, H1, k, d, rfl, J, nb, (up.trans upA).trans uB, .inr (.inr (by rw [hs]; exact fB)), na, os, ag, out⟩
        first
          | exact wpAny_bind (wpAny_pure (wpAny_bind leave))
          | exact wpAny_bind leave
      | @cons x c ts b0 bs p1 p2 hs3 l3 named suite more ih =>
        intro wish2
        obtain ⟨b, isb, yes, no⟩ := wish2
        refine wpAny_handleBy_cons (codeAny_handlers_test ?_) (by intro q; cases q)
        have its : PySem.W.Looks (model X.prog X.w) hA (typeOf (.ref a)) k := fun A Q E s kp q => wpAny_typeOf_ref (kp _ _ hoA) (by rw [zA.1]; exact q)
        have matched := PySem.W.exm_one (M := model X.prog X.w) (JA.kIn) its isb
        have asked : ∀ {Q : Value → Shared → Prop} {E : Value → Shared → Prop}, Q c { t0 with heap := hA } → wpAny (model X.prog X.w) (X.A.mark (some (.ref a))) (eval (.Name x p1) X.env) Q E { t0 with heap := hA } := fun {Q E} q => by
          obtain ⟨g1, g2, m1 | ⟨m1, m2, m3⟩⟩ := named
          · exact ld_glob (X := X.suite a ((a, oA) :: (X.pn ++ pins))) SA g1 m1 q g2
          · exact ld_blt (X := X.suite a ((a, oA) :: (X.pn ++ pins))) SA g1 m1 m2 q m3 g2
        refine asked (matched.here ?_)
        cases b with
        | false =>
          show wpAny _ X.A (handleBy (.ref a) X.env hs3) _ _ _
          exact ih (no rfl)
        | true =>
          refine codeAny_handlers_suite_as ?_
          refine HandSPX.lands_againZ flA fun hB flB upB => ?_
          have JB : Inv X pins σ1 H1 { t0 with heap := hB } := J.landed nb flB.1 ((up.trans upA).trans upB) os ag
          obtain ⟨oB, vB, hoB, zB, dB⟩ := flB.there
          have SB := JB.suite hoB dB na aL aF
          refine store_ok (X := X.suite a ((a, oB) :: (X.pn ++ pins))) (v := .ref a) SB hN hi loc rfl (fun t5 S5 => ?_) (.inr hln)
          refine wpAny_mono ((suite a oB k d (X.pn ++ pins) zB ⟨_, dB⟩).run [] t5 _ H1 _ S5 (yes rfl a na)) (fun f t6 ends => ?_) (fun _ _ z => False.elim z)
          have over : ∀ {σ6 : L2.St} {H6 : Hp} {Q : Shared → Prop}, Inv (X.suite a ((a, oB) :: (X.pn ++ pins))) [] σ6 H6 t6 → (∀ t7, Inv X pins (σ6.set i none) H6 t7 → Q t7) →
              wpAny (model X.prog X.w) X.A (do bindName X.env n .none; unbindBehindTheSuite X.env n p2) (fun _ t7 => Q t7) X.xe t6 := fun {σ6 H6 Q} S6 hq => gone_ok (S6.unsuite inv) hN hi hln hq
          cases f with
          | next =>
            obtain ⟨σ6, H6, S6, q6⟩ := ends
            exact over S6 fun t7 J7 => ⟨_, _, J7, q6⟩
          | brk =>
            obtain ⟨σ6, H6, S6, q6⟩ := ends
            exact over S6 fun t7 J7 => ⟨_, _, J7, q6⟩
          | cont =>
            obtain ⟨σ6, H6, S6, q6⟩ := ends
            exact over S6 fun t7 J7 => ⟨_, _, J7, q6⟩
          | ret u =>
            obtain ⟨v6, σ6, H6, S6, r6, q6⟩ := ends
            exact over S6 fun t7 J7 => ⟨_, _, _, J7, r6, q6⟩
    exact go hh wish
  · cases f with
    | next =>
      obtain ⟨σ2, H2, J2, q⟩ := ended
      exact wpAny_execs_nil ⟨σ2, H2, J2.ofTry inv, q⟩
    | brk =>
      obtain ⟨σ2, H2, J2, q⟩ := ended
      exact ⟨σ2, H2, J2.ofTry inv, q⟩
    | cont =>
      obtain ⟨σ2, H2, J2, q⟩ := ended
      exact ⟨σ2, H2, J2.ofTry inv, q⟩
    | ret u =>
      obtain ⟨v2, σ2, H2, J2, r, q⟩ := ended
      exact ⟨v2, σ2, H2, J2.ofTry inv, r, q⟩
end
end LF

set_option Elab.async false
set_option linter.all false
set_option maxRecDepth 100000
set_option maxHeartbeats 4000000
namespace K6
open PySem PySem.Spec PyProof.Rows L2 LF
abbrev s_len : Stmt := inClass s_Package 15
theorem sc_len : FnScope ["self"] ["self"] (defScope s_len) := ⟨rfl, rfl, rfl, by decide +kernel, rfl, by decide +kernel, by decide +kernel⟩
abbrev s_from : Stmt := inClass s_Package 19
theorem sc_from : FnScope ["cls", "text"] ["cls", "text"] (defScope s_from) := ⟨rfl, rfl, rfl, by decide +kernel, rfl, by decide +kernel, by decide +kernel⟩
def spLen (C : Addr) : Sp := fun vs H Q _ => ∃ p es, vs = [.ref p] ∧ PkAt C H p es ∧ ∀ H', Same H H' → Q (.int es.length) H'
/-- what a text's reading wants: the package, or an error -/
def spFrom (K : PySem.W.Frag) (CK CM CT : Addr) : Sp := fun vs H Q E => ∃ x, vs = [.ref CK, x] ∧
  ((∃ (z : Str) (r : Except Nat (List (Key × V))), x = .str z ∧ z.length ≤ 1000000 ∧ PyData.strOk z = true ∧ readT z = some r ∧
    (∀ kvs, r = .ok kvs → ∃ es, kvs = kv es ∧ OkE es ∧ (es.length ≤ 40 → ∀ H' p, Same H H' → H p = none → PkAt CK H' p es → Q (.ref p) H') ∧ (40 < es.length → ∀ H' d, Same H H' → H' d = some (.xd [("limit", .int 40)]) → E (.ref CM) (some d) H')) ∧
    (∀ i : Nat, r = .error i → ∀ H' d, Same H H' → H' d = some (.xd [("row", .int i)]) → E (.ref CT) (some d) H')) ∨
   ((∃ t, TyX K H x t ∧ PySem.W.kitOne K t (.type "str") = some false) ∧ ∀ H' d, Same H H' → H' d = some (.xd [("row", .int (-1))]) → E (.ref CT) (some d) H'))
section
variable {P : Program} {w : World} {K : PySem.W.Frag} {mg : Str → Option Value} {base : Heap} {tk1 tk2 : Tok}
theorem ok_len {f C : Addr} {fd : FuncData} (F : Fun K "__len__" "Package.__len__" s_len f fd) (T : Txt K mg tk1 tk2) (R : PkTxt K mg C) : FnOk P w K mg base CX0 1 f fd ["self"] (spLen C) := by
  refine F.ok sc_len (fun vs H Q E h => ?_) (fun cdv A outer s H vs Q E hr h => ?_)
  · obtain ⟨p, es, rfl, _⟩ := h
    rfl
  refine ⟨_, pss_one (ps_ret (pe_callB call_lenD (by rfl) T.n_len (by decide +kernel) (pa_cons (pe_fld (pv 0) rfl) pa_nil))), ?_⟩
  obtain ⟨p, es, rfl, ⟨dx, d, ⟨xx_h1, h1, zz_h1⟩, h2⟩, hq⟩ := h
  refine ⟨_, rfl, p, C, dx, _, _, rfl, h1, R.cl, R.nE, lk_entries d, d, kv es, rfl, h2, ?_⟩
  have hkl : (kv es).length = es.length := by unfold kv; rw [List.length_map]
  rw [hkl]
  exact hq H (Same.refl H)
theorem ok_from {f f1 fI CK CM CT : Addr} {fd fd1 fdI : FuncData} {ds : List Value} (F : Fun K "from_text" "Package.from_text" s_from f fd) (M : Mk K CK fI) (FI : FnOk P w K mg base (L2.CX P w) 8 fI fdI ["self", "entries"] (spIn CK CM)) (bI : Binds K fdI ["self", "entries"] [])
    (FE : FnOk P w K mg base (L2.CX P w) 6 f1 fd1 ["text"] (spEs K CT)) (gE : mg "entries_of" = some (.ref f1)) (kE : PySem.W.keepIn K (.ref f1) = true) (bE : Binds K fd1 ["text"] []) : FnOk P w K mg base (L2.CX P w) 10 f fd ["cls", "text"] (spFrom K CK CM CT) := by
  refine F.okX sc_from (fun vs H Q E h => ?_) (fun cdv A outer s H vs Q E hr h => ?_)
  · obtain ⟨x, rfl, _⟩ := h
    rfl
  refine ⟨_, pss_one (ps_ret (pe_makeL (i := 0) M FI hr rfl (Or.inl rfl) bI .nil (passes_call (E := E) (takes_of rfl rfl rfl rfl) (fun _ _ _ _ h => h)) (pa_cons (pe_callS FE (hr.mono (by decide)) rfl gE kE bE (fun σ => passAt (takes_of rfl rfl rfl rfl) σ) (by exact (pa_cons (pv 1) pa_nil))) pa_nil))), ?_⟩
  obtain ⟨x, rfl, h⟩ := h
  have mk : ∀ (H1 : Hp) (d : Addr) (es : List (Str × V)), Same H H1 → H1 d = some (.dK (kv es)) → OkE es → (es.length ≤ 40 → ∀ H' p, Same H H' → H p = none → PkAt CK H' p es → Q (.ref p) H') →
      (40 < es.length → ∀ H' dd, Same H H' → H' dd = some (.xd [("limit", .int 40)]) → E (.ref CM) (some dd) H') →
      ∀ x dx, H1 x = none → H1 dx = none → dx ≠ x → spIn CK CM (.ref x :: ([V.ref d] ++ [])) (upd (upd H1 dx (.own x)) x (.ins CK dx [])) (fun v H2 => v = .non ∧ Q (.ref x) H2) E := by
    intro H1 d es s1 hd ok hq he x dx hx hdx ndx
    have nx : d ≠ x := ne_of_none hd hx
    have ndx2 : d ≠ dx := ne_of_none hd hdx
    have S : ∀ H', Keep x (upd (upd H1 dx (.own x)) x (.ins CK dx [])) H' → Same H H' := fun H' kp a o e => by
      have e1 := s1 _ _ e
      have na := ne_of_none e1 hx
      have nd := ne_of_none e1 hdx
      exact kp a o na (by rw [upd_ne na, upd_ne nd]; exact e1)
    have hid := pkE_id ok
    have hfu : fullU es = es := full_id fun e he s hs => val_key (ok.up e he s hs)
    have h1 : (fullU es).length ≤ 1000000 := by rw [hfu]; exact ok.len
    refine ⟨x, dx, .ref d, es, rfl, upd_same, Or.inr ⟨d, rfl, by rw [upd_ne nx, upd_ne ndx2]; exact hd⟩, ok.toU, h1, ?_, ?_⟩
    · rw [hid]
      exact fun h40 H' kp pk => ⟨rfl, hq h40 H' x (S H' kp) (s1.free hx) pk⟩
    · rw [hid]
      exact fun h40 H' dd kp hdd => he h40 H' dd (S H' kp) hdd
  refine ⟨rfl, _, rfl, x, rfl, ?_⟩
  rcases h with ⟨z, r, rfl, hz, hok, hrd, hq, he⟩ | ⟨hno, he⟩
  · refine Or.inl ⟨z, r, rfl, hz, hok, hrd, fun kvs hr2 H' p s1 hp hd => ?_, fun i hi H' d s1 hd => he i hi H' d s1 hd⟩
    obtain ⟨es, rfl, ok, h1, h2⟩ := hq kvs hr2
    exact mk H' p es s1 hd ok h1 h2
  · exact Or.inr ⟨hno, fun H' d s1 hd => he H' d s1 hd⟩
end
end K6

set_option Elab.async false
set_option linter.all false
set_option maxRecDepth 100000
set_option maxHeartbeats 4000000
namespace LF
open PySem PySem.Spec PyProof.Rows L2 ClX
section
variable {X : Cx} {k : Nat} {f : Addr} {sp : Sp} {x : Str} {p pos : Pos} {e : Expr} {es : List Expr} {t : TA} {W : WX}
/-- a promise by arguments alone, called where W is wished of what is let out -/
theorem run_fnRS {pins : List (Addr × Obj)} {σ : L2.St} {H : Hp} {s : Shared} {Q : VK} {us : List Value} {vs : List V} (F : FnR X.prog X.w X.K X.mg X.base (L2.CX X.prog X.w) k f sp)
    (hr : Room k X.A) (tk : Takes X W) (I : Inv X pins σ H s) (r : Vals vs us) (h : sp vs H Q (WE W σ)) :
    codeAny (model X.prog X.w) X.A (.call (.ref f) ⟨us, []⟩) (fun r s' => match r with | .ok (.ret v) => EP X pins σ Q v s' | .ok _ => False | .error e => X.xe e s') s := by
  refine codeAny_mono (F X.A X.stack s H us vs Q (WE W σ) hr I.env0 r h) ?_
  intro rr s' hq
  cases rr with
  | error e => exact passAt tk σ pins H s e s' I hq
  | ok fl =>
    cases fl with
    | ret u => exact I.after hq
    | next => exact hq.elim
    | brk => exact hq.elim
    | cont => exact hq.elim
end
section
variable {X : Cx} {k : Nat} {C p g : Addr} {mc : Value} {sp : Sp} {W : WX} {o e : Expr} {es : List Expr} {m : Str} {pos apos : Pos} {ta : TE} {t : TA} {pl : Sem Bool}
/-- C.m(..), m a classmethod that may raise, in a body whose errors are caught -/
theorem pe_cmethS (he : PE X o ta) (r : CRead X.K C mc) (c : CMet X.K C mc m p g) (F : FnR X.prog X.w X.K X.mg X.base (L2.CX X.prog X.w) k g sp) (hr : Room k X.A) (tk : Takes X W) (ha : PA X (e :: es) t)
    (hst : starEach (e :: es) X.env = (false, eval e X.env) :: starEach es X.env := by rfl) (hpl : (backTo pos (starEach es X.env)).any (·.1) = false := by rfl)
    (ht : eval (.Call (.Attribute o m apos) (e :: es) [] pos) X.env = (do
      let ov ← eval o X.env
      standAt apos.atName
      let (f, first) ← holding [ov] (getMethod ov m pl)
      callWith pos f first (backTo pos (starEach (e :: es) X.env)) (backToKw pos (keywordEach [] X.env))) := by rfl) :
    PE X (.Call (.Attribute o m apos) (e :: es) [] pos) (fun σ H Q => ta σ H fun x H1 => x = .ref C ∧ t σ H1 fun vs H2 => sp (.ref C :: vs) H2 Q (WE W σ)) := by
  refine ⟨fun pins s σ H Q I h => ?_⟩
  refine PySem.W.methodCall_KW (pl := pl) (thn (he.run pins s σ H _ I h) fun u s1 ⟨x, H1, I1, rx, ex, q⟩ => ?_) ht
  subst ex
  obtain rfl : u = Value.ref C := rx
  refine getmethcm_ok I1 r c fun s2 I2 => ?_
  refine callwith_cm I2 (base_none I1 (Nat.le_refl _)) c.fi (thn (ha.run pos _ s2 σ H1 _ I2 q) fun us s3 ⟨vs, H2, I3, rv, q2⟩ => ⟨⟨pin_at I3, I3.kIn⟩, ?_⟩) hst hpl
  have z := wpAny_call (E := X.xe) (PySem.W.method_call (pin_at I3) (run_fnRS (us := .ref C :: us) (vs := .ref C :: vs) F hr tk I3 (.cons rfl rv) q2))
  exact thn z fun _ _ y => unpinE y
end
end LF

set_option Elab.async false
set_option linter.all false
set_option maxRecDepth 100000
set_option maxHeartbeats 4000000
namespace LF
open PySem PySem.Spec PyProof.Rows L2
/-- a bag of great draws, so many drawn at most -/
def BagN (H : Hp) (b : Addr) (N : Nat) : Prop := ∃ d x n : Int, H b = some (.lst [.int d, .int x, .int n]) ∧ 0 ≤ d ∧ 0 ≤ x ∧ x < 2305843009213693951 ∧ 0 ≤ n ∧ n ≤ N
theorem BagN.same {H H' : Hp} {b : Addr} {N : Nat} (h : BagN H b N) (s : Same H H') : BagN H' b N := by
  obtain ⟨d, x, m, e, r⟩ := h
  exact ⟨d, x, m, s _ _ e, r⟩
theorem BagN.ne {H : Hp} {b D : Addr} {N : Nat} (h : BagN H b N) (hD : H D = none) : D ≠ b := by
  obtain ⟨d, x, m, e, r⟩ := h
  exact Ne.symm (ne_of_none e hD)
theorem BagN.more {H : Hp} {b : Addr} {N M : Nat} (h : BagN H b N) (hm : N ≤ M) : BagN H b M := by
  obtain ⟨d, x, m, e, h1, h2, h3, h4, h5⟩ := h
  exact ⟨d, x, m, e, h1, h2, h3, h4, by omega⟩
def spBagN (K : PySem.W.Frag) : Sp := fun vs H Q _ => ∃ (a : Addr) (at' : Int) (ns : List Int), vs = [.ref a, .int at'] ∧ SqL K H a (ns.map V.int) ∧ 0 ≤ at' ∧
  ∀ H' p, Same H H' → H p = none → BagN H' p 0 → Q (.ref p) H'
def spTakeN : Sp := fun vs H Q _ => ∃ (b : Addr) (m : Int) (N : Nat), vs = [.ref b, .int m] ∧ BagN H b N ∧ N ≤ 1000000 ∧ 1 ≤ m ∧ m < 1000000 ∧
  ∀ H' r, Keep b H H' → BagN H' b (N + 1) → 0 ≤ r → r < m → Q (.int r) H'
end LF
namespace K6
open PySem PySem.Spec PyProof.Rows L2 LF
abbrev s__law_bag : Stmt := topS 52
theorem sc__law_bag : FnScope ["_law_script", "_law_at", "_law_cell", "_law_great", "_law_mixed"] ["_law_script", "_law_at"] (defScope s__law_bag) := ⟨rfl, rfl, rfl, by decide +kernel, rfl, by decide +kernel, by decide +kernel⟩
abbrev s__law_take : Stmt := topS 53
theorem sc__law_take : FnScope ["_law_bag_here", "_law_many", "_law_digit", "_law_mixed"] ["_law_bag_here", "_law_many"] (defScope s__law_take) := ⟨rfl, rfl, rfl, by decide +kernel, rfl, by decide +kernel, by decide +kernel⟩
section
variable {P : Program} {w : World} {K : PySem.W.Frag} {mg : Str → Option Value} {base : Heap} {tk1 tk2 : Tok}
theorem ok_bag {f : Addr} {fd : FuncData} (F : Fun K "_law_bag" "_law_bag" s__law_bag f fd) (T : Txt K mg tk1 tk2) : FnOk P w K mg base CX0 1 f fd ["_law_script", "_law_at"] (spBagN K) := by
  refine F.ok sc__law_bag (fun vs H Q E h => ?_) (fun cdv A outer s H vs Q E hr h => ?_)
  · obtain ⟨a, at', ns, rfl, _⟩ := h
    rfl
  refine ⟨_, (pss_cons (ps_set (i := 2) sc__law_bag.nd rfl (Or.inl rfl) (pe_ifExp (pt_cmpR op_lt (pv 1) (pe_callB call_len_seq (by rfl) T.n_len (by decide +kernel) (pa_cons (pv 0) pa_nil)) (nomark _)) (pe_ix ix_list (pv 0) (pv 1) (fun _ _ => rfl)) pe_int))
    (pss_cons (ps_set (i := 3) sc__law_bag.nd rfl (Or.inl rfl) (pe_ifExp (pt_cmpR op_ge (pe_callB call_abs (by rfl) T.n_abs (by decide +kernel) (pa_cons (pv 2) pa_nil)) (pe_op op_pow pe_int pe_int) (nomark _)) (pe_callB call_abs (by rfl) T.n_abs (by decide +kernel) (pa_cons (pv 2) pa_nil)) pe_int))
    (pss_cons (ps_set (i := 4) sc__law_bag.nd rfl (Or.inl rfl) (pe_op op_add (pe_op op_add (pe_op op_mul (pe_op op_mod (pe_callTy call_int1 (by rfl) T.n_int (by decide +kernel) (pa_cons (pv 2) pa_nil)) pe_int) pe_int) (pe_op op_mul pe_int (pv 1))) pe_int))
    (pss_one (ps_ret (pe_lst (pa_cons (pv 3) (pa_cons (pe_op op_mod (pe_callTy call_int1 (by rfl) T.n_int (by decide +kernel) (pa_cons (pv 4) pa_nil)) pe_int) (pa_cons pe_int pa_nil))))))))), ?_⟩
  obtain ⟨a, at', ns, rfl, hS, hat, hq⟩ := h
  have absNN : ∀ c : Int, 0 ≤ (if c < 0 then -c else c) := fun c => by split <;> omega
  refine ⟨_, rfl, _, rfl, a, _, rfl, Or.inl hS, _, _, rfl, rfl, _, rfl, ?_⟩
  refine ifD (fun h1 => ?_) (fun h1 => ?_)
  · rw [List.length_map] at h1
    have h2 : at'.toNat < ns.length := by omega
    have hix : atI (ns.map V.int) at' = some (.int ns[at'.toNat]) := by
      have e : at' = ((at'.toNat : Nat) : Int) := by omega
      have z := atI_nat (xs := ns.map V.int) (j := at'.toNat) (v := .int ns[at'.toNat]) (by rw [List.getElem?_map, List.getElem?_eq_getElem h2]; rfl)
      rw [← e] at z
      exact z
    refine ⟨_, rfl, _, rfl, a, _, _, .int ns[at'.toNat], rfl, rfl, hS, hix, ?_⟩
    refine ⟨_, rfl, _, rfl, _, _, rfl, rfl, ⟨by decide, by decide, by decide⟩, _, _, rfl, rfl, _, rfl, ?_⟩
    refine ifD (fun _ => ?_) (fun _ => ?_)
    · refine ⟨_, rfl, _, rfl, ?_⟩
      refine ⟨_, rfl, Or.inl ⟨_, rfl, ?_⟩⟩
      refine ⟨_, _, rfl, rfl, (by show (0 : Int) < 2305843009213693951; decide), ?_⟩
      refine ⟨_, _, rfl, rfl, Or.inr ⟨by decide, by decide⟩, ?_⟩
      refine ⟨_, rfl, _, _, rfl, rfl, Or.inl ⟨by decide, by decide⟩, ?_⟩
      refine ⟨_, _, rfl, rfl, _, _, rfl, rfl, ?_⟩
      refine ⟨_, rfl, _, rfl, Or.inl ⟨_, rfl, _, _, rfl, rfl, (by show (0 : Int) < 2305843009213693951; decide), ?_⟩⟩
      exact ⟨(by show 3 ≤ sizeLine; decide), fun p hp => hq _ p (same_new hp) hp ⟨_, _, 0, upd_same, by first | exact absNN _ | exact Int.le_refl 0, Int.emod_nonneg _ (by decide), Int.emod_lt_of_pos _ (by decide), by decide, by decide⟩⟩
    · refine ⟨_, rfl, Or.inl ⟨_, rfl, ?_⟩⟩
      refine ⟨_, _, rfl, rfl, (by show (0 : Int) < 2305843009213693951; decide), ?_⟩
      refine ⟨_, _, rfl, rfl, Or.inr ⟨by decide, by decide⟩, ?_⟩
      refine ⟨_, rfl, _, _, rfl, rfl, Or.inl ⟨by decide, by decide⟩, ?_⟩
      refine ⟨_, _, rfl, rfl, _, _, rfl, rfl, ?_⟩
      refine ⟨_, rfl, _, rfl, Or.inl ⟨_, rfl, _, _, rfl, rfl, (by show (0 : Int) < 2305843009213693951; decide), ?_⟩⟩
      exact ⟨(by show 3 ≤ sizeLine; decide), fun p hp => hq _ p (same_new hp) hp ⟨_, _, 0, upd_same, by first | exact absNN _ | exact Int.le_refl 0, Int.emod_nonneg _ (by decide), Int.emod_lt_of_pos _ (by decide), by decide, by decide⟩⟩
  · refine ⟨_, rfl, _, rfl, _, _, rfl, rfl, ⟨by decide, by decide, by decide⟩, _, _, rfl, rfl, _, rfl, ?_⟩
    refine ifD (fun _ => ?_) (fun _ => ?_)
    · refine ⟨_, rfl, _, rfl, ?_⟩
      refine ⟨_, rfl, Or.inl ⟨_, rfl, ?_⟩⟩
      refine ⟨_, _, rfl, rfl, (by show (0 : Int) < 2305843009213693951; decide), ?_⟩
      refine ⟨_, _, rfl, rfl, Or.inr ⟨by decide, by decide⟩, ?_⟩
      refine ⟨_, rfl, _, _, rfl, rfl, Or.inl ⟨by decide, by decide⟩, ?_⟩
      refine ⟨_, _, rfl, rfl, _, _, rfl, rfl, ?_⟩
      refine ⟨_, rfl, _, rfl, Or.inl ⟨_, rfl, _, _, rfl, rfl, (by show (0 : Int) < 2305843009213693951; decide), ?_⟩⟩
      exact ⟨(by show 3 ≤ sizeLine; decide), fun p hp => hq _ p (same_new hp) hp ⟨_, _, 0, upd_same, by first | exact absNN _ | exact Int.le_refl 0, Int.emod_nonneg _ (by decide), Int.emod_lt_of_pos _ (by decide), by decide, by decide⟩⟩
    · refine ⟨_, rfl, Or.inl ⟨_, rfl, ?_⟩⟩
      refine ⟨_, _, rfl, rfl, (by show (0 : Int) < 2305843009213693951; decide), ?_⟩
      refine ⟨_, _, rfl, rfl, Or.inr ⟨by decide, by decide⟩, ?_⟩
      refine ⟨_, rfl, _, _, rfl, rfl, Or.inl ⟨by decide, by decide⟩, ?_⟩
      refine ⟨_, _, rfl, rfl, _, _, rfl, rfl, ?_⟩
      refine ⟨_, rfl, _, rfl, Or.inl ⟨_, rfl, _, _, rfl, rfl, (by show (0 : Int) < 2305843009213693951; decide), ?_⟩⟩
      exact ⟨(by show 3 ≤ sizeLine; decide), fun p hp => hq _ p (same_new hp) hp ⟨_, _, 0, upd_same, by first | exact absNN _ | exact Int.le_refl 0, Int.emod_nonneg _ (by decide), Int.emod_lt_of_pos _ (by decide), by decide, by decide⟩⟩
theorem ok_take {f : Addr} {fd : FuncData} (F : Fun K "_law_take" "_law_take" s__law_take f fd) (T : Txt K mg tk1 tk2) : FnOk P w K mg base CX0 1 f fd ["_law_bag_here", "_law_many"] spTakeN := by
  refine F.ok sc__law_take (fun vs H Q E h => ?_) (fun cdv A outer s H vs Q E hr h => ?_)
  · obtain ⟨b, m, N, rfl, _⟩ := h
    rfl
  refine ⟨_, (pss_cons (ps_if (pt_cmpR op_gt (pe_ix ix_list (pv 0) pe_int (fun _ _ => rfl)) pe_int (nomark _)) (pss_cons (ps_set (i := 2) sc__law_take.nd rfl (Or.inl rfl) (pe_op op_mod (pe_callTy call_int1 (by rfl) T.n_int (by decide +kernel) (pa_cons (pe_ix ix_list (pv 0) pe_int (fun _ _ => rfl)) pa_nil)) (pv 1)))
    (pss_cons (ps_asg (pe_op op_fdiv (pe_ix ix_list (pv 0) pe_int (fun _ _ => rfl)) (pv 1)) (pg_sub (pv 0) pe_int set_list))
    (pss_one (ps_ret (pv 2))))) pss_nil)
    (pss_cons (ps_asg (pe_op op_add (pe_ix ix_list (pv 0) pe_int (fun _ _ => rfl)) pe_int) (pg_sub (pv 0) pe_int set_list))
    (pss_cons (ps_set (i := 3) sc__law_take.nd rfl (Or.inl rfl) (pe_op op_mod (pe_callTy call_int1 (by rfl) T.n_int (by decide +kernel) (pa_cons (pe_op op_pow (pe_op op_add (pe_ix ix_list (pv 0) pe_int (fun _ _ => rfl)) (pe_op op_mul pe_int (pe_ix ix_list (pv 0) pe_int (fun _ _ => rfl)))) pe_int) pa_nil)) pe_int))
    (pss_cons (ps_set (i := 3) sc__law_take.nd rfl (Or.inl rfl) (pe_op op_mod (pe_callTy call_int1 (by rfl) T.n_int (by decide +kernel) (pa_cons (pe_op op_pow (pe_op op_add (pv 3) (pe_op op_mul pe_int (pe_ix ix_list (pv 0) pe_int (fun _ _ => rfl)))) pe_int) pa_nil)) pe_int))
    (pss_one (ps_ret (pe_op op_mod (pe_callTy call_int1 (by rfl) T.n_int (by decide +kernel) (pa_cons (pe_op op_fdiv (pv 3) pe_int) pa_nil)) (pv 1)))))))), ?_⟩
  obtain ⟨b, m, N, rfl, ⟨d, x, n, hb, hd, hx0, hx1, hn0, hn1⟩, hN, hm1, hm2, hq⟩ := h
  refine ⟨_, rfl, b, _, _, _, rfl, rfl, SqL.of hb, rfl, _, _, rfl, rfl, _, rfl, ?_⟩
  refine ifD (fun h1 => ?_) (fun h1 => ?_)
  · refine ⟨_, rfl, b, _, _, _, rfl, rfl, SqL.of hb, rfl, Or.inl ⟨_, rfl, ?_⟩⟩
    refine ⟨_, rfl, _, _, rfl, rfl, (by show (0 : Int) < m; omega), ?_⟩
    refine ⟨_, rfl, b, _, _, _, rfl, rfl, SqL.of hb, rfl, _, rfl, _, _, rfl, rfl, ⟨by show (0 : Int) < m; omega, by show m < 1073741824; omega⟩, ?_⟩
    refine ⟨_, rfl, b, _, _, _, rfl, rfl, hb, rfl, ?_⟩
    refine ⟨_, rfl, ?_⟩
    refine hq _ _ (keep_put (Keep.refl b H)) ⟨d / m, x, n, upd_same, ?_, hx0, hx1, hn0, by omega⟩ (Int.emod_nonneg _ (by omega)) (Int.emod_lt_of_pos _ (by omega))
    exact Int.ediv_nonneg hd (by omega)
  · refine ⟨_, rfl, b, _, _, _, rfl, rfl, SqL.of hb, rfl, _, _, rfl, rfl, ?_⟩
    refine ⟨_, rfl, b, _, _, _, rfl, rfl, hb, rfl, ?_⟩
    refine ⟨_, rfl, b, _, _, _, rfl, rfl, SqL.of upd_same, rfl, _, rfl, b, _, _, _, rfl, rfl, SqL.of upd_same, rfl, _, _, rfl, rfl, Or.inl ⟨by decide, by decide⟩, ?_⟩
    have p64 : (2 : Nat) ^ 64 = 18446744073709551616 := by decide
    refine ⟨_, _, rfl, rfl, _, _, rfl, rfl, ⟨by decide, by decide, ?_⟩, Or.inl ⟨_, rfl, ?_⟩⟩
    · show (x + 1000037 * (n + 1)).natAbs < 2 ^ 64
      omega
    refine ⟨_, _, rfl, rfl, (by show (0 : Int) < 2305843009213693921; decide), ?_⟩
    have n1 := Int.emod_nonneg ((x + 1000037 * (n + 1)) ^ (3 : Int).toNat) (show (2305843009213693921 : Int) ≠ 0 by decide)
    have n2 := Int.emod_lt_of_pos ((x + 1000037 * (n + 1)) ^ (3 : Int).toNat) (show (0 : Int) < 2305843009213693921 by decide)
    generalize hy : ((x + 1000037 * (n + 1)) ^ (3 : Int).toNat) % 2305843009213693921 = y at n1 n2
    refine ⟨_, rfl, _, rfl, b, _, _, _, rfl, rfl, SqL.of upd_same, rfl, _, _, rfl, rfl, Or.inl ⟨by decide, by decide⟩, ?_⟩
    refine ⟨_, _, rfl, rfl, _, _, rfl, rfl, ⟨by decide, by decide, ?_⟩, Or.inl ⟨_, rfl, ?_⟩⟩
    · show (((x + 1000037 * (n + 1)) ^ (3 : Int).toNat) % 2305843009213693921 + 179424691 * (n + 1)).natAbs < 2 ^ 64
      rw [hy]
      omega
    refine ⟨_, _, rfl, rfl, (by show (0 : Int) < 2305843009213693951; decide), ?_⟩
    refine ⟨_, rfl, _, _, rfl, rfl, ⟨by decide, by decide⟩, Or.inl ⟨_, rfl, ?_⟩⟩
    refine ⟨_, rfl, _, _, rfl, rfl, (by show (0 : Int) < m; omega), ?_⟩
    exact hq _ _ (keep_put (Keep.refl b H)) ⟨_, _, _, upd_same, hd, hx0, hx1, by omega, by omega⟩ (Int.emod_nonneg _ (by omega)) (Int.emod_lt_of_pos _ (by omega))
end
end K6

set_option Elab.async false
set_option linter.all false
set_option maxRecDepth 100000
set_option maxHeartbeats 4000000
namespace LF
open PySem PySem.Spec PyProof.Rows L2 TL K6
theorem lt_trans {a b c : PyData} (h1 : PySem.W.dataLt a b = true) (h2 : PySem.W.dataLt b c = true) : PySem.W.dataLt a c = true := PyProof.Rows.lex_trans _ _ _ h1 h2
theorem lt_irrefl (a : PyData) : PySem.W.dataLt a a = false := PyProof.Rows.lex_irrefl _
theorem lt_le {a b : Str} (h : PySem.W.dataLt (keyD a) (keyD b) = true) : PySem.W.dataLe false keyD a b = true := by
  rw [PySem.W.dataLe_eq]
  show (!PySem.W.dataLt (keyD b) (keyD a)) = true
  cases hb : PySem.W.dataLt (keyD b) (keyD a) with
  | false => rfl
  | true => exact absurd (lt_trans h hb) (by rw [lt_irrefl]; exact Bool.false_ne_true)
theorem lt_ne {a b : Str} (h : PySem.W.dataLt (keyD a) (keyD b) = true) : a ≠ b := fun e => by
  rw [e, lt_irrefl] at h
  exact Bool.false_ne_true h
theorem val_lt : ∀ (cs : List Nat) (acc : Nat), (∀ c ∈ cs, c ≤ 57) → cs.foldl (fun acc c => acc * 10 + (c - 48)) acc < (acc + 1) * 10 ^ cs.length
  | [], acc, _ => by simp
  | c :: cs, acc, h => by
    have hc := h c List.mem_cons_self
    have ih := val_lt cs (acc * 10 + (c - 48)) fun x hx => h x (List.mem_cons_of_mem _ hx)
    rw [List.foldl_cons, List.length_cons, Nat.pow_succ]
    refine Nat.lt_of_lt_of_le ih ?_
    have h1 : acc * 10 + (c - 48) + 1 ≤ (acc + 1) * 10 := by omega
    calc (acc * 10 + (c - 48) + 1) * 10 ^ cs.length ≤ ((acc + 1) * 10) * 10 ^ cs.length := Nat.mul_le_mul_right _ h1
      _ = (acc + 1) * (10 ^ cs.length * 10) := by rw [Nat.mul_assoc, Nat.mul_comm 10]
theorem digitsVal_lt {cs : List Nat} (h : NumText.AllDigits cs) (hl : cs.length ≤ 12) : NumText.digitsVal cs ≤ 999999999999 := by
  have h1 := val_lt cs 0 fun c hc => (h c hc).2
  have h2 : (10 : Nat) ^ cs.length ≤ 10 ^ 12 := Nat.pow_le_pow_right (by decide) hl
  have h3 : (10 : Nat) ^ 12 = 1000000000000 := by decide
  unfold NumText.digitsVal
  omega
theorem contentS_le {z : Str} {n : Int} (h : contentS z = some (some n)) : n.natAbs ≤ 999999999999 := by
  unfold contentS at h
  have em : ("-" : Str) = ⟨#[45]⟩ := by decide +kernel
  have er := StrLaws.removeprefix_eq z "-"
  generalize hd : PySem.Txt.removeprefix z "-" = d at h er
  simp only at h
  by_cases h1 : 1000000 < d.length
  · rw [if_pos h1] at h; cases h
  rw [if_neg h1] at h
  by_cases h2 : 12 < d.length ∨ d = ""
  · rw [if_pos h2] at h; cases h
  rw [if_neg h2] at h
  by_cases h3 : (d.cps.toList.map fun c => decide (c ∈ digs.cps.toList)).all id = true
  · rw [if_pos h3] at h
    have hall : NumText.AllDigits d.cps.toList := fun c hc => by
      rw [List.all_eq_true] at h3
      have h4 := h3 (decide (c ∈ digs.cps.toList)) (List.mem_map.mpr ⟨c, hc, rfl⟩)
      have h5 : c ∈ digs.cps.toList := of_decide_eq_true h4
      have h6 : ∀ x ∈ digs.cps.toList, 48 ≤ x ∧ x ≤ 57 := by decide +kernel
      exact h6 c h5
    have hl : d.cps.toList.length ≤ 12 := by
      have e : d.cps.toList.length = d.length := by simp [Str.length]
      omega
    have hne : d.cps.toList ≠ [] := fun e => h2 (Or.inr (ext_tl e))
    have hb := digitsVal_lt hall hl
    cases hi : PySem.intText? z with
    | none => rw [hi] at h; cases h
    | some m =>
      rw [hi] at h
      simp only at h
      have hmn : m = n := by
        by_cases h5 : z.length ≤ 640 ∧ m.natAbs.log2 < 1920
        · rw [if_pos h5] at h
          by_cases h6 : Str.ofString (toString m) = z
          · rw [if_pos h6] at h; cases h; rfl
          · rw [if_neg h6] at h; cases h
        · rw [if_neg h5] at h; cases h
      have hz : z.length ≤ 4300 := by
        by_cases h5 : z.length ≤ 640 ∧ m.natAbs.log2 < 1920
        · omega
        · rw [if_neg h5] at h; cases h
      subst hmn
      by_cases hp : (decide (0 + ("-" : Str).length ≤ z.length) && Builtin.Str.subAt z "-" 0) = true
      · rw [if_pos hp] at er
        rw [Bool.and_eq_true, decide_eq_true_eq, em] at hp
        have h0 := (StrLaws.subAt_one z 45 0).mp hp
        have l1 : ("-" : Str).length = 1 := by decide +kernel
        rw [l1] at er
        have ez : z.cps.toList = 45 :: d.cps.toList := by
          have e1 : d.cps.toList = z.cps.toList.drop 1 := by
            rw [er]
            have e2 : z.cps.toList.length = z.length := by simp [Str.length]
            show (z.cps.toList.drop 1).take (z.length - 1) = _
            exact List.take_of_length_le (by rw [List.length_drop]; omega)
          rw [e1]
          cases hzl : z.cps.toList with
          | nil => rw [hzl] at h0; cases h0
          | cons a l => rw [hzl] at h0; cases h0; rfl
        rw [PySem.intText_neg ez hall hne hz] at hi
        cases hi
        omega
      · rw [if_neg hp] at er
        subst er
        rw [PySem.intText_digits hall hne hz] at hi
        cases hi
        omega
  · rw [if_neg h3] at h; cases h
end LF

set_option Elab.async false
set_option linter.all false
set_option maxRecDepth 100000
set_option maxHeartbeats 4000000
namespace LF
open PySem PySem.Spec PyProof.Rows L2 TL K6
theorem joinL_snoc (n : List Nat) : ∀ (l : List (List Nat)), l ≠ [] → joinL [47] (l ++ [n]) = joinL [47] l ++ 47 :: n
  | [], h => absurd rfl h
  | [p], _ => rfl
  | p :: q :: r, _ => by
    show p ++ ([47] ++ joinL [47] ((q :: r) ++ [n])) = (p ++ ([47] ++ joinL [47] (q :: r))) ++ 47 :: n
    rw [joinL_snoc n (q :: r) (by simp)]
    simp [List.append_assoc]
theorem join_snoc {init : List Str} (n : Str) (hne : init ≠ []) : tl (PySem.Txt.join c_sl (init ++ [n])) = tl (PySem.Txt.join c_sl init) ++ 47 :: tl n := by
  rw [join_eq, join_eq, tl_join, tl_join, tl_sl, List.map_append]
  exact joinL_snoc (tl n) _ (by simpa using hne)
theorem at_mem {x : Str} {i : Nat} (h : StrLaws.At x c_sl x.length i) : 47 ∈ (tl x).drop i := by
  have h1 := (at_iff (by rw [tl_sl]; simp) i).mp h
  rw [tl_sl] at h1
  have h2 : ((tl x).drop i).take 1 = [47] := eq_of_beq h1
  exact List.mem_of_mem_take (by rw [h2]; exact List.mem_singleton_self _)
/-- a path's parent -/
theorem rpart_join {ns : List Str} (hne : ns ≠ []) (h : ∀ n ∈ ns, isNm n = true) : (PySem.Txt.rpartition (PySem.Txt.join c_sl ns) c_sl).1 = PySem.Txt.join c_sl ns.dropLast := by
  obtain ⟨init, n, rfl⟩ : ∃ init n, ns = init ++ [n] := ⟨ns.dropLast, ns.getLast hne, (List.dropLast_concat_getLast hne).symm⟩
  have hn : 47 ∉ tl n := isNm_sl (h n (by simp))
  rw [List.dropLast_concat]
  unfold PySem.Txt.rpartition
  by_cases hi : init = []
  · subst hi
    have e : PySem.Txt.join c_sl ([] ++ [n]) = n := by
      apply ext_tl
      rw [join_eq, tl_join]; rfl
    rw [e, join_nil0]
    rcases StrLaws.last_spec n c_sl with ⟨h1, _⟩ | ⟨i, h1, h2, _⟩
    · rw [h1]; rfl
    · exact absurd (List.mem_of_mem_drop (at_mem h2)) hn
  · have et := join_snoc n hi
    generalize hx : PySem.Txt.join c_sl (init ++ [n]) = x at et
    generalize hy : PySem.Txt.join c_sl init = y at et
    have hat : StrLaws.At x c_sl x.length (tl y).length := by
      refine (at_iff (by rw [tl_sl]; simp) _).mpr ?_
      rw [et, tl_sl, List.drop_left]
      rfl
    rcases StrLaws.last_spec x c_sl with ⟨_, h2⟩ | ⟨i, h1, h2, h3⟩
    · exact absurd hat (h2 _)
    · have hle : (tl y).length ≤ i := Nat.le_of_not_lt fun q => h3 _ q hat
      have hie : i = (tl y).length := by
        refine Nat.le_antisymm (Nat.le_of_not_lt fun q => ?_) hle
        have hm := at_mem h2
        have e : i = (tl y).length + (1 + (i - (tl y).length - 1)) := by omega
        rw [et, e, ← List.drop_drop, List.drop_left, ← List.drop_drop] at hm
        exact hn (List.mem_of_mem_drop hm)
      rw [h1]
      show Builtin.Str.strSub x 0 i = y
      apply ext_tl
      rw [tl_strSub, hie, List.drop_zero, Nat.sub_zero, et, List.take_left]
end LF

set_option Elab.async false
set_option linter.all false
set_option maxRecDepth 100000
set_option maxHeartbeats 4000000
namespace K6
open PySem PySem.Spec PyProof.Rows L2 LF
theorem join_parts {z : Str} (h : ¬ z = "") : PySem.Txt.join c_sl (parts z) = z := by
  unfold parts
  rw [if_neg h]
  rw [TL.join_eq]
  exact PySem.StrLaws.join_split _ _
theorem isPl_names {z : Str} (h : isPl z = true) : ∃ ns : List Str, z = PySem.Txt.join c_sl ns ∧ (∀ s ∈ ns, isNm s = true) ∧ parts z = ns ∧ 1 ≤ ns.length ∧ ns.length ≤ 10 := by
  obtain ⟨h1, h2, h3⟩ := isPl_parts h
  exact ⟨parts z, (join_parts (isPl_pt h).2).symm, h1, rfl, h2, h3⟩
theorem begs_up {p : Str} (h : isPl p = true) : (parentS p = "" ∧ begs p = []) ∨ (¬ parentS p = "" ∧ isPl (parentS p) = true ∧ begs p = begs (parentS p) ++ [parentS p]) := by
  obtain ⟨ns, rfl, hn, hp, h1, h2⟩ := isPl_names h
  have hne : ns ≠ [] := fun e => by rw [e] at h1; exact absurd h1 (by decide)
  have hpar : parentS (PySem.Txt.join c_sl ns) = PySem.Txt.join c_sl ns.dropLast := rpart_join hne hn
  have hd : ∀ s ∈ ns.dropLast, isNm s = true := fun s hs => hn s (List.dropLast_subset ns hs)
  have hpd := parts_join hd
  have hdl : ns.dropLast.length = ns.length - 1 := List.length_dropLast
  rw [hpar]
  by_cases hz : ns.dropLast = []
  · refine Or.inl ⟨by rw [hz, join_nil0], ?_⟩
    have h3 : ns.length = 1 := by
      rw [hz] at hdl
      have : ns.length - 1 = 0 := hdl.symm
      omega
    unfold begs
    rw [hp, h3]; rfl
  · have h4 : 1 ≤ ns.dropLast.length := List.length_pos_iff.mpr hz
    have h5 := join_ne hz hd
    refine Or.inr ⟨h5, ?_, ?_⟩
    · unfold isPl
      rw [isPt_join hd, hpd, Bool.true_and]
      exact decide_eq_true ⟨h4, by omega⟩
    · unfold begs
      rw [hp, hpd, hdl]
      have e : ns.length - 1 = (ns.length - 1 - 1) + 1 := by omega
      rw [e, List.range_succ, List.map_append]
      have e2 : ns.length - 1 - 1 + 1 - 1 = ns.length - 1 - 1 := by omega
      rw [e2]
      congr 1
      · refine List.map_congr_left fun i hi => ?_
        have hi2 := List.mem_range.mp hi
        congr 1
        rw [List.dropLast_eq_take, List.take_take]
        congr 1
        omega
      · simp only [List.map_cons, List.map_nil]
        congr 1
        rw [List.dropLast_eq_take]
        congr 2
        omega
theorem kv_app (a b : List (Str × V)) : kv (a ++ b) = kv a ++ kv b := by unfold kv; exact List.map_append
theorem val_app {es : List (Str × V)} {k : Key} {v : V} (r : List (Str × V)) (h : valV (kv es) k = some v) : valV (kv (es ++ r)) k = some v := by
  rw [kv_app]
  unfold valV at h ⊢
  rw [List.find?_append]
  cases hf : (kv es).find? fun q => decide (q.1 = k) with
  | none => rw [hf] at h; cases h
  | some q => rw [hf] at h; exact h
theorem val_in {es : List (Str × V)} {p : Str} {v : V} (h : valV (kv es) (.inr p) = some v) : (p, v) ∈ es := by
  unfold valV kv at h
  rw [List.find?_map] at h
  cases hf : es.find? ((fun q : Key × V => decide (q.1 = Sum.inr p)) ∘ fun e => (.inr e.1, e.2)) with
  | none => rw [hf] at h; cases h
  | some q =>
    rw [hf] at h
    have h1 := List.find?_some hf
    have h2 := List.mem_of_find?_eq_some hf
    have h3 : (Sum.inr q.1 : Key) = Sum.inr p := of_decide_eq_true h1
    have h4 : q.1 = p := Sum.inr.inj h3
    have h5 : q.2 = v := Option.some.inj h
    rw [← h4, ← h5]
    exact h2
theorem put_new {es : List (Str × V)} {p : Str} {v : V} (h : ∀ e ∈ es, e.1 ≠ p) : putK (kv es) (.inr p) v = kv (es ++ [(p, v)]) := by
  unfold putK
  have e : ((kv es).any fun q => decide (q.1 = (.inr p : Key))) = false := by
    rw [List.any_eq_false]
    intro q hq
    unfold kv at hq
    obtain ⟨e, he, rfl⟩ := List.mem_map.mp hq
    exact fun hd => h e he (Sum.inr.inj (of_decide_eq_true hd))
  rw [e, if_neg Bool.false_ne_true, kv_app]; rfl
theorem entryS_it {z p : Str} {v : V} (hz : z.length ≤ 1000000) (h : entryS z = some (some (p, v))) : Plain v ∧ itemV v = true := by
  unfold entryS at h
  have hws : ∀ s ∈ PySem.Txt.split z " ", s.length ≤ z.length := fun s hs => part_short hs
  generalize PySem.Txt.split z " " = ws at h hws
  cases ws with
  | nil => cases h
  | cons w0 rest =>
    simp only at h
    cases hp : isPl w0 with
    | false => rw [hp, if_neg Bool.false_ne_true] at h; cases h
    | true =>
      rw [hp, if_pos rfl] at h
      by_cases h1 : rest = [("folder" : Str)]
      · rw [if_pos h1] at h; cases h; exact ⟨Or.inl rfl, rfl⟩
      · rw [if_neg h1] at h
        match rest, h, hws with
        | [], h, _ => cases h
        | [a], h, _ => cases h
        | a :: b :: c :: l, h, _ => cases h
        | [a, b], h, hws =>
          simp only at h
          by_cases h2 : a = "file"
          · rw [if_pos h2] at h
            cases hc : contentS b with
            | none => rw [hc] at h; cases h
            | some o => rw [hc] at h; cases o with
              | none => cases h
              | some n =>
                cases h
                have hle := contentS_le hc
                refine ⟨Or.inr (Or.inl ⟨n, rfl⟩), ?_⟩
                show (decide ((if n < 0 then -n else n) ≤ 999999999999) || false) = true
                rw [decide_eq_true (by split <;> omega)]; rfl
          · rw [if_neg h2] at h
            by_cases h3 : a = "to"
            · rw [if_pos h3] at h
              cases hc : targetS b with
              | none => rw [hc] at h; cases h
              | some t =>
                rw [hc] at h
                cases h
                have hb := hws b (by simp)
                unfold targetS at hc
                by_cases h4 : b = "."
                · rw [if_pos h4] at hc
                  cases hc
                  exact ⟨Or.inr (Or.inr ⟨_, rfl, by decide +kernel⟩), by decide +kernel⟩
                · rw [if_neg h4] at hc
                  by_cases h5 : b = ""
                  · rw [if_pos h5] at hc; cases hc
                  · rw [if_neg h5] at hc
                    by_cases h6 : isTg b = true
                    · rw [if_pos h6] at hc
                      cases hc
                      refine ⟨Or.inr (Or.inr ⟨_, rfl, by omega⟩), ?_⟩
                      show (false || isTg b) = true
                      rw [h6]; rfl
                    · rw [if_neg h6] at hc; cases hc
            · rw [if_neg h3] at h; cases h
/-- the entries read so far: all are at or before the last path -/
structure Got (es : List (Str × V)) (last : Str) : Prop where
  pl : ∀ e ∈ es, isPl e.1 = true ∧ e.1.length ≤ 1000000
  it : ∀ e ∈ es, Plain e.2 ∧ itemV e.2 = true
  up : ∀ e ∈ es, ∀ s ∈ begs e.1, valV (kv es) (.inr s) = some .non
  lt : (es.map (·.1)).Pairwise fun a b => PySem.W.dataLt (keyD a) (keyD b) = true
  to : ∀ e ∈ es, e.1 = last ∨ PySem.W.dataLt (keyD e.1) (keyD last) = true
theorem Got.nil : Got [] "" := ⟨fun e h => (nomatch h), fun e h => (nomatch h), fun e h => (nomatch h), List.Pairwise.nil, fun e h => (nomatch h)⟩
theorem Got.okE {es : List (Str × V)} {last : Str} (g : Got es last) (hl : es.length ≤ 1000000) : OkE es :=
  ⟨g.pl, g.it, g.up, g.lt.imp fun h => lt_le h, g.lt.imp fun h => lt_ne h, hl⟩
theorem Got.next {es : List (Str × V)} {last p : Str} {v : V} (g : Got es last) (hp : isPl p = true) (hl : p.length ≤ 1000000) (hv : Plain v ∧ itemV v = true) (hc : contS (kv es) last p = true) :
    putK (kv es) (.inr p) v = kv (es ++ [(p, v)]) ∧ Got (es ++ [(p, v)]) p := by
  unfold contS at hc
  rw [Bool.and_eq_true, Bool.or_eq_true, decide_eq_true_eq] at hc
  obtain ⟨h1, h2⟩ := hc
  have hall : ∀ e ∈ es, PySem.W.dataLt (keyD e.1) (keyD p) = true := fun e he => by
    rcases g.to e he with h | h
    · rw [h]; exact h1
    · exact lt_trans h h1
  have hval : valV (kv es) (.inr (parentS p)) = some .non → valV (kv (es ++ [(p, v)])) (.inr (parentS p)) = some .non := val_app _
  refine ⟨put_new fun e he => lt_ne (hall e he), fun e he => ?_, fun e he => ?_, fun e he s hs => ?_, ?_, fun e he => ?_⟩
  · rcases List.mem_append.mp he with h | h
    · exact g.pl e h
    · rw [List.mem_singleton.mp h]; exact ⟨hp, hl⟩
  · rcases List.mem_append.mp he with h | h
    · exact g.it e h
    · rw [List.mem_singleton.mp h]; exact hv
  · rcases List.mem_append.mp he with h | h
    · exact val_app _ (g.up e h s hs)
    · rw [List.mem_singleton.mp h] at hs
      rcases begs_up hp with ⟨_, hb⟩ | ⟨hne, hpl, hb⟩
      · rw [hb] at hs; cases hs
      · have hpv : valV (kv es) (.inr (parentS p)) = some .non := by
          rcases h2 with h2 | h2
          · exact absurd h2 hne
          · simpa using h2
        rw [hb] at hs
        rcases List.mem_append.mp hs with hs | hs
        · exact val_app _ (g.up _ (val_in hpv) s hs)
        · rw [List.mem_singleton.mp hs]; exact val_app _ hpv
  · rw [List.map_append, List.pairwise_append]
    refine ⟨g.lt, List.pairwise_singleton _ _, fun a ha b hb => ?_⟩
    obtain ⟨e, he, rfl⟩ := List.mem_map.mp ha
    rw [List.map_singleton, List.mem_singleton] at hb
    rw [hb]; exact hall e he
  · rcases List.mem_append.mp he with h | h
    · exact Or.inr (hall e h)
    · rw [List.mem_singleton.mp h]; exact Or.inl rfl
/-- what is read is what a package may have -/
theorem readR_ok : ∀ (rows : List Str) (i : Nat) (es : List (Str × V)) (last : Str) (kvs : List (Key × V)), (∀ r ∈ rows, r.length ≤ 1000000) → Got es last → readR rows i (kv es) last = some (.ok kvs) →
    ∃ es' last', kvs = kv es' ∧ Got es' last' ∧ es'.length = es.length + rows.length
  | [], i, es, last, kvs, hl, g, h => by
    unfold readR at h
    cases h
    exact ⟨es, last, rfl, g, rfl⟩
  | row :: rest, i, es, last, kvs, hl, g, h => by
    unfold readR at h
    have hr := hl row List.mem_cons_self
    cases he : entryS row with
    | none => rw [he] at h; cases h
    | some o =>
      rw [he] at h
      cases o with
      | none => cases h
      | some pv =>
        obtain ⟨p, v⟩ := pv
        simp only at h
        obtain ⟨hp, hpl⟩ := entryS_pl he
        by_cases hc : contS (kv es) last p = true
        · rw [if_pos hc] at h
          obtain ⟨h1, h2⟩ := g.next hp (by omega) (entryS_it hr he) hc
          rw [h1] at h
          obtain ⟨es', last', e1, e2, e3⟩ := readR_ok rest (i + 1) _ p kvs (fun r hr' => hl r (List.mem_cons_of_mem _ hr')) h2 h
          exact ⟨es', last', e1, e2, by rw [e3]; simp only [List.length_append, List.length_cons, List.length_nil]; omega⟩
        · rw [if_neg hc] at h; cases h
theorem kv_len (es : List (Str × V)) : (kv es).length = es.length := by unfold kv; exact List.length_map _
theorem readT_ok {z : Str} {kvs : List (Key × V)} (hz : z.length ≤ 999990) (h : readT z = some (.ok kvs)) : ∃ es, kvs = kv es ∧ OkE es := by
  unfold readT at h
  by_cases h1 : z = ""
  · rw [if_pos h1] at h
    cases h
    exact ⟨[], rfl, Got.nil.okE (by decide)⟩
  · rw [if_neg h1] at h
    have hw := split_le z "\n"
    obtain ⟨es, last, e1, g, e2⟩ := readR_ok (PySem.Txt.split z "\n") 0 [] "" kvs (fun r hr => by have := part_short hr; omega) Got.nil h
    rw [List.length_nil] at e2
    exact ⟨es, e1, g.okE (by omega)⟩
inductive Said where
  | num (n : Nat) | row (i : Nat) | many
deriving DecidableEq
/-- what is said of the entries that were read -/
def saidR : Option (Except Nat (List (Key × V))) → Option Said
  | none => none
  | some (.error i) => some (.row i)
  | some (.ok kvs) => if kvs.length ≤ 40 then some (.num kvs.length) else some .many
/-- what the law's try says of a text -/
def saidS (z : Str) : Option Said := saidR (readT z)
end K6

set_option Elab.async false
set_option linter.all false
set_option maxRecDepth 100000
set_option maxHeartbeats 4000000
namespace LF
open PySem PySem.Spec PyProof.Rows L2
theorem keep_seqL {K : PySem.W.Frag} {H H' : Hp} {b l : Addr} {xs : List V} (k : Keep b H H') (n : l ≠ b) (h : SqL K H l xs) : SqL K H' l xs := by
  rcases h with (h | ⟨o, h⟩) | h
  · exact Or.inl (Or.inl (k _ _ n h))
  · exact Or.inl (Or.inr ⟨o, k _ _ n h⟩)
  · exact Or.inr h
def spPickN (K : PySem.W.Frag) : Sp := fun vs H Q _ => ∃ (b l : Addr) (xs : List V) (N : Nat), vs = [.ref b, .ref l] ∧ BagN H b N ∧ N ≤ 900000 ∧ l ≠ b ∧ SqL K H l xs ∧ 1 ≤ xs.length ∧ xs.length < 1000000 ∧
  ∀ H' v, Keep b H H' → BagN H' b (N + 1) → v ∈ xs → Q v H'
end LF
namespace K6
open PySem PySem.Spec PyProof.Rows L2 LF
def pl1 : List Str := ["a", "b", "c"]
def pl2 : List Str := ["lib", "li", "libs"]
def pl3 : List Str := ["u", "usr", "usrusrus"]
def pl4 : List Str := ["to", "file", "folder"]
def pl5 : List Str := ["own", "none", "ok"]
def pools : List (List Str) := [pl1, pl2, pl3, pl4, pl5]
theorem pools_ok : ∀ ws ∈ pools, ws.length = 3 ∧ ∀ s ∈ ws, isNm s = true := by decide +kernel
/-- a path of so many names at most, drawn from the pool at l -/
def spPathN (K : PySem.W.Frag) : Sp := fun vs H Q _ => ∃ (b l : Addr) (m : Nat) (ws : List Str) (N : Nat), vs = [.ref b, .ref l, .int m] ∧ BagN H b N ∧ N ≤ 800000 ∧ l ≠ b ∧ H l = some (.lst (ws.map V.str)) ∧ 1 ≤ ws.length ∧ ws.length ≤ 100 ∧ 1 ≤ m ∧ m ≤ 100 ∧ (∀ s ∈ ws, s.length ≤ 8) ∧
  ∀ H' (ns : List Str), Keep b H H' → BagN H' b (N + 1 + m) → 1 ≤ ns.length → ns.length ≤ m → (∀ s ∈ ns, s ∈ ws) → Q (.str (PySem.Txt.join c_sl ns)) H'
def spPool : Sp := fun vs H Q _ => ∃ (b : Addr) (N : Nat), vs = [.ref b] ∧ BagN H b N ∧ N ≤ 900000 ∧
  ∀ H' p ws, Keep b H H' → BagN H' b (N + 1) → ws ∈ pools → p ≠ b → H' p = some (.lst (ws.map V.str)) → Q (.ref p) H'
def spStarts : Sp := fun vs H Q _ => ∃ (ns : List Str), vs = [.str (PySem.Txt.join c_sl ns)] ∧ ns ≠ [] ∧ ns.length ≤ 100 ∧ (∀ s ∈ ns, isNm s = true) ∧
  ∀ H' p, Same H H' → H p = none → H' p = some (.lst ((begs (PySem.Txt.join c_sl ns)).map V.str)) → Q (.ref p) H'
/-- the entries with one more, and the folders above it -/
def addE (kvs : List (Key × V)) (ns : List Str) (v : V) : List (Key × V) := putK ((begs (PySem.Txt.join c_sl ns)).foldl (fun k s => putK k (.inr s) .non) kvs) (.inr (PySem.Txt.join c_sl ns)) v
def spAdded : Sp := fun vs H Q _ => ∃ (d : Addr) (kvs : List (Key × V)) (ns : List Str) (v : V), vs = [.ref d, .str (PySem.Txt.join c_sl ns), v] ∧ H d = some (.dK kvs) ∧ kvs.length ≤ 900000 ∧ ns ≠ [] ∧ ns.length ≤ 100 ∧ (∀ s ∈ ns, isNm s = true) ∧
  ∀ H' p, Same H H' → H p = none → H' p = some (.dK (addE kvs ns v)) → Q (.ref p) H'
abbrev s__law_pick : Stmt := topS 54
theorem sc__law_pick : FnScope ["_law_bag_here", "_law_some"] ["_law_bag_here", "_law_some"] (defScope s__law_pick) := ⟨rfl, rfl, rfl, by decide +kernel, rfl, by decide +kernel, by decide +kernel⟩
abbrev s__law_pool : Stmt := topS 55
theorem sc__law_pool : FnScope ["_law_bag_here", "_law_some"] ["_law_bag_here"] (defScope s__law_pool) := ⟨rfl, rfl, rfl, by decide +kernel, rfl, by decide +kernel, by decide +kernel⟩
abbrev s__law_path : Stmt := topS 56
abbrev N__law_path : List Str := ["_law_bag_here", "_law_pool_here", "_law_most", "_law_turn"]
theorem sc__law_path : FnScope ["_law_bag_here", "_law_pool_here", "_law_most", "_law_turn"] ["_law_bag_here", "_law_pool_here", "_law_most"] (defScope s__law_path) := ⟨rfl, rfl, rfl, by decide +kernel, rfl, by decide +kernel, by decide +kernel⟩
abbrev s__law_starts : Stmt := topS 57
abbrev N__law_starts : List Str := ["_law_path_here", "_law_titles", "_law_many"]
theorem sc__law_starts : FnScope ["_law_path_here", "_law_titles", "_law_many"] ["_law_path_here"] (defScope s__law_starts) := ⟨rfl, rfl, rfl, by decide +kernel, rfl, by decide +kernel, by decide +kernel⟩
abbrev s__law_added : Stmt := topS 58
theorem sc__law_added : FnScope ["_law_entries_here", "_law_path_here", "_law_item_here", "_law_made", "_law_start"] ["_law_entries_here", "_law_path_here", "_law_item_here"] (defScope s__law_added) := ⟨rfl, rfl, rfl, by decide +kernel, rfl, by decide +kernel, by decide +kernel⟩
section
variable {P : Program} {w : World} {K : PySem.W.Frag} {mg : Str → Option Value} {base : Heap} {tk1 tk2 : Tok}
theorem ok_pick {f f1 : Addr} {fd fd1 : FuncData} (F : Fun K "_law_pick" "_law_pick" s__law_pick f fd) (T : Txt K mg tk1 tk2) (d_take : DefAt P w K mg base "_law_take" 1 f1 fd1 ["_law_bag_here", "_law_many"] spTakeN) :
    FnOk P w K mg base CX0 2 f fd ["_law_bag_here", "_law_some"] (spPickN K) := by
  refine F.ok sc__law_pick (fun vs H Q E h => ?_) (fun cdv A outer s H vs Q E hr h => ?_)
  · obtain ⟨b, l, xs, N, rfl, _⟩ := h
    rfl
  refine ⟨_, (pss_one (ps_ret (pe_ix ix_list (pv 1) (pe_callD d_take (hr.mono (by decide)) (pa_cons (pv 0) (pa_cons (pe_callB call_len_seq (by rfl) T.n_len (by decide +kernel) (pa_cons (pv 1) pa_nil)) pa_nil))) (fun _ _ => rfl)))), ?_⟩
  obtain ⟨b, l, xs, N, rfl, hb, hN, hlb, hl, h1, h2, hq⟩ := h
  refine ⟨_, rfl, _, rfl, _, rfl, l, _, rfl, Or.inl hl, ?_⟩
  refine ⟨b, _, N, rfl, hb, by omega, by omega, by omega, fun H' r kp bg r0 r1 => ?_⟩
  have hr' : r.toNat < xs.length := by omega
  have e : r = ((r.toNat : Nat) : Int) := by omega
  have z := atI_nat (xs := xs) (j := r.toNat) (v := xs[r.toNat]) (List.getElem?_eq_getElem hr')
  rw [← e] at z
  exact ⟨l, _, _, _, rfl, rfl, keep_seqL kp hlb hl, z, hq H' _ kp bg (List.getElem_mem hr')⟩
theorem ok_pool {f f1 : Addr} {fd fd1 : FuncData} (F : Fun K "_law_pool" "_law_pool" s__law_pool f fd) (d_pick : DefAt P w K mg base "_law_pick" 2 f1 fd1 ["_law_bag_here", "_law_some"] (spPickN K)) :
    FnOk P w K mg base CX0 3 f fd ["_law_bag_here"] spPool := by
  refine F.ok sc__law_pool (fun vs H Q E h => ?_) (fun cdv A outer s H vs Q E hr h => ?_)
  · obtain ⟨b, N, rfl, _⟩ := h
    rfl
  refine ⟨_, (pss_cons (ps_set (i := 1) sc__law_pool.nd rfl (Or.inl rfl) (pe_lst (pa_cons (pe_lst (pa_cons pe_str (pa_cons pe_str (pa_cons pe_str pa_nil)))) (pa_cons (pe_lst (pa_cons pe_str (pa_cons pe_str (pa_cons pe_str pa_nil)))) (pa_cons (pe_lst (pa_cons pe_str (pa_cons pe_str (pa_cons pe_str pa_nil)))) (pa_cons (pe_lst (pa_cons pe_str (pa_cons pe_str (pa_cons pe_str pa_nil)))) pa_nil))))))
    (pss_one (ps_ret (pe_callD d_pick (hr.mono (by decide)) (pa_cons (pv 0) (pa_cons (pe_op op_cat (pv 1) (pe_lst (pa_cons (pe_lst (pa_cons pe_str (pa_cons pe_str (pa_cons pe_str pa_nil)))) pa_nil))) pa_nil)))))), ?_⟩
  obtain ⟨b, N, rfl, hb, hN, hq⟩ := h
  refine ⟨(by show 3 ≤ sizeLine; decide), fun q1 hq1 => ⟨(by show 3 ≤ sizeLine; decide), fun q2 hq2 => ⟨(by show 3 ≤ sizeLine; decide), fun q3 hq3 => ⟨(by show 3 ≤ sizeLine; decide), fun q4 hq4 => ⟨(by show 4 ≤ sizeLine; decide), fun q5 hq5 => ?_⟩⟩⟩⟩⟩
  refine ⟨_, rfl, _, rfl, (by show 3 ≤ sizeLine; decide), fun q6 hq6 => ⟨(by show 1 ≤ sizeLine; decide), fun q7 hq7 => ?_⟩⟩
  have s1 := same_new (o := .lst (pl1.map V.str)) hq1
  have s2 := same_new (o := .lst (pl2.map V.str)) hq2
  have s3 := same_new (o := .lst (pl3.map V.str)) hq3
  have s4 := same_new (o := .lst (pl4.map V.str)) hq4
  have s5 := same_new (o := .lst [.ref q1, .ref q2, .ref q3, .ref q4]) hq5
  have s6 := same_new (o := .lst (pl5.map V.str)) hq6
  have s7 := same_new (o := .lst [.ref q6]) hq7
  have b1 := hb.same s1
  have b2 := b1.same s2
  have b3 := b2.same s3
  have b4 := b3.same s4
  have b5 := b4.same s5
  have b6 := b5.same s6
  have b7 := b6.same s7
  have n1 := hb.ne hq1
  have n2 := b1.ne hq2
  have n3 := b2.ne hq3
  have n4 := b3.ne hq4
  have n6 := b5.ne hq6
  have g1 := s7 _ _ (s6 _ _ (s5 _ _ (s4 _ _ (s3 _ _ (s2 _ _ (upd_same : (upd H q1 (.lst (pl1.map V.str))) q1 = _))))))
  have g2 := s7 _ _ (s6 _ _ (s5 _ _ (s4 _ _ (s3 _ _ (upd_same : (upd (upd H q1 (.lst (pl1.map V.str))) q2 (.lst (pl2.map V.str))) q2 = _)))))
  have g3 := s7 _ _ (s6 _ _ (s5 _ _ (s4 _ _ (upd_same : (upd (upd (upd H q1 (.lst (pl1.map V.str))) q2 (.lst (pl2.map V.str))) q3 (.lst (pl3.map V.str))) q3 = _))))
  have g4 := s7 _ _ (s6 _ _ (s5 _ _ (upd_same : (upd (upd (upd (upd H q1 (.lst (pl1.map V.str))) q2 (.lst (pl2.map V.str))) q3 (.lst (pl3.map V.str))) q4 (.lst (pl4.map V.str))) q4 = _)))
  have S7 := (((((s1.trans s2).trans s3).trans s4).trans s5).trans s6).trans s7
  refine ⟨q5, q7, [.ref q1, .ref q2, .ref q3, .ref q4], [.ref q6], rfl, rfl, s7 _ _ (s6 _ _ upd_same), upd_same, (by show 4 + 1 ≤ sizeLine; decide), fun q8 hq8 => ?_⟩
  have g6 := s7 _ _ (upd_same : (upd _ q6 (.lst (pl5.map V.str))) q6 = _)
  have s8 := same_new (o := .lst ([.ref q1, .ref q2, .ref q3, .ref q4] ++ [.ref q6])) hq8
  have b8 := b7.same s8
  refine ⟨b, q8, _, N, rfl, b8, hN, b7.ne hq8, SqL.of upd_same, (by show 1 ≤ 5; decide), (by show 5 < 1000000; decide), fun H' v kp bg hv => ?_⟩
  have KP : Keep b H H' := (Same.keep (S7.trans s8)).trans kp
  simp only [List.cons_append, List.nil_append, List.mem_cons, List.not_mem_nil, or_false] at hv
  rcases hv with rfl | rfl | rfl | rfl | rfl
  · exact hq H' q1 pl1 KP bg (by simp [pools]) n1 (kp _ _ n1 (s8 _ _ g1))
  · exact hq H' q2 pl2 KP bg (by simp [pools]) n2 (kp _ _ n2 (s8 _ _ g2))
  · exact hq H' q3 pl3 KP bg (by simp [pools]) n3 (kp _ _ n3 (s8 _ _ g3))
  · exact hq H' q4 pl4 KP bg (by simp [pools]) n4 (kp _ _ n4 (s8 _ _ g4))
  · exact hq H' q6 pl5 KP bg (by simp [pools]) n6 (kp _ _ n6 (s8 _ _ g6))
theorem ok_path {f f1 f2 : Addr} {fd fd1 fd2 : FuncData} (F : Fun K "_law_path" "_law_path" s__law_path f fd) (T : Txt K mg tk1 tk2) (d_take : DefAt P w K mg base "_law_take" 1 f1 fd1 ["_law_bag_here", "_law_many"] spTakeN)
    (d_pick : DefAt P w K mg base "_law_pick" 2 f2 fd2 ["_law_bag_here", "_law_some"] (spPickN K)) : FnOk P w K mg base CX0 3 f fd ["_law_bag_here", "_law_pool_here", "_law_most"] (spPathN K) := by
  refine F.ok sc__law_path (fun vs H Q E h => ?_) (fun cdv A outer s H vs Q E hr h => ?_)
  · obtain ⟨b, l, m, ws, N, rfl, _⟩ := h
    rfl
  refine ⟨_, (pss_one (ps_ret (pe_join pe_str (pe_lc (own := [("_law_turn", 3)]) rfl sc__law_path.nd (pi_range1 (by rfl) T.n_range (pa_cons (pe_op op_add pe_int (pe_callD d_take (hr.mono (by decide)) (pa_cons (pv 0) (pa_cons (pv 2) pa_nil)))) pa_nil)) (blkOk_by (N := N__law_path) (sc := defScope s__law_path) (by decide +kernel)) (fun _ _ _ _ _ => pg_name (i := 3) sc__law_path.nd rfl (Or.inl rfl)) (fun _ _ _ _ _ => pts_nil) (fun _ _ _ _ _ => (pe_callD d_pick (hr.mono (by decide)) (pa_cons (pv 0) (pa_cons (pv 1) pa_nil)))))))), ?_⟩
  obtain ⟨b, l, m, ws, N, rfl, hb, hN, hlb, hl, hw1, hw2, hm1, hm2, hw8, hq⟩ := h
  refine ⟨⟨_, rfl⟩, _, rfl, _, rfl, b, _, N, rfl, hb, by omega, by omega, by omega, fun H1 r k1 b1 r0 r1 => ?_⟩
  obtain ⟨rr, rfl⟩ : ∃ rr : Nat, r = rr := ⟨r.toNat, by omega⟩
  have hl1 := k1 _ _ hlb hl
  refine ⟨_, _, rfl, rfl, 1 + rr, rfl, by omega, by omega, fun D hD => ?_⟩
  have hDb := b1.ne hD
  have hlD : l ≠ D := ne_of_none hl1 hD
  have hn : (1 + (rr : Int)).toNat = 1 + rr := by omega
  rw [hn]
  refine lc_it walk_range (fun i H' => ∃ ns : List Str, Keep b H1 H' ∧ BagN H' b (N + 1 + i) ∧ H' D = some (.lst (ns.map V.str)) ∧ ns.length = i ∧ ∀ s ∈ ns, s ∈ ws) ⟨[], Same.keep (same_new hD), b1.same (same_new hD), upd_same, rfl, fun s hs => (nomatch hs)⟩ (fun _ _ _ _ => trivial) ?_ ?_
  · rintro i x H2 H3 hi ⟨ns, k2, b2, hd2, hl2, hm⟩ ⟨rfl, rfl⟩
    refine ⟨rfl, _, rfl, _, rfl, b, l, _, _, rfl, b2, by omega, hlb, SqL.of (k2 _ _ hlb hl1), by rw [List.length_map]; exact hw1, by rw [List.length_map]; omega, fun H4 v k3 b3 hv => ?_⟩
    obtain ⟨s, hs, rfl⟩ := List.mem_map.mp hv
    refine ⟨_, k3 _ _ hDb hd2, ?_, ns ++ [s], fun x o n e => ?_, ?_, ?_, by rw [List.length_append, hl2]; rfl, fun t ht => ?_⟩
    · rw [List.length_map, hl2]
      exact Nat.lt_of_lt_of_le (show i < 200 by omega) (by decide)
    · rw [upd_ne (ne_of_none e hD)]; exact k3 _ _ n (k2 _ _ n e)
    · obtain ⟨d', x', m', e', r'⟩ := b3
      exact ⟨d', x', m', by rw [upd_ne (Ne.symm hDb)]; exact e', r'⟩
    · rw [upd_same, List.map_append]; rfl
    · rcases List.mem_append.mp ht with q | q
      · exact hm t q
      · rw [List.mem_singleton.mp q]; exact hs
  · rintro H2 ⟨ns, k2, b2, hd2, hl2, hm⟩
    have hsum := sum_le (ss := ns) (n := 8) fun s hs => hw8 s (hm s hs)
    have c1 : c_sl.length = 1 := by decide +kernel
    refine ⟨_, D, ns, rfl, rfl, Or.inl (SqL.of hd2), ?_, ?_⟩
    · show (ns.map (·.length)).sum + ns.length * c_sl.length ≤ 16777216
      rw [c1]; omega
    · exact hq H2 ns (k1.trans k2) (b2.more (by omega)) (by omega) (by omega) hm
end
end K6

set_option Elab.async false
set_option linter.all false
set_option maxRecDepth 100000
set_option maxHeartbeats 4000000
namespace K6
open PySem PySem.Spec PyProof.Rows L2 LF
theorem foldPut_len : ∀ (ss : List Str) (kvs : List (Key × V)), (ss.foldl (fun k s => putK k (.inr s) .non) kvs).length ≤ kvs.length + ss.length
  | [], kvs => Nat.le_refl _
  | s :: ss, kvs => by
    have h1 := foldPut_len ss (putK kvs (.inr s) .non)
    have h2 := length_putK kvs (.inr s : Key) .non
    rw [List.foldl_cons, List.length_cons]
    omega
section
variable {P : Program} {w : World} {K : PySem.W.Frag} {mg : Str → Option Value} {base : Heap} {tk1 tk2 : Tok}
theorem ok_starts {f : Addr} {fd : FuncData} (F : Fun K "_law_starts" "_law_starts" s__law_starts f fd) (T : Txt K mg tk1 tk2) : FnOk P w K mg base CX0 1 f fd ["_law_path_here"] spStarts := by
  refine F.ok sc__law_starts (fun vs H Q E h => ?_) (fun cdv A outer s H vs Q E hr h => ?_)
  · obtain ⟨ns, rfl, _⟩ := h
    rfl
  refine ⟨_, (pss_cons (ps_set (i := 1) sc__law_starts.nd rfl (Or.inr rfl) (pe_split (pv 0) pe_str))
    (pss_one (ps_ret (pe_lc (own := [("_law_many", 2)]) rfl sc__law_starts.nd (pi_range2 (by rfl) T.n_range (pa_cons pe_int (pa_cons (pe_callB call_len_seq (by rfl) T.n_len (by decide +kernel) (pa_cons (pv 1) pa_nil)) pa_nil))) (blkOk_by (N := N__law_starts) (sc := defScope s__law_starts) (by decide +kernel)) (fun _ _ _ _ _ => pg_name (i := 2) sc__law_starts.nd rfl (Or.inl rfl)) (fun _ _ _ _ _ => pts_nil) (fun _ _ _ _ _ => (pe_m1 PySem.F.slot_str_join PySem.F.type_str_join (show MtR _ "str.join" (rJoin K) from mt_join) pe_str (pe_slice (show SlR _ (rSlL K) from sl_list) (pv 1) po_none (po_some (pv 2))) rfl rfl rfl)))))), ?_⟩
  obtain ⟨ns, rfl, hne, hn1, hn, hq⟩ := h
  have hpos : 1 ≤ ns.length := List.length_pos_iff.mpr hne
  have hjl := join_len_le hn
  have hbig := sizeLine_big
  have hz : (PySem.Txt.join c_sl ns).length + 2 ≤ sizeLine := by omega
  refine ⟨_, rfl, ⟨_, rfl⟩, PySem.Txt.join c_sl ns, "/", rfl, rfl, (by decide +kernel), hz, fun pp hpp => ?_⟩
  have es : PySem.Txt.split (PySem.Txt.join c_sl ns) "/" = ns := split_names hne hn
  rw [es]
  have s1 : Same H (upd H pp (.lst (ns.map V.str))) := same_new hpp
  have hp1 : (upd H pp (.lst (ns.map V.str))) pp = some (.lst (ns.map V.str)) := upd_same
  refine ⟨_, rfl, pp, _, rfl, Or.inl (SqL.of hp1), ?_⟩
  rw [List.length_map]
  generalize (upd H pp (.lst (ns.map V.str))) = H1 at s1 hp1
  refine ⟨1, ns.length, rfl, ⟨by decide, by decide, by omega, by omega⟩, fun D hD => ?_⟩
  have en : ((ns.length : Int) - 1).toNat = ns.length - 1 := by omega
  rw [en]
  have eb : begs (PySem.Txt.join c_sl ns) = (List.range (ns.length - 1)).map fun i => PySem.Txt.join c_sl (ns.take (i + 1)) := by
    unfold begs
    rw [parts_join hn]
  refine lc_it walk_range (fun i H' => Same H1 H' ∧ H' D = some (.lst (((begs (PySem.Txt.join c_sl ns)).take i).map V.str))) ⟨same_new hD, by rw [upd_same]; rfl⟩ (fun _ _ _ _ => trivial) ?_ ?_
  · rintro i x H2 H3 hi ⟨sm, hd⟩ ⟨rfl, rfl⟩
    refine ⟨rfl, ?_⟩
    have hb : (begs (PySem.Txt.join c_sl ns))[i]? = some (PySem.Txt.join c_sl (ns.take (i + 1))) := by
      rw [eb, List.getElem?_map, List.getElem?_range hi]; rfl
    refine ⟨⟨_, rfl⟩, _, rfl, _, rfl, _, rfl, pp, _, rfl, SqL.of (sm _ _ hp1), fun ps hps => ?_⟩
    have ei : (1 : Int) + (i : Int) = ((i + 1 : Nat) : Int) := by omega
    rw [ei, cut_head]
    have hsum := sum_le (ss := ns.take (i + 1)) (n := 8) fun s hs => (isNm_len (hn s (List.mem_of_mem_take hs))).2
    have hlt : (ns.take (i + 1)).length ≤ 100 := by rw [List.length_take]; omega
    have c1 : c_sl.length = 1 := by decide +kernel
    refine ⟨_, ps, ns.take (i + 1), rfl, rfl, Or.inl (SqL.of upd_same), ?_, ?_⟩
    · show ((ns.take (i + 1)).map (·.length)).sum + (ns.take (i + 1)).length * c_sl.length ≤ 16777216
      rw [c1]; omega
    have hnD : ps ≠ D := Ne.symm (ne_of_none hd hps)
    refine ⟨_, same_new hps _ _ hd, ?_, fun b o e => ?_, ?_⟩
    · rw [List.length_map, List.length_take]
      exact Nat.lt_of_le_of_lt (show _ ≤ 100 by omega) (by decide)
    · rw [upd_ne (ne_of_none e hD)]
      exact same_new hps _ _ (sm _ _ e)
    · have et : (begs (PySem.Txt.join c_sl ns)).take (i + 1) = (begs (PySem.Txt.join c_sl ns)).take i ++ [PySem.Txt.join c_sl (ns.take (i + 1))] := by rw [List.take_add_one, hb]; rfl
      rw [upd_same, et, List.map_append]; rfl
  · rintro H2 ⟨sm, hd⟩
    have hl : (begs (PySem.Txt.join c_sl ns)).length = ns.length - 1 := by rw [eb, List.length_map, List.length_range]
    rw [List.take_of_length_le (by omega)] at hd
    exact hq H2 D (s1.trans sm) (s1.free hD) hd
theorem ok_added {f f1 : Addr} {fd fd1 : FuncData} (F : Fun K "_law_added" "_law_added" s__law_added f fd) (T : Txt K mg tk1 tk2) (d_starts : DefAt P w K mg base "_law_starts" 1 f1 fd1 ["_law_path_here"] spStarts) :
    FnOk P w K mg base CX0 2 f fd ["_law_entries_here", "_law_path_here", "_law_item_here"] spAdded := by
  refine F.ok sc__law_added (fun vs H Q E h => ?_) (fun cdv A outer s H vs Q E hr h => ?_)
  · obtain ⟨d, kvs, ns, v, rfl, _⟩ := h
    rfl
  have hu1 := hu_of hr
  refine ⟨_, (pss_cons (ps_set (i := 3) sc__law_added.nd rfl (Or.inl rfl) (pe_callTy call_dictD (by rfl) T.n_dict (by decide +kernel) (pa_cons (pv 0) pa_nil)))
    (pss_cons (ps_for PassesOwn.never rfl (pi_list (pe_callD d_starts (hr.mono (by decide)) (pa_cons (pv 1) pa_nil))) (pg_name (i := 4) sc__law_added.nd rfl (Or.inl rfl)) (pss_one (ps_dput hu1 (pv 3) (pv 4) pe_non rfl)))
    (pss_cons (ps_dput hu1 (pv 3) (pv 1) (pv 2) rfl)
    (pss_one (ps_ret (pv 3)))))), ?_⟩
  obtain ⟨d, kvs, ns, v, rfl, hd, hk, hne, hn1, hn, hq⟩ := h
  have hbl : (begs (PySem.Txt.join c_sl ns)).length ≤ 100 := by
    unfold begs
    rw [parts_join hn, List.length_map, List.length_range]; omega
  have hbig := sizeLine_big
  refine ⟨_, rfl, d, kvs, rfl, Or.inl hd, fun m hm => ?_⟩
  refine ⟨_, rfl, ns, rfl, hne, hn1, hn, fun H1 p s1 np hp => ?_⟩
  have hm1 : H1 m = some (.dK kvs) := s1 _ _ upd_same
  have S1 : Same H H1 := (same_new hm).trans s1
  have hmp : m ≠ p := ne_of_none upd_same np
  refine ⟨p, rfl, ⟨_, SqL.of hp⟩, for_list (K := K) (a := p) (xs := (begs (PySem.Txt.join c_sl ns)).map V.str)
    (fun i σ H' => ∃ v4, σ = [some (.ref d), some (.str (PySem.Txt.join c_sl ns)), some v, some (.ref m), v4] ∧ Keep m H1 H' ∧ H' m = some (.dK (((begs (PySem.Txt.join c_sl ns)).take i).foldl (fun k s => putK k (.inr s) .non) kvs)))
    ⟨_, rfl, Keep.refl m H1, hm1⟩ (fun i σ H' _ ⟨_, _, k, _⟩ => SqL.of (k _ _ (Ne.symm hmp) hp)) ?_ ?_⟩
  · rintro i x σ H' hx ⟨v4, rfl, k, hm2⟩
    rw [List.getElem?_map] at hx
    obtain ⟨s0, hs0, rfl⟩ : ∃ s0, (begs (PySem.Txt.join c_sl ns))[i]? = some s0 ∧ x = .str s0 := by
      cases e : (begs (PySem.Txt.join c_sl ns))[i]? with
      | none => rw [e] at hx; cases hx
      | some q => rw [e] at hx; exact ⟨q, rfl, (Option.some.inj hx).symm⟩
    have hlf := foldPut_len ((begs (PySem.Txt.join c_sl ns)).take i) kvs
    have hlt : ((begs (PySem.Txt.join c_sl ns)).take i).length ≤ 100 := by rw [List.length_take]; omega
    refine ⟨_, rfl, _, rfl, m, _, rfl, DPut.k (k := Sum.inr s0) hm2 (by omega), ?_⟩
    refine ⟨_, rfl, fun x o n e => ?_, ?_⟩
    · rw [upd_ne n]; exact k _ _ n e
    · have et : (begs (PySem.Txt.join c_sl ns)).take (i + 1) = (begs (PySem.Txt.join c_sl ns)).take i ++ [s0] := by rw [List.take_add_one, hs0]; rfl
      rw [upd_same, et, List.foldl_append]; rfl
  · rintro σ H' ⟨v4, rfl, k, hm2⟩
    rw [List.length_map, List.take_of_length_le (Nat.le_refl _)] at hm2
    have hlf := foldPut_len (begs (PySem.Txt.join c_sl ns)) kvs
    refine ⟨_, rfl, _, rfl, _, rfl, m, _, rfl, DPut.k (k := Sum.inr (PySem.Txt.join c_sl ns)) hm2 (by omega), ?_⟩
    refine ⟨_, rfl, hq _ m (fun x o e => ?_) hm upd_same⟩
    have nx : x ≠ m := ne_of_none e hm
    rw [upd_ne nx]
    exact k _ _ nx (s1 _ _ (same_new hm _ _ e))
end
end K6

set_option Elab.async false
set_option linter.all false
set_option maxRecDepth 100000
set_option maxHeartbeats 4000000
namespace K6
open PySem PySem.Spec PyProof.Rows L2 LF
/-- an item that the law draws -/
def GoodV (v : V) : Prop := v = .non ∨ (∃ i : Int, v = .int i ∧ i.natAbs ≤ 999999999999) ∨ ∃ ns : List Str, v = .str (PySem.Txt.join c_sl ns) ∧ ns.length ≤ 8 ∧ ∀ s ∈ ns, isNm s = true
/-- entries that the law draws -/
def GoodE (kvs : List (Key × V)) : Prop := ∀ p ∈ kvs, (∃ ns : List Str, p.1 = .inr (PySem.Txt.join c_sl ns) ∧ ns ≠ [] ∧ ns.length ≤ 10 ∧ ∀ s ∈ ns, isNm s = true) ∧ GoodV p.2
theorem mem_put {kvs : List (Key × V)} {k : Key} {v : V} {p : Key × V} (h : p ∈ putK kvs k v) : p ∈ kvs ∨ p = (k, v) := by
  unfold putK at h
  by_cases hc : (kvs.any fun kv => decide (kv.1 = k)) = true
  · rw [if_pos hc] at h
    obtain ⟨q, hq, rfl⟩ := List.mem_map.mp h
    by_cases he : q.1 = k
    · rw [if_pos he]
      exact Or.inr (by rw [he])
    · rw [if_neg he]
      exact Or.inl hq
  · rw [if_neg hc] at h
    rcases List.mem_append.mp h with h | h
    · exact Or.inl h
    · exact Or.inr (List.mem_singleton.mp h)
theorem GoodE.put {kvs : List (Key × V)} {ns : List Str} {v : V} (g : GoodE kvs) (hne : ns ≠ []) (hl : ns.length ≤ 10) (hn : ∀ s ∈ ns, isNm s = true) (hv : GoodV v) : GoodE (putK kvs (.inr (PySem.Txt.join c_sl ns)) v) := fun p hp => by
  rcases mem_put hp with h | rfl
  · exact g p h
  · exact ⟨⟨ns, rfl, hne, hl, hn⟩, hv⟩
theorem begs_join {ns : List Str} (hn : ∀ s ∈ ns, isNm s = true) : begs (PySem.Txt.join c_sl ns) = (List.range (ns.length - 1)).map fun i => PySem.Txt.join c_sl (ns.take (i + 1)) := by
  unfold begs
  rw [parts_join hn]
theorem GoodE.add {kvs : List (Key × V)} {ns : List Str} {v : V} (g : GoodE kvs) (hne : ns ≠ []) (hl : ns.length ≤ 10) (hn : ∀ s ∈ ns, isNm s = true) (hv : GoodV v) : GoodE (addE kvs ns v) := by
  unfold addE
  refine GoodE.put ?_ hne hl hn hv
  have h1 : ∀ s ∈ begs (PySem.Txt.join c_sl ns), ∃ ms : List Str, s = PySem.Txt.join c_sl ms ∧ ms ≠ [] ∧ ms.length ≤ 10 ∧ ∀ t ∈ ms, isNm t = true := fun s hs => by
    rw [begs_join hn] at hs
    obtain ⟨i, hi, rfl⟩ := List.mem_map.mp hs
    have hi2 := List.mem_range.mp hi
    refine ⟨ns.take (i + 1), rfl, fun e => ?_, by rw [List.length_take]; omega, fun t ht => hn t (List.mem_of_mem_take ht)⟩
    have h := congrArg List.length e
    rw [List.length_take, List.length_nil] at h
    omega
  generalize begs (PySem.Txt.join c_sl ns) = ss at h1
  induction ss generalizing kvs with
  | nil => exact g
  | cons s ss ih =>
    obtain ⟨ms, rfl, m1, m2, m3⟩ := h1 s List.mem_cons_self
    exact ih (g.put m1 m2 m3 (Or.inl rfl)) fun t ht => h1 t (List.mem_cons_of_mem _ ht)
theorem addE_len (kvs : List (Key × V)) {ns : List Str} (hn : ∀ s ∈ ns, isNm s = true) (hne : ns ≠ []) (v : V) : (addE kvs ns v).length ≤ kvs.length + ns.length := by
  unfold addE
  have h1 := foldPut_len (begs (PySem.Txt.join c_sl ns)) kvs
  have h2 := length_putK ((begs (PySem.Txt.join c_sl ns)).foldl (fun k s => putK k (.inr s) .non) kvs) (.inr (PySem.Txt.join c_sl ns) : Key) v
  have h3 : (begs (PySem.Txt.join c_sl ns)).length = ns.length - 1 := by rw [begs_join hn, List.length_map, List.length_range]
  have h4 : 1 ≤ ns.length := List.length_pos_iff.mpr hne
  omega
end K6

set_option Elab.async false
set_option linter.all false
set_option maxRecDepth 100000
set_option maxHeartbeats 4000000
namespace LF
open PySem PySem.Spec PyProof.Rows L2
open PySem.W (EachIs dataLe AllAlike Sortable KeepsBut KeyedOut)
section
variable {X : Cx} {kf : Nat} {f : Addr} {fd : FuncData} {px : Str} {sp : Sp} {kd : Str → PyData}
/-- the sorting of a list of texts that was just made at D, by an own def's keys -/
theorem sortF_body (F : FnOk X.prog X.w X.K X.mg X.base CX0 kf f fd [px] sp) (hr : Room (kf + 2) X.A) (hb : Binds X.K fd [px] [])
    {pins : List (Addr × Obj)} {σ : L2.St} {H : Hp} {hp hc0 : Heap} {g : Array GenState} {dr : Drawn} {tk : Nat} {os : _} {its : List Value} {ws : List Str} {D : Nat} {Q : VK} {E' : Value → Shared → Prop}
    (I : Inv X pins σ H ⟨hp, g, dr, tk, os⟩) (hE : EachIs (fun v x => ∃ t, v = Value.str x t) its ws) (hZ : its.length ≤ sizeLine)
    (hcp : hc0.get? D = some (seqObj "list" its.toArray 0)) (hold : ∀ b o, hp.get? b = some o → hc0.get? b = some o) (hDnew : hp.objs.size ≤ D)
    (hal : AllAlike (ws.map kd)) (hsk : Sortable (ws.map kd)) (hdep : ∀ d ∈ ws.map kd, d.depth ≤ 60)
    (hkey : ∀ x ∈ ws, ∀ H1, Same H H1 → ∀ Q1 : VK, (∀ v H2, Same H1 H2 → Dp X.K H2 v (kd x) → Q1 v H2) → sp [.str x] H1 Q1 E0)
    (hq : ∀ H1 p, Same H H1 → H1 p = none → Q (.ref p) (upd H1 p (.lst ((ws.mergeSort (dataLe false kd)).map V.str)))) :
    wpAny (model X.prog X.w) X.A.in1.in1 (ksk_tree D (.ref f) false) (fun f' s' => f' = Fin.done (Flow.ret Value.none) ∧ EP X pins σ Q (.ref D) s') E' ⟨hc0, g, dr, tk, os⟩ := by
  have hwl : ws.length = its.length := hE.length.symm
  have hDsz : D < (hc0).objs.size := Heap.lt_size hcp
  obtain ⟨e1, he1⟩ : ∃ e1, ((hc0).update D (Obj.mapSeq fun _ => (#[] : Array Value))).get? D = some (seqObj "list" #[] e1) := ⟨_, get?_update_seq hcp fun _ => #[]⟩
  have hS1 : ((hc0).update D (Obj.mapSeq fun _ => (#[] : Array Value))).objs.size = (hc0).objs.size := by rw [Heap.size_update]
  unfold ksk_tree
  refine wpAny_bind (listItems_at hcp rfl ?_)
  refine wpAny_bind (listUpdate_at hcp rfl ?_ (by rw [List.size_toArray]; exact hZ) (Nat.zero_le _))
  refine wpAny_bind (seqEpoch_at he1 rfl ?_)
  refine wpAny_bind (wpAny_newTuple ?_ (by show its.length ≤ _; exact hZ))
  refine wpAny_bind (wpAny_newList ?_ (Nat.zero_le _))
  refine wpAny_holding ?_
  generalize hT : (((hc0).update D (Obj.mapSeq fun _ => (#[] : Array Value))).push ({ cls := .type "tuple", data := .seq its.toArray } : Obj)) = h1
  have hkS : h1.objs.size = (hc0).objs.size + 1 := by rw [← hT, size_push', hS1]
  generalize hkk : h1.objs.size = kS
  have hkS2 : kS = hc0.objs.size + 1 := by rw [← hkk]; exact hkS
  have hDk : kS ≠ D := by omega
  have hkSnew : hp.objs.size ≤ kS := by omega
  have k1 : ∀ b o, b ≠ D → (hc0).get? b = some o → h1.get? b = some o := fun b o hb e => by
    rw [← hT]
    exact Heap.get?_push_of_some _ ((Heap.get?_update_ne _ _ _ _ hb).trans e)
  have k2 : ∀ b o, hp.get? b = some o → (h1.push (seqObj "list" #[] 0)).get? b = some o := fun b o e =>
    Heap.get?_push_of_some _ (k1 b o (Nat.ne_of_lt (Nat.lt_of_lt_of_le (Heap.lt_size e) hDnew)) (hold b o e))
  have g1 : (h1.push (seqObj "list" #[] 0)).get? D = some (seqObj "list" #[] e1) := Heap.get?_push_of_some _ (by rw [← hT]; exact Heap.get?_push_of_some _ he1)
  have g2 : (h1.push (seqObj "list" #[] 0)).get? kS = some (seqObj "list" #[] 0) := by rw [← hkk]; exact Heap.get?_push_size _ rfl
  have nD := pin_new I (b := D) hDnew
  have nK := pin_new I (b := kS) hkSnew
  have I2 : Inv X pins σ H ⟨h1.push (seqObj "list" #[] 0), g, dr, tk, os⟩ := I.kept (t' := tk) k2
  have seqne : ∀ (c : String) (xs : Array Value) (n : Nat) (v : Option Value), (seqObj c xs n).data ≠ .cell v := fun c xs n v z => by cases z
  have I3 : Inv X ((kS, seqObj "list" #[] 0) :: (D, seqObj "list" #[] e1) :: pins) σ H ⟨h1.push (seqObj "list" #[] 0), g, dr, tk, os⟩ := I2.pins_of (by
    intro p hp'
    rcases List.mem_cons.mp hp' with rfl | hp'
    · exact ⟨g2, nK.1, nK.2.1, nK.2.2.1, seqne _ _ _⟩
    rcases List.mem_cons.mp hp' with rfl | hp'
    · exact ⟨g1, nD.1, nD.2.1, nD.2.2.1, seqne _ _ _⟩
    · exact I2.pin p (List.mem_append_right _ hp'))
  show wpAny _ _ (ksk_rest D (.ref f) false its.toArray e1 (.ref kS)) _ _ ⟨h1.push (seqObj "list" #[] 0), g, dr, tk, os⟩
  unfold ksk_rest
  refine wpAny_bind (wpAny_rule ?_)
  rw [List.forIn_toArray]
  refine wpAny_bind (ksk_fold (fun i s' => ∃ kA e H', Same H H' ∧ Inv X ((kS, seqObj "list" kA e) :: (D, seqObj "list" #[] e1) :: pins) σ H' s' ∧
      EachIs (fun v x => ∃ y, RelV y v ∧ Dp X.K H' y (kd x)) kA.toList (ws.take i)) its 0 _
    ⟨#[], 0, H, Same.refl H, I3, by rw [List.take_zero]; exact .nil⟩ ?step ?done)
  case step =>
    rintro j u s' hu ⟨kA, e, H', sm, J, hk⟩
    simp only [Nat.zero_add] at hk ⊢
    obtain ⟨x, hx, t, rfl⟩ := each_get hE hu
    have hxm : x ∈ ws := List.mem_of_getElem? hx
    have hj : j < ws.length := (List.getElem?_eq_some_iff.mp hx).1
    have hklen : kA.size ≤ ws.length := by
      have := hk.length
      rw [Array.length_toList, List.length_take] at this
      omega
    have hsp := hkey x hxm H' sm (fun v H2 => Same H' H2 ∧ Dp X.K H2 v (kd x)) (fun v H2 s2 d2 => ⟨s2, d2⟩)
    have hb' := hb s' [.str x t] J.kIn rfl
    rw [List.append_nil] at hb'
    have run := F.run X.A.in1.in1 X.stack s' H' ⟨[.str x t], []⟩ [.str x t] [.str x] _ E0 (hr.in1.in1) (J.env0.in1.in1) hb' (.cons ⟨t, rfl⟩ .nil) hsp
    have call1 : wpAny (model X.prog X.w) X.A.in1.in1 (call (.ref f) [.str x t]) (CE X.stack X.prog X.w H' s' (fun v H2 => Same H' H2 ∧ Dp X.K H2 v (kd x))) (fun _ _ => False) s' := by
      refine wpAny_call (codeAny_mono run ?_)
      intro rr s2 hq2
      cases rr with
      | error e => exact hq2
      | ok fl =>
        cases fl with
        | ret u => exact hq2
        | next => exact hq2
        | brk => exact hq2
        | cont => exact hq2
    refine wpAny_bind (wpAny_attempt (wpAny_mono call1 ?_ (fun _ _ z => z.elim)))
    intro u s2 hu2
    obtain ⟨y, H2, J2, ry, sm2, dp2⟩ := J.after hu2
    obtain ⟨pk, pnK, pLK, pfK, _⟩ := J2.pin (kS, seqObj "list" kA e) (List.mem_append_right _ List.mem_cons_self)
    obtain ⟨pd, pnD, pLD, pfD, _⟩ := J2.pin (D, seqObj "list" #[] e1) (List.mem_append_right _ (List.mem_cons_of_mem _ List.mem_cons_self))
    have J3 : Inv X ((D, seqObj "list" #[] e1) :: pins) σ H2 s2 := J2.pins_of (by
      intro p hp'
      exact J2.pin p (List.mem_append_right _ (List.mem_cons_of_mem _ hp')))
    obtain ⟨hp2, g2', dr2, tk2, os2⟩ := s2
    refine wpAny_bind (listUpdate_at pk rfl ?_ (Nat.le_trans hklen (by rw [hwl]; exact hZ)) (by rw [Array.size_push]; exact Nat.succ_le_succ (Nat.le_trans hklen (by rw [hwl]; exact hZ))))
    have sb := Heap.SameBut.update hp2 kS (Obj.mapSeq (·.push u))
    obtain ⟨c2, hc2⟩ : ∃ c2, (hp2.update kS (Obj.mapSeq (·.push u))).get? kS = some (seqObj "list" (kA.push u) c2) := ⟨_, get?_update_seq pk (·.push u)⟩
    have pne : ∀ p ∈ X.pn ++ ((D, seqObj "list" #[] e1) :: pins), p.1 ≠ kS := by
      intro p hp'
      rcases List.mem_append.mp hp' with q | q
      · exact nK.2.2.2.2 p (List.mem_append_left _ q)
      rcases List.mem_cons.mp q with rfl | q
      · exact Ne.symm hDk
      · exact nK.2.2.2.2 p (List.mem_append_right _ q)
    have s0k : X.s_0.heap.objs.size ≤ kS := Nat.le_trans I.sz hkSnew
    have J4 := J3.turned (t' := tk2) (it := kS) (h' := hp2.update kS (Obj.mapSeq (·.push u))) (fun b o hb e => (sb.2 b hb).trans e) pnK pLK (Or.inr s0k) nK.2.2.2.1 pne
    have J5 : Inv X ((kS, seqObj "list" (kA.push u) c2) :: (D, seqObj "list" #[] e1) :: pins) σ H2 ⟨hp2.update kS (Obj.mapSeq (·.push u)), g2', dr2, tk2, os2⟩ := J4.pins_of (by
      intro p hp'
      rcases List.mem_cons.mp hp' with rfl | hp'
      · exact ⟨hc2, pnK, pLK, pfK, seqne _ _ _⟩
      · exact J4.pin p (List.mem_append_right _ hp'))
    refine wpAny_pure ⟨rfl, kA.push u, c2, H2, sm.trans sm2, J5, ?_⟩
    have ek : ws.take (j + 1) = ws.take j ++ [x] := by rw [List.take_add_one, hx]; rfl
    rw [ek, Array.toList_push]
    exact PySem.W.each_snoc ⟨y, ry, dp2⟩ (hk.mono fun v z ⟨y', r', d'⟩ => ⟨y', r', dp_same sm2 _ _ d'⟩)
  case done =>
    rintro s' ⟨kA, e, H', sm, J, hk⟩
    rw [List.take_of_length_le (by omega)] at hk
    obtain ⟨pk, pnK, pLK, pfK, _⟩ := J.pin (kS, seqObj "list" kA e) (List.mem_append_right _ List.mem_cons_self)
    obtain ⟨pd, pnD, pLD, pfD, _⟩ := J.pin (D, seqObj "list" #[] e1) (List.mem_append_right _ (List.mem_cons_of_mem _ List.mem_cons_self))
    have J1 : Inv X pins σ H' s' := J.pins_of (by
      intro p hp'
      exact J.pin p (List.mem_append_right _ (List.mem_cons_of_mem _ (List.mem_cons_of_mem _ hp'))))
    have hr' := each_reads J hk
    have hksz : kA.size = its.length := by
      have := hk.length
      rw [Array.length_toList] at this
      omega
    refine wpAny_bind (listItems_at pk rfl ?_)
    have kb : KeepsBut D (PySem.W.hideAll s'.heap [kS]) s'.heap := fun b o hb e => PySem.W.of_hideAll [kS] e
    have hu : ∀ d ∈ ws.map kd, X.A.in1.in1.units + d.depth < cLine := by
      intro d hd
      have h1 := hdep d hd
      have h2 := hr.un
      show X.A.units + 1 + 1 + d.depth < cLine
      omega
    refine PySem.W.keyH_end (κ := PySem.W.dataKind s'.heap (ws.map kd)) kb (PySem.W.hideAll_none [kS] List.mem_cons_self) pk pd hDk (PySem.W.SortsAt.data (s := s') hr' hal hsk hu) hksz hZ ?_
    intro h' tk' c kp hD'
    refine ⟨rfl, ?_⟩
    have hout : EachIs (fun (v : Value) (x : Str) => ∃ t, v = Value.str x t) (PySem.W.sortVals (PySem.W.dataKind s'.heap (ws.map kd)) false kA.toList its) (ws.mergeSort (dataLe false kd)) :=
      PySem.W.keyedOut_each (rev := false) kd ⟨s'.heap, kA.toList, hal, rfl, hr'⟩ hE
    have hv := vals_each_str hout
    have keep : ∀ b o, b ≠ D → b ≠ kS → s'.heap.get? b = some o → h'.get? b = some o := fun b o n1 n2 e =>
      kp b o n1 (PySem.W.hideAll_get [kS] e (by simpa using n2))
    have hn : H' D = none := pnD
    have hlen : ((ws.mergeSort (dataLe false kd)).map V.str).length ≤ sizeLine := by
      rw [List.length_map, List.length_mergeSort, hwl]; exact hZ
    refine ⟨.ref D, upd H' D (.lst ((ws.mergeSort (dataLe false kd)).map V.str)), ?_, rfl, hq H' D sm hn⟩
    have hne : ∀ b u, H' b = some u → b ≠ D ∧ b ≠ kS := fun b u q => ⟨ne_of_none q hn, ne_of_none q pnK⟩
    refine J1.step (ch := [D, kS]) (g' := s'.gens) (d' := s'.drawn) (t' := tk') ?_ ?_ ?_ ?_ ?_ ?_ ?_ ?_ ?_ ?_ J1.bare
    · intro b hb
      rcases List.mem_cons.mp hb with rfl | hb
      · exact ⟨Or.inr (Nat.le_trans I.sz hDnew), pLD, nD.2.2.2.1, nD.2.2.2.2⟩
      · rw [List.mem_singleton.mp hb]
        exact ⟨Or.inr (Nat.le_trans I.sz hkSnew), pLK, nK.2.2.2.1, nK.2.2.2.2⟩
    · intro b o _ _ hc e _
      exact keep b o (fun z => hc (by simp [z])) (fun z => hc (by simp [z])) e
    · intro b o _ _ hc e _
      exact ⟨o.slots, keep b o (fun z => hc (by simp [z])) (fun z => hc (by simp [z])) e⟩
    · intro b o hc e n
      rw [upd_ne (fun z => hc (by simp [z]))]
      exact n
    · intro b o hc e
      exact ⟨o, keep b o (fun z => hc (by simp [z])) (fun z => hc (by simp [z])) e⟩
    · intro b xs e
      rw [upd_ne (hne b _ e).1]; exact e
    · intro b o u e
      rw [upd_ne (hne b _ e).1]; exact e
    · intro b ps e
      exact ⟨#[], by rw [upd_ne (hne b _ e).1, e]; simp⟩
    · rintro m ⟨o, es, ep, ho, rest⟩
      exact ⟨o, es, ep, keep _ o (Ne.symm pLD) (Ne.symm pLK) ho, rest⟩
    · intro b u e
      by_cases hb : b = D
      · subst hb
        rw [upd_same] at e
        cases e
        exact ⟨hlen, _, c, hv, hD'⟩
      · rw [upd_ne hb] at e
        refine (J1.hok b u e).stay (fun z w' hz q => keep z w' ?_ ?_ q) (fun z q => ?_) (fun z xs q => ?_)
        · rcases hz with rfl | hz
          · exact hb
          · exact (hne z _ hz).1
        · rcases hz with rfl | hz
          · exact (hne z _ e).2
          · exact (hne z _ hz).2
        · rw [upd_ne (hne z _ q).1]; exact q
        · rw [upd_ne (hne z _ q).1]; exact q
end
end LF
namespace LF
open PySem PySem.Spec PyProof.Rows L2
open PySem.W (EachIs dataLe AllAlike Sortable KeepsBut KeyedOut)
/-- sorted(d, key=f), d a dict of texts -/
def rSortFD (f : Addr) (kd : Str → PyData) (sp : Sp) (K : PySem.W.Frag) : List V → List V → Hp → VK → Prop := fun xs zs H Q =>
  ∃ (a : Addr) (kvs : List (Key × V)) (ws : List Str), xs = [.ref a] ∧ zs = [.ref f] ∧ Rd H a (.dK kvs) ∧ kvs.map (·.1) = ws.map Sum.inr ∧ AllAlike (ws.map kd) ∧ Sortable (ws.map kd) ∧
    (∀ d ∈ ws.map kd, d.depth ≤ 60) ∧
    (∀ x ∈ ws, ∀ H1, Same H H1 → ∀ Q1 : VK, (∀ v H2, Same H1 H2 → Dp K H2 v (kd x) → Q1 v H2) → sp [.str x] H1 Q1 E0) ∧
    ∀ H1 p, Same H H1 → H1 p = none → Q (.ref p) (upd H1 p (.lst ((ws.mergeSort (dataLe false kd)).map V.str)))
theorem each_of_strs : ∀ {us : List Value} {ws : List Str}, StrsAre us ws → EachIs (fun (v : Value) (x : Str) => ∃ t, v = Value.str x t) us ws
  | _, _, .nil => .nil
  | _, _, .cons x t h => .cons ⟨t, rfl⟩ (each_of_strs h)
section
variable {X : Cx} {kf : Nat} {f : Addr} {fd : FuncData} {px : Str} {sp : Sp} {kd : Str → PyData}
theorem call_sortedFD (hcalm : X.calm = true) (F : FnOk X.prog X.w X.K X.mg X.base CX0 kf f fd [px] sp) (hr : Room (kf + 2) X.A) (hb : Binds X.K fd [px] []) :
    CallRK X (.builtin "sorted") [Str.ofString "key"] (rSortFD f kd sp X.K) := by
  intro pins s σ H xs zs us vz Q I r rz h
  obtain ⟨a, kvs, ws, rfl, rfl, hd, hks, hal, hsk, hdep, hkey, hq⟩ := h
  rw [Vals.ref1 r]
  rw [Vals.ref1 rz]
  obtain ⟨z, lo, vs, rel, dd⟩ := dk_rd I.hok hd
  obtain ⟨ep, hat⟩ := dd.dictAt
  have hkeys : vs.map (·.1) = ws.map Sum.inr := rel.keys.symm.trans hks
  have hl : vs.length = ws.length := by
    have e := congrArg List.length hkeys
    rw [List.length_map, List.length_map] at e
    exact e
  have h16 : vs.length ≤ sizeLine := by rw [← rel.length]; exact z
  show wpAny _ _ (call (.builtin "sorted") [.ref a] [(Str.ofString "key", .ref f)]) _ _ _
  refine PyProof.Rows.call_function_entry_kw PyProof.Rows.kind_sorted PyProof.Rows.plain_sorted PyProof.Rows.entry_sorted (ksk_s1 _ _) ?_
  unfold Builtin.«sorted»
  refine wpAny_bind (m := checkCount "sorted" 1 1 _) (wpAny_pure ?_)
  refine wpAny_bind (PySem.W.kdu_collect (A := X.A.in1) (PySem.W.kdl_dict (knd := mixKind X.prog X.w) (kvs := vs) (ep := ep) lo) (I.ok.hd hcalm) hat h16 fun h' tk acc hk hacc => ?_)
  have hal' : acc.toList.length = ws.length := by rw [Array.length_toList, hacc.1, hl]
  have hS : StrsAre acc.toList ws := strs_at hal' fun j v e => by
    obtain ⟨k, x, e1, e2⟩ := hacc.2 j v (by rw [← Array.getElem?_toList]; exact e)
    have e3 : (vs.map (·.1))[j]? = some k := by rw [List.getElem?_map, e1]; all_goals rfl
    rw [hkeys, List.getElem?_map] at e3
    cases e4 : ws[j]? with
    | none => rw [e4] at e3; cases e3
    | some y =>
      rw [e4] at e3
      have e5 : Sum.inr y = k := Option.some.inj e3
      subst e5
      obtain ⟨t, ev⟩ := Value.isStrOf_shape (x := y) (v := v) e2
      exact ⟨y, t, rfl, ev⟩
  have I1 : Inv X pins σ H { s with heap := h', toks := tk } := I.kept hk
  have hZ : acc.toList.length ≤ sizeLine := by rw [hal', ← hl]; exact h16
  refine wpAny_bind (wpAny_newList ?_ hZ)
  have hoL : (h'.push (seqObj "list" acc.toList.toArray 0)).get? h'.objs.size = some (seqObj "list" acc.toList.toArray 0) := Heap.get?_push_size _ rfl
  show wpAny _ _ _ _ _ { s with heap := h'.push (seqObj "list" acc.toList.toArray 0), toks := tk }
  refine wpAny_bind (wpAny_holding (wpAny_call_entry_kw PyProof.Rows.slot_list_sort ⟨_, hoL, rfl⟩ PyProof.Rows.entry_list_sort ?body (ksk_l1 _ _)))
  case body =>
    rw [ksk_t1]
    refine wpAny_mono (sortF_body F hr hb (g := s.gens) (dr := s.drawn) (tk := tk) (os := s.os) (hp := h') (D := h'.objs.size) I1 (each_of_strs hS) hZ hoL (fun b o e => Heap.get?_push_of_some _ e) (Nat.le_refl _) hal hsk hdep hkey hq) (fun f' s' hf => ?_) fun _ _ e => e
    obtain ⟨rfl, hq'⟩ := hf
    exact ⟨_, rfl, wpAny_pure ⟨_, rfl, hq'⟩⟩
end
end LF

set_option Elab.async false
set_option linter.all false
set_option maxRecDepth 100000
set_option maxHeartbeats 4000000
namespace K6
open PySem PySem.Spec PyProof.Rows L2 LF TL
theorem tl_int (i : Int) : tl (Str.ofString (toString i)) = if i < 0 then 45 :: numL i.natAbs else numL i.natAbs := by
  cases i with
  | ofNat n => rw [if_neg (by show ¬ (n : Int) < 0; omega)]; exact tl_num n
  | negSucc n =>
    rw [if_pos (Int.negSucc_lt_zero n)]
    have e : toString (Int.negSucc n) = "-" ++ toString (n + 1) := rfl
    have h := tl_num (n + 1)
    rw [tl_ofString] at h
    rw [tl_ofString, e, String.toList_append, List.map_append]
    have h2 : (toString ((n + 1 : Nat) : Int)) = toString (n + 1) := rfl
    rw [h2] at h
    rw [h]; rfl
theorem int_len {i : Int} (h : i.natAbs ≤ 999999999999) : (Str.ofString (toString i)).length ≤ 13 := by
  have h2 : (10 : Nat) ^ 12 = 1000000000000 := by decide
  have h1 := numL_len (n := i.natAbs) (k := 12) (by decide) (by omega)
  rw [len_tl, tl_int]
  split
  · rw [List.length_cons]; omega
  · omega
theorem int_free {i : Int} {s : Nat} (hs : s < 45 ∨ 57 < s) : s ∉ tl (Str.ofString (toString i)) := by
  rw [tl_int]
  have h1 : s ∉ numL i.natAbs := numL_free (by omega)
  split
  · intro h
    rcases List.mem_cons.mp h with h | h
    · omega
    · exact h1 h
  · exact h1
theorem int_ok (i : Int) : PyData.strOk (Str.ofString (toString i)) = true := strOk_iff.mpr fun c hc => by
  have h1 : c ∈ tl (Str.ofString (toString i)) := hc
  rw [tl_int] at h1
  have h2 : ∀ c ∈ numL i.natAbs, c < 0x110000 := fun c hc => by have := numL_digits _ c hc; omega
  split at h1
  · rcases List.mem_cons.mp h1 with h | h
    · omega
    · exact h2 c h
  · exact h2 c h1
/-- the row of an entry -/
def rowS (p : Str) : V → Str
  | .non => p ++ " folder"
  | .str t => p ++ " to " ++ (if t = "" then ("." : Str) else t)
  | .int i => p ++ " file " ++ Str.ofString (toString i)
  | _ => p
structure ShortP (p : Str) : Prop where
  len : p.length ≤ 90
  ok : PyData.strOk p = true
  nl : 10 ∉ tl p
theorem join_sh {ns : List Str} (hl : ns.length ≤ 10) (hn : ∀ s ∈ ns, isNm s = true) : ShortP (PySem.Txt.join c_sl ns) := by
  have h1 := join_len_le hn
  refine ⟨by omega, strOk_join hn, fun hm => ?_⟩
  rw [join_eq, tl_join, tl_sl] at hm
  have h2 : 10 ∉ letters.cps.toList := by decide +kernel
  clear h1 hl
  induction ns with
  | nil => exact nomatch hm
  | cons a l ih =>
    have ha : 10 ∉ tl a := fun h => h2 ((isNm_iff.mp (hn a List.mem_cons_self)).2 _ h)
    cases l with
    | nil => exact ha hm
    | cons b l =>
      have h3 : 10 ∈ tl a ++ ([47] ++ joinL [47] ((b :: l).map tl)) := hm
      rcases List.mem_append.mp h3 with q | q
      · exact ha q
      · rcases List.mem_append.mp q with q | q
        · exact absurd (List.mem_singleton.mp q) (by decide)
        · exact ih (fun n h => hn n (List.mem_cons_of_mem _ h)) q
structure ShortR (r : Str) : Prop where
  len : r.length ≤ 200
  ok : PyData.strOk r = true
  nl : 10 ∉ tl r
theorem app_nl {x y : Str} (hx : 10 ∉ tl x) (hy : 10 ∉ tl y) : 10 ∉ tl (x ++ y) := by
  rw [tl_append, List.mem_append]
  exact fun h => h.elim hx hy
theorem rowS_sh {p : Str} {v : V} (hp : ShortP p) (hv : GoodV v) : ShortR (rowS p v) := by
  have a1 : (" folder" : Str).length = 7 ∧ PyData.strOk " folder" = true ∧ 10 ∉ tl (" folder" : Str) := by decide +kernel
  have a2 : (" to " : Str).length = 4 ∧ PyData.strOk " to " = true ∧ 10 ∉ tl (" to " : Str) := by decide +kernel
  have a3 : (" file " : Str).length = 6 ∧ PyData.strOk " file " = true ∧ 10 ∉ tl (" file " : Str) := by decide +kernel
  have a4 : ("." : Str).length = 1 ∧ PyData.strOk "." = true ∧ 10 ∉ tl ("." : Str) := by decide +kernel
  have hpl := hp.len
  rcases hv with rfl | ⟨i, rfl, hi⟩ | ⟨ns, rfl, hl, hn⟩
  · exact ⟨by show (p ++ " folder" : Str).length ≤ 200; rw [len_app]; omega, strOk_app hp.ok a1.2.1, app_nl hp.nl a1.2.2⟩
  · have h1 := int_len hi
    exact ⟨by show (p ++ " file " ++ Str.ofString (toString i) : Str).length ≤ 200; rw [len_app, len_app]; omega, strOk_app (strOk_app hp.ok a3.2.1) (int_ok i), app_nl (app_nl hp.nl a3.2.2) (int_free (by omega))⟩
  · have sh := join_sh (ns := ns) (by omega) hn
    have h1 := sh.len
    have hx : ∃ t : Str, (if PySem.Txt.join c_sl ns = "" then ("." : Str) else PySem.Txt.join c_sl ns) = t ∧ t.length ≤ 90 ∧ PyData.strOk t = true ∧ 10 ∉ tl t := by
      refine ⟨_, rfl, ?_⟩
      split
      · exact ⟨by rw [a4.1]; omega, a4.2⟩
      · exact ⟨h1, sh.ok, sh.nl⟩
    obtain ⟨t, et, t1, t2, t3⟩ := hx
    show ShortR (p ++ " to " ++ (if PySem.Txt.join c_sl ns = "" then ("." : Str) else PySem.Txt.join c_sl ns))
    rw [et]
    exact ⟨by rw [len_app, len_app]; omega, strOk_app (strOk_app hp.ok a2.2.1) t2, app_nl (app_nl hp.nl a2.2.2) t3⟩
def keysS (kvs : List (Key × V)) : List Str := kvs.filterMap fun p => match p.1 with | .inr s => some s | .inl _ => none
theorem keysS_eq {kvs : List (Key × V)} (g : GoodE kvs) : kvs.map (·.1) = (keysS kvs).map Sum.inr := by
  induction kvs with
  | nil => rfl
  | cons p r ih =>
    obtain ⟨⟨ns, h1, _⟩, _⟩ := g p List.mem_cons_self
    obtain ⟨k, v⟩ := p
    simp only at h1
    subst h1
    rw [List.map_cons, ih fun q hq => g q (List.mem_cons_of_mem _ hq)]
    rfl
theorem keysS_mem {kvs : List (Key × V)} (g : GoodE kvs) {s : Str} (h : s ∈ keysS kvs) : ∃ ns : List Str, s = PySem.Txt.join c_sl ns ∧ ns ≠ [] ∧ ns.length ≤ 10 ∧ (∀ t ∈ ns, isNm t = true) ∧ ∃ v, (Sum.inr s, v) ∈ kvs := by
  unfold keysS at h
  obtain ⟨p, hp, he⟩ := List.mem_filterMap.mp h
  obtain ⟨⟨ns, h1, h2, h3, h4⟩, _⟩ := g p hp
  obtain ⟨k, v⟩ := p
  simp only at h1
  subst h1
  cases he
  exact ⟨ns, rfl, h2, h3, h4, v, hp⟩
theorem val_some {kvs : List (Key × V)} {k : Key} {v : V} (h : (k, v) ∈ kvs) : ∃ u, valV kvs k = some u ∧ (k, u) ∈ kvs := by
  unfold valV
  cases hf : kvs.find? fun q => decide (q.1 = k) with
  | none =>
    have := List.find?_eq_none.mp hf (k, v) h
    exact absurd (decide_eq_true rfl) this
  | some q =>
    have h1 := List.find?_some hf
    have h2 := List.mem_of_find?_eq_some hf
    have h3 : q.1 = k := of_decide_eq_true h1
    exact ⟨q.2, rfl, by rw [← h3]; exact h2⟩
/-- the entries' rows, in path order -/
def rowsE (kvs : List (Key × V)) : List Str := ((keysS kvs).mergeSort (PySem.W.dataLe false keyD)).map fun p => rowS p ((valV kvs (.inr p)).getD .non)
def textE (kvs : List (Key × V)) : Str := PySem.Txt.join "\n" (rowsE kvs)
theorem rowsE_sh {kvs : List (Key × V)} (g : GoodE kvs) {r : Str} (h : r ∈ rowsE kvs) : ShortR r := by
  unfold rowsE at h
  obtain ⟨p, hp, rfl⟩ := List.mem_map.mp h
  have hp2 : p ∈ keysS kvs := (List.mergeSort_perm _ _).mem_iff.mp hp
  obtain ⟨ns, rfl, h1, h2, h3, v, h4⟩ := keysS_mem g hp2
  obtain ⟨u, h5, h6⟩ := val_some h4
  rw [h5]
  exact rowS_sh (join_sh h2 h3) (g _ h6).2
theorem rowsE_len {kvs : List (Key × V)} (g : GoodE kvs) : (rowsE kvs).length = kvs.length := by
  unfold rowsE
  rw [List.length_map, List.length_mergeSort]
  have h := congrArg List.length (keysS_eq g)
  rw [List.length_map, List.length_map] at h
  exact h.symm
end K6

set_option Elab.async false
set_option linter.all false
set_option maxRecDepth 100000
set_option maxHeartbeats 4000000
namespace K6
open PySem PySem.Spec PyProof.Rows L2 LF
theorem log_small {i : Int} (hi : i.natAbs ≤ 999999999999) : i.natAbs.log2 < 1920 := by
  by_cases h0 : i.natAbs = 0
  · rw [h0]; decide
  · have e : (2 : Nat) ^ 40 = 1099511627776 := by decide
    have h2 : i.natAbs.log2 < 40 := (Nat.log2_lt h0).mpr (by omega)
    omega
def spIsP : Sp := fun vs H Q _ => ∃ z : Str, vs = [.str z] ∧ z.length ≤ 1000000 ∧ PyData.strOk z = true ∧ ∀ H', Same H H' → Q (.bl (isPt z)) H'
def spRow : Sp := fun vs H Q _ => ∃ (p : Str) (v : V), vs = [.str p, v] ∧ ShortP p ∧ GoodV v ∧ ∀ H', Same H H' → Q (.str (rowS p v)) H'
def spText : Sp := fun vs H Q _ => ∃ (d : Addr) (kvs : List (Key × V)), vs = [.ref d] ∧ H d = some (.dK kvs) ∧ GoodE kvs ∧ kvs.length ≤ 1000 ∧ ∀ H', Same H H' → Q (.str (textE kvs)) H'
abbrev s__law_key : Stmt := topS 59
abbrev N__law_key : List Str := ["_law_path_here", "_law_titles"]
theorem sc__law_key : FnScope ["_law_path_here", "_law_titles"] ["_law_path_here"] (defScope s__law_key) := ⟨rfl, rfl, rfl, by decide +kernel, rfl, by decide +kernel, by decide +kernel⟩
abbrev s__law_row : Stmt := topS 60
abbrev N__law_row : List Str := ["_law_path_here", "_law_item_here"]
theorem sc__law_row : FnScope ["_law_path_here", "_law_item_here"] ["_law_path_here", "_law_item_here"] (defScope s__law_row) := ⟨rfl, rfl, rfl, by decide +kernel, rfl, by decide +kernel, by decide +kernel⟩
abbrev s__law_text : Stmt := topS 61
abbrev N__law_text : List Str := ["_law_entries_here", "_law_path_here"]
theorem sc__law_text : FnScope ["_law_entries_here", "_law_path_here"] ["_law_entries_here"] (defScope s__law_text) := ⟨rfl, rfl, rfl, by decide +kernel, rfl, by decide +kernel, by decide +kernel⟩
section
variable {P : Program} {w : World} {K : PySem.W.Frag} {mg : Str → Option Value} {base : Heap} {tk1 tk2 : Tok}
theorem ok_lkey {f : Addr} {fd : FuncData} (F : Fun K "_law_key" "_law_key" s__law_key f fd) (T : Txt K mg tk1 tk2) : FnOk P w K mg base CX0 1 f fd ["_law_path_here"] (spKey K) := by
  refine F.ok sc__law_key (fun vs H Q E h => ?_) (fun cdv A outer s H vs Q E hr h => ?_)
  · obtain ⟨x, rfl, _⟩ := h
    rfl
  refine ⟨_, (pss_cons (ps_set (i := 1) sc__law_key.nd rfl (Or.inl rfl) (pe_ifExp (pt_cmpR op_ne (pv 0) pe_str (nomark _)) (pe_split (pv 0) pe_str) (pe_lst pa_nil)))
    (pss_one (ps_ret (pe_tup (pa_cons (pe_callB call_len_seq (by rfl) T.n_len (by decide +kernel) (pa_cons (pv 1) pa_nil)) (pa_cons (pv 1) pa_nil)))))), ?_⟩
  obtain ⟨z, rfl, hz, hq⟩ := h
  have hbig := sizeLine_big
  have main : ∀ (H1 : Hp) (p : Addr), Same H H1 → H1 p = some (.lst ((parts z).map V.str)) → tRet (tTup (tCons (tCB (fun xs H Q => ∃ p ys, xs = [V.ref p] ∧ (SqL K H p ys ∨ SqT K H p ys) ∧ Q (.int ys.length) H) (tCons (tVar 1) tNil)) (tCons (tVar 1) tNil))) { nx := fun _ H' => Q .non H', rt := Q } [some (.str z), some (.ref p)] H1 := by
    intro H1 p s1 hp1
    refine ⟨_, rfl, p, _, rfl, Or.inl (SqL.of hp1), _, rfl, (by show 2 ≤ sizeLine; decide), fun q hq1 => ?_⟩
    refine hq _ _ (s1.trans (same_new hq1)) ?_
    have npq : p ≠ q := ne_of_none hp1 hq1
    refine .tup (SqT.of upd_same) (.cons ?_ (.cons (.lst (SqL.of (by rw [upd_ne npq]; exact hp1)) (dp_strs _)) .nil))
    rw [List.length_map]
    exact .int _
  refine ⟨_, rfl, rfl, _, rfl, ?_⟩
  rw [str_dec]
  refine ifN (fun h1 => ?_) (fun h1 => ?_)
  · refine ⟨Nat.zero_le _, fun p hp => main _ p (same_new hp) ?_⟩
    unfold parts
    rw [if_pos h1, upd_same]; rfl
  · refine ⟨_, rfl, ⟨_, rfl⟩, z, "/", rfl, rfl, (by decide +kernel), by omega, fun p hp => main _ p (same_new hp) ?_⟩
    unfold parts
    rw [if_neg h1, upd_same]; rfl
theorem ok_lrow {f : Addr} {fd : FuncData} (F : Fun K "_law_row" "_law_row" s__law_row f fd) (T : Txt K mg tk1 tk2) : FnOk P w K mg base CX0 1 f fd ["_law_path_here", "_law_item_here"] spRow := by
  refine F.ok sc__law_row (fun vs H Q E h => ?_) (fun cdv A outer s H vs Q E hr h => ?_)
  · obtain ⟨p, v, rfl, _⟩ := h
    rfl
  have hu := hr.units
  refine ⟨_, (pss_cons (ps_if (pt_cmpR op_isN (pv 1) pe_non (nomark _)) (pss_one (ps_ret (pe_op op_add_str (pv 0) pe_str))) pss_nil)
    (pss_cons (ps_if (pt_val (pe_callB call_isi (by rfl) T.n_isinstance (by decide +kernel) (pa_cons (pv 1) (pa_cons (pe_bltn (v := .ty "str") (by rfl) T.n_str (by decide +kernel) rfl) pa_nil)))) (pss_one (ps_ret (pe_op op_add_str (pe_op op_add_str (pv 0) pe_str) (pe_ifExp (pt_cmpR op_ne (pv 1) pe_str (nomark _)) (pv 1) pe_str)))) pss_nil)
    (pss_one (ps_ret (pe_op op_add_str (pe_op op_add_str (pv 0) pe_str) (pe_callTy call_str_int (by rfl) T.n_str (by decide +kernel) (pa_cons (pv 1) pa_nil))))))), ?_⟩
  obtain ⟨p, v, rfl, hp, hv, hq⟩ := h
  have hpl := hp.len
  have hbig := sizeLine_big
  have a1 : (" folder" : Str).length = 7 := by decide +kernel
  have a2 : (" to " : Str).length = 4 := by decide +kernel
  have a3 : (" file " : Str).length = 6 := by decide +kernel
  have a4 : ("." : Str).length = 1 := by decide +kernel
  rcases hv with rfl | ⟨i, rfl, hi⟩ | ⟨ns, rfl, hl, hn⟩
  · refine ⟨_, rfl, rfl, _, rfl, ?_⟩
    refine ifD (fun _ => ?_) (fun h => absurd rfl h)
    exact ⟨_, rfl, _, _, rfl, rfl, by omega, hq H (Same.refl H)⟩
  · refine ⟨_, rfl, rfl, _, rfl, ?_⟩
    refine ifD (fun h => (nomatch h)) (fun _ => ?_)
    refine ⟨_, rfl, _, .ty "str", _, _, false, rfl, .ty _, .base (.int i), kit_no (t := "int") (by simp [notStr]), _, rfl, iteF ?_⟩
    have h13 := int_len hi
    have hlog := log_small hi
    refine ⟨_, rfl, _, _, rfl, rfl, by omega, _, rfl, i, rfl, hlog, _, _, rfl, rfl, ?_, hq H (Same.refl H)⟩
    rw [len_app]; omega
  · have sh := (join_sh (ns := ns) (by omega) hn).len
    refine ⟨_, rfl, rfl, _, rfl, ?_⟩
    refine ifD (fun h => (nomatch h)) (fun _ => ?_)
    refine ⟨_, rfl, _, .ty "str", _, _, true, rfl, .ty _, .base (.str _), kit_str, _, rfl, iteT ?_⟩
    have e0 : rowS p (.str (PySem.Txt.join c_sl ns)) = p ++ " to " ++ (if PySem.Txt.join c_sl ns = "" then ("." : Str) else PySem.Txt.join c_sl ns) := rfl
    refine ⟨_, rfl, _, _, rfl, rfl, by omega, ?_⟩
    refine ⟨_, rfl, rfl, _, rfl, ?_⟩
    rw [str_dec]
    refine ifN (fun h1 => ?_) (fun h1 => ?_)
    · rw [e0, if_pos h1] at hq
      exact ⟨_, _, rfl, rfl, by rw [len_app]; omega, hq H (Same.refl H)⟩
    · rw [e0, if_neg h1] at hq
      exact ⟨_, rfl, _, _, rfl, rfl, by rw [len_app]; omega, hq H (Same.refl H)⟩
theorem ok_text {f f1 f2 : Addr} {fd fd1 fd2 : FuncData} (F : Fun K "_law_text" "_law_text" s__law_text f fd) (T : Txt K mg tk1 tk2) (d_key : DefAt P w K mg base "_law_key" 1 f1 fd1 ["_law_path_here"] (spKey K))
    (d_row : DefAt P w K mg base "_law_row" 1 f2 fd2 ["_law_path_here", "_law_item_here"] spRow) : FnOk P w K mg base CX0 4 f fd ["_law_entries_here"] spText := by
  refine F.ok sc__law_text (fun vs H Q E h => ?_) (fun cdv A outer s H vs Q E hr h => ?_)
  · obtain ⟨d, kvs, rfl, _⟩ := h
    rfl
  have hu1 := hu_of hr
  refine ⟨_, (pss_one (ps_ret (pe_join pe_str (pe_lc (own := [("_law_path_here", 1)]) rfl sc__law_text.nd (pi_list (pe_callBK (call_sortedFD (kd := keyD) rfl d_key.F hr d_key.b) (by rfl) T.n_sorted (by decide +kernel) (pa_cons (pv 0) pa_nil) (pk_cons (pe_glob (v := .ref _) rfl d_key.g rfl) pk_nil))) (blkOk_by (N := N__law_text) (sc := defScope s__law_text) (by decide +kernel)) (fun _ _ _ _ _ => pg_name (i := 1) sc__law_text.nd rfl (Or.inl rfl)) (fun _ _ _ _ _ => pts_nil) (fun _ _ _ _ _ => (pe_callD d_row (hr.mono (by decide)) (pa_cons (pv 1) (pa_cons (pe_dget hu1 (pv 0) (pv 1) (fun _ _ => rfl)) pa_nil)))))))), ?_⟩
  obtain ⟨d, kvs, rfl, hd, ge, hl, hq⟩ := h
  have hkl : (keysS kvs).length = kvs.length := by
    have h := congrArg List.length (keysS_eq ge)
    rw [List.length_map, List.length_map] at h
    exact h.symm
  have hbig := sizeLine_big
  refine ⟨⟨_, rfl⟩, _, rfl, d, kvs, keysS kvs, rfl, rfl, Or.inl hd, keysS_eq ge, PySem.W.AllAlike.of key_alike, PySem.W.Sortable.tuples (fun b => ⟨_, _, rfl⟩), fun x hx => ?_, fun x hx H1 sm Q1 h1 => ?_, fun H1 p sm hp => ?_⟩
  · obtain ⟨y, _, rfl⟩ := List.mem_map.mp hx
    exact key_depth y
  · obtain ⟨ns, rfl, h2, h3, h4, _⟩ := keysS_mem ge hx
    have := (join_sh h3 h4).len
    exact ⟨_, rfl, by omega, fun v H' s' dp => h1 v H' s' dp⟩
  have S1 : Same H (upd H1 p (.lst (((keysS kvs).mergeSort (PySem.W.dataLe false keyD)).map V.str))) := sm.trans (same_new hp)
  have hp1 : (upd H1 p (.lst (((keysS kvs).mergeSort (PySem.W.dataLe false keyD)).map V.str))) p = some (.lst (((keysS kvs).mergeSort (PySem.W.dataLe false keyD)).map V.str)) := upd_same
  refine ⟨p, rfl, ⟨_, SqL.of hp1⟩, fun D hD => ?_⟩
  generalize (upd H1 p (.lst (((keysS kvs).mergeSort (PySem.W.dataLe false keyD)).map V.str))) = H2 at S1 hp1 hD
  refine lc_it (walk_list (xs := ((keysS kvs).mergeSort (PySem.W.dataLe false keyD)).map V.str)) (fun i H' => Same H2 H' ∧ H' D = some (.lst (((rowsE kvs).take i).map V.str))) ⟨same_new hD, by rw [upd_same]; rfl⟩ (fun i H' _ h => sqL_same h.1 (SqL.of hp1)) ?_ ?_
  · rintro i x H3 H4 hi ⟨sm3, hd3⟩ ⟨rfl, hx⟩
    rw [List.getElem?_map] at hx
    obtain ⟨s0, hs0, rfl⟩ : ∃ s0, ((keysS kvs).mergeSort (PySem.W.dataLe false keyD))[i]? = some s0 ∧ x = .str s0 := by
      cases e : ((keysS kvs).mergeSort (PySem.W.dataLe false keyD))[i]? with
      | none => rw [e] at hx; cases hx
      | some q => rw [e] at hx; exact ⟨q, rfl, (Option.some.inj hx).symm⟩
    have hm : s0 ∈ keysS kvs := (List.mergeSort_perm _ _).mem_iff.mp (List.mem_of_getElem? hs0)
    obtain ⟨ns, rfl, h2, h3, h4, v, h5⟩ := keysS_mem ge hm
    obtain ⟨u, h6, h7⟩ := val_some h5
    have hdd := sm3 _ _ (S1 _ _ hd)
    have hg := DGet.k (k := Sum.inr (PySem.Txt.join c_sl ns)) hdd
    rw [h6] at hg
    refine ⟨rfl, _, rfl, _, rfl, _, rfl, d, u, rfl, hg, _, u, rfl, join_sh h3 h4, (ge _ h7).2, fun H5 s5 => ?_⟩
    have hr : (rowsE kvs)[i]? = some (rowS (PySem.Txt.join c_sl ns) u) := by
      unfold rowsE
      rw [List.getElem?_map, hs0, Option.map_some, h6]; rfl
    have hil : i < 1000 := by
      rw [List.length_map, List.length_mergeSort] at hi
      omega
    refine ⟨_, s5 _ _ hd3, ?_, fun b o e => ?_, ?_⟩
    · rw [List.length_map, List.length_take]
      omega
    · rw [upd_ne (ne_of_none e hD)]; exact s5 _ _ (sm3 _ _ e)
    · have et : (rowsE kvs).take (i + 1) = (rowsE kvs).take i ++ [rowS (PySem.Txt.join c_sl ns) u] := by rw [List.take_add_one, hr]; rfl
      rw [upd_same, et, List.map_append]; rfl
  · rintro H3 ⟨sm3, hd3⟩
    rw [List.length_map, List.length_mergeSort, List.take_of_length_le (by rw [rowsE_len ge]; omega)] at hd3
    have hsum := sum_le (ss := rowsE kvs) (n := 200) fun s hs => (rowsE_sh ge hs).len
    have hrl := rowsE_len ge
    have c1 : ("\n" : Str).length = 1 := by decide +kernel
    refine ⟨_, D, rowsE kvs, rfl, rfl, Or.inl (SqL.of hd3), ?_, hq H3 (S1.trans sm3)⟩
    show ((rowsE kvs).map (·.length)).sum + (rowsE kvs).length * ("\n" : Str).length ≤ 16777216
    rw [hrl] at hsum
    rw [c1, hrl]
    omega
end
end K6

set_option Elab.async false
set_option linter.all false
set_option maxRecDepth 100000
set_option maxHeartbeats 4000000
namespace LF
open PySem PySem.Spec PyProof.Rows L2
open PySem.Builtin
/-- str(x), x an own instance of the class at C: its own __str__ -/
def rStrO (C : Addr) (sp : Sp) : List V → Hp → VK → Prop := fun xs H Q => ∃ (a dx : Addr) (fs : List (Str × V)), xs = [.ref a] ∧ H a = some (.ins C dx fs) ∧ sp [.ref a] H (fun v H' => ∃ z, v = .str z ∧ Q (.str z) H') E0
theorem str_own_new {prog : Program} {w : World} {a : Addr} : MeetsIn prog w (Builtin.«str.__new__» ⟨[.type "str", .ref a], []⟩)
    (fun A R s => A.in1.units < cLine ∧ wpAny (model prog w) A.in1 (callSpecial? (.ref a) "__str__") (fun o s' => ∃ z tk, o = some (.str z tk) ∧ R (.ok (.ret (.str z tk))) s') (fun _ _ => False) s) :=
  .of_wp fun A R s h => by
    rw [str_new_tree (.ref a)]
    refine wpAny_bind (wpAny_pure ?_)
    refine wpAny_bind (wpAny_of_eq isSubtype_str_str ?_)
    refine wpAny_bind (m := Str.strOf (.ref a)) (wpAny_mono (Q := fun r s' => R (.ok (.ret r)) s') ?_ (fun r s' h' => wpAny_pure ⟨_, rfl, h'⟩) fun _ _ e => e)
    unfold Str.strOf
    show wpAny _ _ (if PySem.Builtin.Str.isExactStr (.ref a) = true then _ else _) _ _ _
    rw [show PySem.Builtin.Str.isExactStr (.ref a) = false from rfl]
    refine wpAny_bind (wpAny_cRoomFor h.1 ?_)
    refine wpAny_bind (wpAny_mono h.2 (fun o s' ho => ?_) (fun _ _ f => f.elim))
    obtain ⟨z, tk, rfl, q⟩ := ho
    exact wpAny_pure q
theorem call_strO {X : Cx} {k : Nat} {f C : Addr} {fd : FuncData} {sp : Sp} {px : Str} (G : FnOk X.prog X.w X.K X.mg X.base CX0 k f fd [px] sp) (hr : Room (k + 2) X.A) (hb : Binds X.K fd [px] [])
    (hs : PySem.W.findIn X.K (.ref C) "__str__" = some (some (.ref f))) (hf : PySem.W.isFn X.K (.ref f) = true) : CallR X (.type "str") (rStrO C sp) := by
  intro pins s σ H xs us Q I r h
  obtain ⟨a, dx, fs, rfl, ha, hsp⟩ := h
  rw [Vals.ref1 r]
  obtain ⟨mA, O, _, _, _, _⟩ := ins_get I.hok ha
  obtain ⟨od, J, _⟩ := O.look
  have b' := hb s [.ref a] I.kIn rfl
  rw [List.append_nil] at b'
  have hu := hr.in1.un
  refine callType_newIn F.called_str (by decide) (F.typeCall_str_1 _) (F.newCall_str_1 _) (fun obj => F.args_object_init_2 obj _) F.entry_str_new str_own_new ⟨?_, ?_⟩
  · have := hr.in1.in1.un
    omega
  have run := G.run X.A.in1.in1 X.stack s H ⟨[.ref a], []⟩ [.ref a] [.ref a] _ E0 hr.in1.in1 I.env0.in1.in1 b' (.cons rfl .nil) hsp
  refine PySem.W.special_fn I.kIn J hs (beq_iff_eq.mp hf) (wpAny_call (codeAny_mono run ?_))
  intro rr s2 hq2
  cases rr with
  | error e => exact hq2.elim
  | ok fl =>
    cases fl with
    | next => exact hq2.elim
    | brk => exact hq2.elim
    | cont => exact hq2.elim
    | ret u =>
      obtain ⟨y, H2, J2, ry, z, ey, q⟩ := I.after hq2
      subst ey
      obtain ⟨tk, rfl⟩ := ry
      exact ⟨z, tk, rfl, typeIs_str _ _ _, .str z, H2, J2, ⟨_, rfl⟩, q⟩
end LF

set_option Elab.async false
set_option linter.all false
set_option maxRecDepth 100000
set_option maxHeartbeats 4000000
namespace K6
open PySem PySem.Spec PyProof.Rows L2 LF TL
theorem empty_app (x : Str) : Str.empty ++ x = x := ext_tl (by rw [tl_append]; rfl)
/-- an item that a package may have -/
theorem item_of {v : V} (h : Plain v ∧ itemV v = true) : v = .non ∨ (∃ i : Int, v = .int i ∧ i.natAbs ≤ 999999999999) ∨ ∃ t : Str, v = .str t ∧ isTg t = true ∧ t.length ≤ 1000000 := by
  rcases h with ⟨rfl | ⟨i, rfl⟩ | ⟨z, rfl, hz⟩, h2⟩
  · exact Or.inl rfl
  · refine Or.inr (Or.inl ⟨i, rfl, ?_⟩)
    have h3 : (decide ((if i < 0 then -i else i) ≤ 999999999999) || false) = true := h2
    rw [Bool.or_false, decide_eq_true_eq] at h3
    split at h3 <;> omega
  · refine Or.inr (Or.inr ⟨z, rfl, ?_, hz⟩)
    have h3 : (false || isTg z) = true := h2
    rw [Bool.false_or] at h3
    exact h3
def spRowOf : Sp := fun vs H Q _ => ∃ (p : Str) (v : V), vs = [.str p, v] ∧ p.length ≤ 1000000 ∧ Plain v ∧ itemV v = true ∧ ∀ H', Same H H' → Q (.str (rowS p v)) H'
def spWrit : Sp := fun vs H Q _ => ∃ (t : Str), vs = [.str t] ∧ t.length ≤ 1000000 ∧ ∀ H', Same H H' → Q (.str (if t = "" then ("." : Str) else t)) H'
abbrev s_row_of : Stmt := topS 39
abbrev N_row_of : List Str := ["path", "item"]
theorem sc_row_of : FnScope ["path", "item"] ["path", "item"] (defScope s_row_of) := ⟨rfl, rfl, rfl, by decide +kernel, rfl, by decide +kernel, by decide +kernel⟩
abbrev s_written_path : Stmt := topS 40
abbrev N_written_path : List Str := ["path"]
theorem sc_written_path : FnScope ["path"] ["path"] (defScope s_written_path) := ⟨rfl, rfl, rfl, by decide +kernel, rfl, by decide +kernel, by decide +kernel⟩
theorem isPl_len {p : Str} (h : isPl p = true) : p.length ≤ 90 := by
  obtain ⟨ns, rfl, hn, _, _, h2⟩ := isPl_names h
  have := join_len_le hn
  omega
theorem isTg_len {t : Str} (h : isTg t = true) : t.length ≤ 80 := by
  unfold isTg at h
  rw [Bool.and_eq_true, decide_eq_true_eq] at h
  by_cases h0 : t = ""
  · rw [h0]; decide +kernel
  · have hn : ∀ s ∈ parts t, isNm s = true := by
      have h1 := h.1
      unfold isPt at h1
      rw [decide_eq_false h0, Bool.false_or, List.all_eq_true] at h1
      unfold parts
      rw [if_neg h0]
      exact h1
    have h2 := join_len_le hn
    rw [join_parts h0] at h2
    have := h.2
    omega
theorem rowS_len {p : Str} {v : V} (hp : isPl p = true) (hv : Plain v ∧ itemV v = true) : (rowS p v).length ≤ 200 := by
  have a1 : (" folder" : Str).length = 7 := by decide +kernel
  have a2 : (" to " : Str).length = 4 := by decide +kernel
  have a3 : (" file " : Str).length = 6 := by decide +kernel
  have a4 : ("." : Str).length = 1 := by decide +kernel
  have h1 := isPl_len hp
  rcases item_of hv with rfl | ⟨i, rfl, hi⟩ | ⟨t, rfl, ht, _⟩
  · show (p ++ " folder" : Str).length ≤ 200
    rw [len_app]; omega
  · have := int_len hi
    show (p ++ " file " ++ Str.ofString (toString i) : Str).length ≤ 200
    rw [len_app, len_app]; omega
  · have h2 := isTg_len ht
    have h3 : (if t = "" then ("." : Str) else t).length ≤ 80 := by
      split
      · rw [a4]; omega
      · exact h2
    show (p ++ " to " ++ (if t = "" then ("." : Str) else t) : Str).length ≤ 200
    rw [len_app, len_app]; omega
/-- a package's text -/
def rowsK (es : List (Str × V)) : List Str := es.map fun e => rowS e.1 e.2
def textS (es : List (Str × V)) : Str := PySem.Txt.join "\n" (rowsK es)
theorem rowsK_len (es : List (Str × V)) : (rowsK es).length = es.length := by unfold rowsK; exact List.length_map _
def spStr (C : Addr) : Sp := fun vs H Q _ => ∃ p es, vs = [.ref p] ∧ PkAt C H p es ∧ OkE es ∧ es.length ≤ 1000 ∧ ∀ H', Same H H' → Q (.str (textS es)) H'
abbrev s_str : Stmt := inClass s_Package 18
abbrev N_str : List Str := ["self", "path"]
theorem sc_str : FnScope ["self", "path"] ["self"] (defScope s_str) := ⟨rfl, rfl, rfl, by decide +kernel, rfl, by decide +kernel, by decide +kernel⟩
section
variable {P : Program} {w : World} {K : PySem.W.Frag} {mg : Str → Option Value} {base : Heap} {tk1 tk2 : Tok}
theorem ok_written {f : Addr} {fd : FuncData} (F : Fun K "written_path" "written_path" s_written_path f fd) : FnOk P w K mg base CX0 1 f fd ["path"] spWrit := by
  refine F.ok sc_written_path (fun vs H Q E h => ?_) (fun cdv A outer s H vs Q E hr h => ?_)
  · obtain ⟨t, rfl, _⟩ := h
    rfl
  refine ⟨_, (pss_cons (ps_if (pt_cmpR op_eq (pv 0) pe_str (nomark _)) (pss_one (ps_ret pe_str)) pss_nil)
    (pss_one (ps_ret (pv 0)))), ?_⟩
  obtain ⟨t, rfl, ht, hq⟩ := h
  refine ⟨_, rfl, rfl, _, rfl, ?_⟩
  rw [str_dec]
  refine ifD (fun h1 => ?_) (fun h1 => ?_)
  · rw [if_pos h1] at hq; exact hq H (Same.refl H)
  · rw [if_neg h1] at hq; exact ⟨_, rfl, hq H (Same.refl H)⟩
theorem ok_row_of {f f1 : Addr} {fd fd1 : FuncData} (F : Fun K "row_of" "row_of" s_row_of f fd) (T : Txt K mg tk1 tk2) (d_wp : DefAt P w K mg base "written_path" 1 f1 fd1 ["path"] spWrit) : FnOk P w K mg base CX0 2 f fd ["path", "item"] spRowOf := by
  refine F.ok sc_row_of (fun vs H Q E h => ?_) (fun cdv A outer s H vs Q E hr h => ?_)
  · obtain ⟨p, v, rfl, _⟩ := h
    rfl
  refine ⟨_, (pss_cons (ps_if (pt_cmpR op_isN (pv 1) pe_non (nomark _)) (pss_one (ps_ret (pe_joined (PJ.cons (pe_fmt (pv 0)) (PJ.cons pe_str PJ.nil))))) pss_nil)
    (pss_cons (ps_if (pt_val (pe_callB call_isi (by rfl) T.n_isinstance (by decide +kernel) (pa_cons (pv 1) (pa_cons (pe_bltn (v := .ty "int") (by rfl) T.n_int (by decide +kernel) rfl) pa_nil)))) (pss_one (ps_ret (pe_joined (PJ.cons (pe_fmt (pv 0)) (PJ.cons pe_str (PJ.cons (pe_fmt (pv 1)) PJ.nil)))))) pss_nil)
    (pss_one (ps_ret (pe_joined (PJ.cons (pe_fmt (pv 0)) (PJ.cons pe_str (PJ.cons (pe_fmt (pe_callD d_wp (hr.mono (by decide)) (pa_cons (pv 1) pa_nil))) PJ.nil)))))))), ?_⟩
  obtain ⟨p, v, rfl, hp, hpl, hit, hq⟩ := h
  have hbig := sizeLine_big
  have big2 : 3000000 ≤ sizeLine := by decide
  have a1 : (" folder" : Str).length = 7 := by decide +kernel
  have a2 : (" to " : Str).length = 4 := by decide +kernel
  have a3 : (" file " : Str).length = 6 := by decide +kernel
  have a4 : ("." : Str).length = 1 := by decide +kernel
  have l0 : Str.empty.length = 0 := rfl
  rcases item_of ⟨hpl, hit⟩ with rfl | ⟨i, rfl, hi⟩ | ⟨t, rfl, ht, htl⟩
  · refine ⟨_, rfl, rfl, _, rfl, ?_⟩
    refine ifD (fun _ => ?_) (fun h => absurd rfl h)
    have e : Str.empty ++ p ++ " folder" = rowS p .non := by rw [empty_app]; rfl
    refine ⟨_, rfl, Or.inl ⟨p, rfl, by omega, _, rfl, by rw [len_app, l0]; omega, _, rfl, by rw [len_app, len_app, l0]; omega, ?_⟩⟩
    show Q (.str (Str.empty ++ p ++ " folder")) H
    rw [e]
    exact hq H (Same.refl H)
  · refine ⟨_, rfl, rfl, _, rfl, ?_⟩
    refine ifD (fun h => (nomatch h)) (fun _ => ?_)
    refine ⟨_, rfl, _, .ty "int", _, _, true, rfl, .ty _, .base (.int i), kit_ty (by decide +kernel), _, rfl, iteT ?_⟩
    have h13 := int_len hi
    have e : Str.empty ++ p ++ " file " ++ Str.ofString (toString i) = rowS p (.int i) := by rw [empty_app]; rfl
    refine ⟨_, rfl, Or.inl ⟨p, rfl, by omega, _, rfl, by rw [len_app, l0]; omega, _, rfl, by rw [len_app, len_app, l0]; omega, ?_⟩⟩
    refine ⟨_, rfl, Or.inr ⟨i, rfl, log_small hi, _, rfl, by rw [len_app, len_app, len_app, l0]; omega, ?_⟩⟩
    show Q (.str (Str.empty ++ p ++ " file " ++ Str.ofString (toString i))) H
    rw [e]
    exact hq H (Same.refl H)
  · refine ⟨_, rfl, rfl, _, rfl, ?_⟩
    refine ifD (fun h => (nomatch h)) (fun _ => ?_)
    refine ⟨_, rfl, _, .ty "int", _, _, false, rfl, .ty _, .base (.str t), kit_ty (by decide +kernel), _, rfl, iteF ?_⟩
    have e : Str.empty ++ p ++ " to " ++ (if t = "" then ("." : Str) else t) = rowS p (.str t) := by rw [empty_app]; rfl
    have hx : (if t = "" then ("." : Str) else t).length ≤ 1000000 := by
      split
      · rw [a4]; omega
      · exact htl
    refine ⟨_, rfl, Or.inl ⟨p, rfl, by omega, _, rfl, by rw [len_app, l0]; omega, _, rfl, by rw [len_app, len_app, l0]; omega, ?_⟩⟩
    refine ⟨_, rfl, t, rfl, htl, fun H1 s1 => ?_⟩
    refine Or.inl ⟨_, rfl, by omega, _, rfl, by rw [len_app, len_app, len_app, l0]; omega, ?_⟩
    show Q (.str (Str.empty ++ p ++ " to " ++ (if t = "" then ("." : Str) else t))) H1
    rw [e]
    exact hq H1 s1
theorem ok_str {f f1 C : Addr} {fd fd1 : FuncData} (F : Fun K "__str__" "Package.__str__" s_str f fd) (R : PkTxt K mg C) (d_row : DefAt P w K mg base "row_of" 2 f1 fd1 ["path", "item"] spRowOf) : FnOk P w K mg base CX0 3 f fd ["self"] (spStr C) := by
  refine F.ok sc_str (fun vs H Q E h => ?_) (fun cdv A outer s H vs Q E hr h => ?_)
  · obtain ⟨p, es, rfl, _⟩ := h
    rfl
  have hu1 := hu_of hr
  refine ⟨_, pss_one (ps_ret (pe_join pe_str (pe_lock (pe_lc (own := [("path", 1)]) rfl sc_str.nd (pi_keys (pe_fld (pv 0) rfl)) (blkOk_by (N := N_str) (sc := defScope s_str) (by decide +kernel)) (fun _ _ _ _ _ => pg_name (i := 1) sc_str.nd rfl (Or.inl rfl)) (fun _ _ _ _ _ => pts_nil) (fun _ _ _ _ _ => pe_callD d_row (hr.mono (by decide)) (pa_cons (pv 1) (pa_cons (pe_dget hu1 (show PE _ _ (tFld K (tVar 0) "entries") from pe_fld (pv 0) rfl) (pv 1) (fun _ _ => rfl)) pa_nil))))))), ?_⟩
  obtain ⟨p, es, rfl, ⟨dx, d, ⟨xx_hp, hp, zz_hp⟩, hd⟩, ok, hl, hq⟩ := h
  have npd : p ≠ d := ne_of hp hd (by intro z; cases z)
  refine ⟨⟨_, rfl⟩, d, _, hd, True.intro, fun od => ?_⟩
  refine ⟨_, rfl, p, C, dx, _, _, rfl, (by rw [upd_ne npd]; exact hp), R.cl, R.nE, lk_entries d, ?_⟩
  refine ⟨d, od, rfl, Or.inl ⟨kv es, upd_same, fun D hD => ?_⟩⟩
  have hl0 : (upd H d (.frz od (.dK (kv es)))) d = some (.frz od (.dK (kv es))) := upd_same
  have hp0 : (upd H d (.frz od (.dK (kv es)))) p = some (.ins C dx (pkFs d xx_hp)) := by rw [upd_ne npd]; exact hp
  have hs0 : ∀ H', Same (upd H d (.frz od (.dK (kv es)))) H' → Same H (upd H' d (.dK (kv es))) := fun H' s' => same_unlock hd s'
  generalize (upd H d (.frz od (.dK (kv es)))) = L at hl0 hp0 hs0 hD
  have hbig := sizeLine_big
  have hkl : (kv es).length = es.length := kv_len es
  refine lc_it walk_keys (fun i H' => Same L H' ∧ H' D = some (.lst (((rowsK es).take i).map V.str))) ⟨same_new hD, by rw [upd_same]; rfl⟩ (fun i H' _ h => h.1 _ _ hl0) ?_ ?_
  · rintro i x H1 H2 hi ⟨sm, hd1⟩ ⟨rfl, k, v, hk, rfl⟩
    obtain ⟨pth, rfl, he, hm⟩ := kv_get hk
    obtain ⟨o1, o2⟩ := ok.pl _ hm
    obtain ⟨o3, o4⟩ := ok.it _ hm
    have hv := val_mem ok.nd hm
    have hg : DGet H2 d (.str pth) (some v) := .inl ⟨kv es, .inr pth, .inr ⟨od, sm _ _ hl0⟩, rfl, hv.symm⟩
    refine ⟨rfl, _, rfl, _, rfl, p, C, dx, _, _, rfl, sm _ _ hp0, R.cl, R.nE, lk_entries d, ?_⟩
    refine ⟨_, rfl, d, v, rfl, hg, pth, v, rfl, by have := isPl_len o1; omega, o3, o4, fun H4 s4 => ?_⟩
    have hr : (rowsK es)[i]? = some (rowS pth v) := by
      unfold rowsK
      rw [List.getElem?_map, he]; rfl
    refine ⟨_, s4 _ _ hd1, ?_, fun b o e => ?_, ?_⟩
    · rw [List.length_map, List.length_take]
      rw [hkl] at hi
      omega
    · rw [upd_ne (ne_of_none e hD)]; exact s4 _ _ (sm _ _ e)
    · have et : (rowsK es).take (i + 1) = (rowsK es).take i ++ [rowS pth v] := by rw [List.take_add_one, hr]; rfl
      rw [upd_same, et, List.map_append]; rfl
  · rintro H1 ⟨sm, hd1⟩
    rw [hkl, List.take_of_length_le (by rw [rowsK_len]; exact Nat.le_refl _)] at hd1
    refine ⟨sm _ _ hl0, ?_⟩
    have nDd : D ≠ d := Ne.symm (ne_of_none hl0 hD)
    have hsum := sum_le (ss := rowsK es) (n := 200) fun s hs => by
      unfold rowsK at hs
      obtain ⟨e, he, rfl⟩ := List.mem_map.mp hs
      exact rowS_len (ok.pl e he).1 (ok.it e he)
    rw [rowsK_len] at hsum
    have c1 : ("\n" : Str).length = 1 := by decide +kernel
    refine ⟨_, D, rowsK es, rfl, rfl, Or.inl (SqL.of (by rw [upd_ne nDd]; exact hd1)), ?_, hq _ (hs0 _ sm)⟩
    show ((rowsK es).map (·.length)).sum + (rowsK es).length * ("\n" : Str).length ≤ 16777216
    rw [c1, rowsK_len]
    omega
end
end K6

set_option Elab.async false
set_option linter.all false
set_option maxRecDepth 100000
set_option maxHeartbeats 4000000
namespace LF
open PySem PySem.Spec PyProof.Rows L2 TL
theorem pre_one (s c : Nat) (r : List Nat) : pre [s] (c :: r) = decide (c = s) := by
  unfold pre
  show ([c] == [s]) = _
  by_cases h : c = s
  · subst h; simp
  · simp [h]
/-- what a list is cut into at a sign -/
theorem spl_facts {s : Nat} : ∀ (l acc : List Nat), s ∉ acc → (∀ p ∈ spl [s] 0 acc l, s ∉ p) ∧ (spl [s] 0 acc l).length = l.count s + 1 ∧ ((spl [s] 0 acc l).map List.length).sum + l.count s = acc.length + l.length
  | [], acc, h => by
    rw [spl_nil]
    exact ⟨fun p hp => by rw [List.mem_singleton.mp hp]; exact h, rfl, by simp⟩
  | c :: r, acc, h => by
    by_cases hc : c = s
    · subst hc
      obtain ⟨h1, h2, h3⟩ := spl_facts (s := c) r [] (by simp)
      rw [spl_hit (by rw [pre_one]; exact decide_eq_true rfl)]
      have e0 : ([c] : List Nat).length - 1 = 0 := rfl
      rw [e0]
      refine ⟨fun p hp => ?_, ?_, ?_⟩
      · rcases List.mem_cons.mp hp with rfl | hp
        · exact h
        · exact h1 p hp
      · rw [List.length_cons, h2, List.count_cons_self]
      · rw [List.map_cons, List.sum_cons, List.count_cons_self, List.length_cons]
        rw [List.length_nil] at h3
        omega
    · have hp : pre [s] (c :: r) = false := by rw [pre_one]; exact decide_eq_false hc
      rw [spl_miss hp]
      obtain ⟨h1, h2, h3⟩ := spl_facts (s := s) r (acc ++ [c]) (by
        rw [List.mem_append, List.mem_singleton]
        exact fun q => q.elim h (fun e => hc e.symm))
      refine ⟨h1, ?_, ?_⟩
      · rw [h2, List.count_cons_of_ne hc]
      · rw [List.count_cons_of_ne hc, List.length_cons]
        rw [List.length_append, List.length_singleton] at h3
        omega
def sumL (l : List Str) : Nat := (l.map (·.length)).sum
theorem sumL_tl (l : List Str) : sumL l = ((l.map tl).map List.length).sum := by
  unfold sumL
  rw [List.map_map]
  congr 1
theorem split_facts {y z : Str} {s : Nat} (ey : tl y = [s]) (hk : y.cps.all (· < 256) = true) : (∀ r ∈ PySem.Txt.split z y, s ∉ tl r) ∧ (PySem.Txt.split z y).length = (tl z).count s + 1 ∧ sumL (PySem.Txt.split z y) + (tl z).count s = z.length := by
  have e := split_spl z y (by rw [ey]; simp) (kind_ok hk)
  rw [ey] at e
  obtain ⟨h1, h2, h3⟩ := spl_facts (s := s) (tl z) [] (by simp)
  rw [← e] at h1 h2 h3
  refine ⟨fun r hr => h1 _ (List.mem_map.mpr ⟨r, hr, rfl⟩), ?_, ?_⟩
  · rw [List.length_map] at h2; exact h2
  · rw [sumL_tl, len_tl]
    rw [List.length_nil] at h3
    omega
theorem join_facts {y : Str} {s : Nat} (ey : tl y = [s]) : ∀ l : List Str, (PySem.Txt.join y l).length ≤ sumL l + l.length ∧ ∀ t, (tl (PySem.Txt.join y l)).count t ≤ (l.map fun r => (tl r).count t).sum + (if s = t then l.length - 1 else 0)
  | [] => by
    rw [join_eq, len_tl, tl_join]
    exact ⟨Nat.zero_le _, fun t => Nat.zero_le _⟩
  | [a] => by
    rw [join_eq, len_tl, tl_join]
    refine ⟨?_, fun t => ?_⟩
    · show (tl a).length ≤ _
      unfold sumL
      rw [← len_tl]
      simp
    · show (tl a).count t ≤ _
      simp
  | a :: b :: l => by
    obtain ⟨h1, h2⟩ := join_facts ey (b :: l)
    rw [join_eq, len_tl, tl_join] at h1
    simp only [join_eq, tl_join] at h2
    rw [join_eq, len_tl, tl_join]
    have e : joinL (tl y) ((a :: b :: l).map tl) = tl a ++ (tl y ++ joinL (tl y) ((b :: l).map tl)) := rfl
    rw [e, ey]
    rw [ey] at h1 h2
    refine ⟨?_, fun t => ?_⟩
    · have ha : (tl a).length = a.length := (len_tl a).symm
      have hs : sumL (a :: b :: l) = a.length + sumL (b :: l) := by unfold sumL; rw [List.map_cons, List.sum_cons]
      have h1' : ([s] : List Nat).length = 1 := rfl
      rw [List.length_append, List.length_append, h1', hs, List.length_cons (a := a)]
      omega
    · have h3 := h2 t
      rw [List.count_append, List.count_append]
      have e5 : ((a :: b :: l).map fun r => (tl r).count t).sum = (tl a).count t + ((b :: l).map fun r => (tl r).count t).sum := by rw [List.map_cons, List.sum_cons]
      rw [e5]
      have h4 : ([s] : List Nat).count t = if s = t then 1 else 0 := by
        by_cases h : s = t
        · subst h; simp
        · rw [if_neg h]; simp [h]
      rw [h4]
      simp only [List.length_cons] at h3 ⊢
      split
      · rename_i h; rw [if_pos h] at h3; omega
      · rename_i h; rw [if_neg h] at h3; omega
theorem mem_join {y : Str} : ∀ {l : List Str} {c : Nat}, c ∈ tl (PySem.Txt.join y l) → c ∈ tl y ∨ ∃ r ∈ l, c ∈ tl r := by
  intro l c h
  rw [join_eq, tl_join] at h
  induction l with
  | nil => exact nomatch h
  | cons a l ih =>
    cases l with
    | nil => exact Or.inr ⟨a, List.mem_singleton_self _, h⟩
    | cons b l =>
      have h3 : c ∈ tl a ++ (tl y ++ joinL (tl y) ((b :: l).map tl)) := h
      rcases List.mem_append.mp h3 with q | q
      · exact Or.inr ⟨a, List.mem_cons_self, q⟩
      · rcases List.mem_append.mp q with q | q
        · exact Or.inl q
        · rcases ih q with q | ⟨r, hr, q⟩
          · exact Or.inl q
          · exact Or.inr ⟨r, List.mem_cons_of_mem _ hr, q⟩
end LF

set_option Elab.async false
set_option linter.all false
set_option maxRecDepth 100000
set_option maxHeartbeats 4000000
namespace K6
open PySem PySem.Spec PyProof.Rows L2 LF TL
theorem app_assoc (x y z : Str) : x ++ y ++ z = x ++ (y ++ z) := ext_tl (by rw [tl_append, tl_append, tl_append, tl_append, List.append_assoc])
theorem join2 (y a b : Str) : PySem.Txt.join y [a, b] = a ++ y ++ b := by
  apply ext_tl
  rw [join_eq, tl_join, tl_append, tl_append]
  show tl a ++ (tl y ++ tl b) = _
  rw [List.append_assoc]
theorem join3 (y a b c : Str) : PySem.Txt.join y [a, b, c] = a ++ y ++ b ++ y ++ c := by
  apply ext_tl
  rw [join_eq, tl_join, tl_append, tl_append, tl_append, tl_append]
  show tl a ++ (tl y ++ (tl b ++ (tl y ++ tl c))) = _
  simp only [List.append_assoc]
theorem join_cut (z y : Str) : PySem.Txt.join y (PySem.Txt.split z y) = z := by
  rw [join_eq]
  exact PySem.StrLaws.join_split _ _
theorem contentS_text {z : Str} {n : Int} (h : contentS z = some (some n)) : Str.ofString (toString n) = z := by
  unfold contentS at h
  simp only at h
  generalize PySem.Txt.removeprefix z "-" = d at h
  by_cases h1 : 1000000 < d.length
  · rw [if_pos h1] at h; cases h
  rw [if_neg h1] at h
  by_cases h2 : 12 < d.length ∨ d = ""
  · rw [if_pos h2] at h; cases h
  rw [if_neg h2] at h
  by_cases h3 : (d.cps.toList.map fun c => decide (c ∈ digs.cps.toList)).all id = true
  · rw [if_pos h3] at h
    cases hi : PySem.intText? z with
    | none => rw [hi] at h; cases h
    | some m =>
      rw [hi] at h
      simp only at h
      by_cases h5 : z.length ≤ 640 ∧ m.natAbs.log2 < 1920
      · rw [if_pos h5] at h
        by_cases h6 : Str.ofString (toString m) = z
        · rw [if_pos h6] at h; cases h; exact h6
        · rw [if_neg h6] at h; cases h
      · rw [if_neg h5] at h; cases h
  · rw [if_neg h3] at h; cases h
theorem entry_row {z p : Str} {v : V} (h : entryS z = some (some (p, v))) : rowS p v = z := by
  unfold entryS at h
  have hj := join_cut z " "
  have f1 : (" folder" : Str) = " " ++ "folder" := by decide +kernel
  have f2 : (" file " : Str) = " " ++ "file" ++ " " := by decide +kernel
  have f3 : (" to " : Str) = " " ++ "to" ++ " " := by decide +kernel
  generalize PySem.Txt.split z " " = ws at h hj
  cases ws with
  | nil => cases h
  | cons w0 rest =>
    simp only at h
    cases hp : isPl w0 with
    | false => rw [hp, if_neg Bool.false_ne_true] at h; cases h
    | true =>
      rw [hp, if_pos rfl] at h
      by_cases h1 : rest = [("folder" : Str)]
      · rw [if_pos h1] at h
        cases h
        subst h1
        rw [join2] at hj
        show p ++ (" folder" : Str) = z
        rw [f1, ← hj, app_assoc]
      · rw [if_neg h1] at h
        match rest, h, hj with
        | [], h, _ => cases h
        | [a], h, _ => cases h
        | a :: b :: c :: l, h, _ => cases h
        | [a, b], h, hj =>
          simp only at h
          rw [join3] at hj
          by_cases h2 : a = "file"
          · rw [if_pos h2] at h
            cases hc : contentS b with
            | none => rw [hc] at h; cases h
            | some o => rw [hc] at h; cases o with
              | none => cases h
              | some n =>
                cases h
                show p ++ (" file " : Str) ++ Str.ofString (toString n) = z
                rw [contentS_text hc, ← hj, h2, f2]
                simp only [app_assoc]
          · rw [if_neg h2] at h
            by_cases h3 : a = "to"
            · rw [if_pos h3] at h
              cases hc : targetS b with
              | none => rw [hc] at h; cases h
              | some t =>
                rw [hc] at h
                cases h
                have ht : (if t = "" then ("." : Str) else t) = b := by
                  unfold targetS at hc
                  by_cases h4 : b = "."
                  · rw [if_pos h4] at hc
                    cases hc
                    rw [if_pos rfl, h4]
                  · rw [if_neg h4] at hc
                    by_cases h5 : b = ""
                    · rw [if_pos h5] at hc; cases hc
                    · rw [if_neg h5] at hc
                      by_cases h6 : isTg b = true
                      · rw [if_pos h6] at hc
                        cases hc
                        rw [if_neg h5]
                      · rw [if_neg h6] at hc; cases hc
                show p ++ (" to " : Str) ++ (if t = "" then ("." : Str) else t) = z
                rw [ht, ← hj, h3, f3]
                simp only [app_assoc]
            · rw [if_neg h3] at h; cases h
theorem readR_rows : ∀ (rows : List Str) (i : Nat) (es : List (Str × V)) (last : Str) (kvs : List (Key × V)), (∀ r ∈ rows, r.length ≤ 1000000) → Got es last → readR rows i (kv es) last = some (.ok kvs) →
    ∃ es' last', kvs = kv es' ∧ Got es' last' ∧ rowsK es' = rowsK es ++ rows
  | [], i, es, last, kvs, hl, g, h => by
    unfold readR at h
    cases h
    exact ⟨es, last, rfl, g, (List.append_nil _).symm⟩
  | row :: rest, i, es, last, kvs, hl, g, h => by
    unfold readR at h
    have hr := hl row List.mem_cons_self
    cases he : entryS row with
    | none => rw [he] at h; cases h
    | some o =>
      rw [he] at h
      cases o with
      | none => cases h
      | some pv =>
        obtain ⟨p, v⟩ := pv
        simp only at h
        obtain ⟨hp, hpl⟩ := entryS_pl he
        by_cases hc : contS (kv es) last p = true
        · rw [if_pos hc] at h
          obtain ⟨h1, h2⟩ := g.next hp (by omega) (entryS_it hr he) hc
          rw [h1] at h
          obtain ⟨es', last', e1, e2, e3⟩ := readR_rows rest (i + 1) _ p kvs (fun r hr' => hl r (List.mem_cons_of_mem _ hr')) h2 h
          refine ⟨es', last', e1, e2, ?_⟩
          have e4 : rowsK (es ++ [(p, v)]) = rowsK es ++ [row] := by
            unfold rowsK
            rw [List.map_append, List.map_singleton, entry_row he]
          rw [e3, e4, List.append_assoc]; rfl
        · rw [if_neg hc] at h; cases h
/-- a text that is read is the text of what was read -/
theorem readT_text {z : Str} {kvs : List (Key × V)} (hz : z.length ≤ 999990) (h : readT z = some (.ok kvs)) : ∃ es, kvs = kv es ∧ OkE es ∧ textS es = z ∧ es.length ≤ (tl z).count 10 + 1 := by
  unfold readT at h
  by_cases h1 : z = ""
  · rw [if_pos h1] at h
    cases h
    refine ⟨[], rfl, Got.nil.okE (by decide), ?_, Nat.zero_le _⟩
    rw [h1]; decide +kernel
  · rw [if_neg h1] at h
    have hw := split_le z "\n"
    obtain ⟨es, last, e1, g, e2⟩ := readR_rows (PySem.Txt.split z "\n") 0 [] "" kvs (fun r hr => by have := part_short hr; omega) Got.nil h
    have e3 : rowsK es = PySem.Txt.split z "\n" := by rw [e2]; rfl
    have e4 : es.length = (PySem.Txt.split z "\n").length := by rw [← e3, rowsK_len]
    obtain ⟨_, f2, _⟩ := split_facts (y := "\n") (z := z) (s := 10) (by decide +kernel) (by decide +kernel)
    refine ⟨es, e1, g.okE (by omega), ?_, by omega⟩
    unfold textS
    rw [e3]
    exact join_cut z "\n"
end K6

set_option Elab.async false
set_option linter.all false
set_option maxRecDepth 100000
set_option maxHeartbeats 4000000
namespace K6
open PySem PySem.Spec PyProof.Rows L2 LF TL
theorem tl_cut (z : Str) (lo hi : Option Int) : tl (cutS z lo hi) = (((tl z).drop (HT.sIx z.length 0 lo)).take (HT.sIx z.length z.length hi - HT.sIx z.length 0 lo)) := by
  unfold cutS
  rfl
theorem tl_to (z : Str) (k : Nat) : tl (cutS z none (some (k : Int))) = (tl z).take k := by
  rw [tl_cut, HT.sIx_none, HT.sIx_nat, List.drop_zero, Nat.sub_zero]
  have e : (tl z).length = z.length := (len_tl z).symm
  by_cases h : k ≤ z.length
  · rw [Nat.min_eq_left h]
  · rw [Nat.min_eq_right (by omega), List.take_of_length_le (by omega), List.take_of_length_le (by omega)]
theorem tl_from (z : Str) (k : Nat) : tl (cutS z (some (k : Int)) none) = (tl z).drop k := by
  rw [tl_cut, HT.sIx_none, HT.sIx_nat]
  have e : (tl z).length = z.length := (len_tl z).symm
  by_cases h : k ≤ z.length
  · rw [Nat.min_eq_left h]
    exact List.take_of_length_le (by rw [List.length_drop]; omega)
  · rw [Nat.min_eq_right (by omega), List.drop_of_length_le (by omega), List.drop_of_length_le (by omega), List.take_nil]
/-- the digits of a word, as the law cuts them -/
def dgS (z : Str) : Str := if cutS z none (some 1) = "-" then cutS z (some 1) none else z
theorem dash : tl ("-" : Str) = [45] := by decide +kernel
theorem dg_pos {z : Str} {r : List Nat} (h : tl z = 45 :: r) : dgS z = ⟨r.toArray⟩ ∧ PySem.Txt.removeprefix z "-" = ⟨r.toArray⟩ := by
  have hc : cutS z none (some 1) = "-" := ext_tl (by
    have := tl_to z 1
    rw [show ((1 : Nat) : Int) = 1 from rfl] at this
    rw [this, h, dash]; rfl)
  have hd : cutS z (some 1) none = ⟨r.toArray⟩ := ext_tl (by
    have := tl_from z 1
    rw [show ((1 : Nat) : Int) = 1 from rfl] at this
    rw [this, h]; rfl)
  refine ⟨by unfold dgS; rw [if_pos hc, hd], ?_⟩
  have em : ("-" : Str) = ⟨#[45]⟩ := by decide +kernel
  have hz : z.length = r.length + 1 := by rw [len_tl, h, List.length_cons]
  rw [StrLaws.removeprefix_eq, em]
  have h1 := (StrLaws.subAt_one z 45 0).mpr (by show (tl z)[0]? = some 45; rw [h]; rfl)
  rw [if_pos (by rw [Bool.and_eq_true, decide_eq_true_eq]; exact h1)]
  apply ext_tl
  show ((tl z).drop 1).take (z.length - 1) = r
  rw [h]
  exact List.take_of_length_le (by show r.length ≤ _; omega)
theorem dg_neg {z : Str} (h : (tl z).head? ≠ some 45) : dgS z = z ∧ PySem.Txt.removeprefix z "-" = z := by
  have hc : ¬ cutS z none (some 1) = "-" := fun e => by
    have := tl_to z 1
    rw [show ((1 : Nat) : Int) = 1 from rfl, e, dash] at this
    cases hz : tl z with
    | nil => rw [hz] at this; cases this
    | cons a l =>
      rw [hz] at this
      have e2 : 45 = a := by
        have := congrArg List.head? this
        exact Option.some.inj this
      rw [hz, ← e2] at h
      exact h rfl
  refine ⟨by unfold dgS; rw [if_neg hc], ?_⟩
  have em : ("-" : Str) = ⟨#[45]⟩ := by decide +kernel
  rw [StrLaws.removeprefix_eq, em]
  refine if_neg fun e => ?_
  rw [Bool.and_eq_true, decide_eq_true_eq] at e
  have h1 := (StrLaws.subAt_one z 45 0).mp e
  have h2 : (tl z)[0]? = some 45 := h1
  rw [← List.head?_eq_getElem?] at h2
  exact h h2
theorem dg_eq (z : Str) : PySem.Txt.removeprefix z "-" = dgS z := by
  by_cases h : (tl z).head? = some 45
  · cases hz : tl z with
    | nil => rw [hz] at h; cases h
    | cons a l =>
      rw [hz] at h
      cases h
      obtain ⟨h1, h2⟩ := dg_pos hz
      rw [h1, h2]
  · obtain ⟨h1, h2⟩ := dg_neg h
    rw [h1, h2]
theorem dg_len (z : Str) : (dgS z).length ≤ z.length ∧ z.length ≤ (dgS z).length + 1 := by
  by_cases h : (tl z).head? = some 45
  · cases hz : tl z with
    | nil => rw [hz] at h; cases h
    | cons a l =>
      rw [hz] at h
      cases h
      rw [(dg_pos hz).1]
      have e1 : (⟨l.toArray⟩ : Str).length = l.length := len_tl _
      have e2 : z.length = l.length + 1 := by rw [len_tl, hz, List.length_cons]
      omega
  · rw [(dg_neg h).1]; omega
def allDg (d : Str) : Bool := (tl d).all fun c => decide (c ∈ digs.cps.toList)
theorem content_no1 {z : Str} (hz : z.length ≤ 1000000) (h : ¬ (0 < (dgS z).length ∧ (dgS z).length < 13)) : contentS z = some none := by
  unfold contentS
  simp only
  rw [dg_eq]
  have hl := (dg_len z).1
  rw [if_neg (by omega), if_pos]
  by_cases h0 : (dgS z).length = 0
  · exact Or.inr (ext_tl (by
      have : (tl (dgS z)).length = 0 := by rw [← len_tl]; exact h0
      exact List.eq_nil_of_length_eq_zero this))
  · exact Or.inl (by omega)
theorem allDg_eq (d : Str) : (d.cps.toList.map fun c => decide (c ∈ digs.cps.toList)).all id = allDg d := by
  unfold allDg
  rw [List.all_map]; rfl
theorem content_no2 {z : Str} (hz : z.length ≤ 1000000) (h : allDg (dgS z) = false) : contentS z = some none := by
  unfold contentS
  simp only
  rw [dg_eq]
  have hl := (dg_len z).1
  rw [if_neg (by omega)]
  split
  · rfl
  · rw [allDg_eq, h, if_neg Bool.false_ne_true]
theorem num_ne {r : List Nat} (h : NumText.AllDigits r) (hr : r ≠ []) : numL (NumText.digitsVal (48 :: r)) ≠ 48 :: r := fun e => by
  have h1 : NumText.digitsVal (48 :: r) = NumText.digitsVal r := NumText.digitsVal_zero
  have h2 := val_lt r 0 fun c hc => (h c hc).2
  have h3 : 0 < r.length := List.length_pos_iff.mpr hr
  have h4 := numL_len (n := NumText.digitsVal r) (k := r.length) h3 (by unfold NumText.digitsVal; omega)
  rw [h1] at e
  rw [e, List.length_cons] at h4
  omega
theorem num_eq {c : Nat} {r : List Nat} (h : NumText.AllDigits (c :: r)) (hc : c ≠ 48) : numL (NumText.digitsVal (c :: r)) = c :: r := by
  have h0 := h.head
  unfold numL
  rw [NumText.toDigits_digitsVal r.length (c :: r) rfl h (Or.inr ⟨c, r, rfl, by omega⟩), List.map_map]
  have : ∀ l : List Nat, NumText.AllDigits l → l.map (Char.toNat ∘ Char.ofNat) = l := fun l hl => by
    induction l with
    | nil => rfl
    | cons a l ih =>
      rw [List.map_cons, ih hl.tail]
      have ha := hl.head
      have e : ∀ a, a ≤ 57 → 48 ≤ a → (Char.toNat ∘ Char.ofNat) a = a := by decide
      rw [e a ha.2 ha.1]
  exact this _ h
theorem content_val {z : Str} (hz : z.length ≤ 1000000) (h1 : 0 < (dgS z).length ∧ (dgS z).length < 13) (h2 : allDg (dgS z) = true) :
    ∃ n : Int, PySem.intText? z = some n ∧ n.natAbs ≤ 999999999999 ∧ z.length ≤ 13 ∧ contentS z = some (if (tl (dgS z)).head? ≠ some 48 ∨ z = "0" then some n else none) := by
  have hl := dg_len z
  have hall : NumText.AllDigits (tl (dgS z)) := fun c hc => by
    unfold allDg at h2
    rw [List.all_eq_true] at h2
    have h5 : c ∈ digs.cps.toList := of_decide_eq_true (h2 c hc)
    have h6 : ∀ x ∈ digs.cps.toList, 48 ≤ x ∧ x ≤ 57 := by decide +kernel
    exact h6 c h5
  have hdl : (tl (dgS z)).length = (dgS z).length := (len_tl _).symm
  have hne : tl (dgS z) ≠ [] := fun e => by rw [e, List.length_nil] at hdl; omega
  have hb := digitsVal_lt hall (by omega)
  -- what int gives, and whether its text is the word
  have key : ∃ n : Int, PySem.intText? z = some n ∧ n.natAbs ≤ 999999999999 ∧ ((Str.ofString (toString n) = z) ↔ ((tl (dgS z)).head? ≠ some 48 ∨ z = "0")) := by
    by_cases h : (tl z).head? = some 45
    · cases hzl : tl z with
      | nil => rw [hzl] at h; cases h
      | cons a l =>
        rw [hzl] at h
        cases h
        have hd := (dg_pos hzl).1
        rw [hd] at hall hne hb ⊢
        have et : tl (⟨l.toArray⟩ : Str) = l := rfl
        rw [et] at hall hne hb ⊢
        refine ⟨_, PySem.intText_neg hzl hall hne (by omega), by omega, ?_⟩
        have t0 : tl ("0" : Str) = [48] := by decide +kernel
        have hz0 : ¬ z = "0" := fun e => by rw [e, t0] at hzl; cases hzl
        cases l with
        | nil => exact absurd rfl hne
        | cons c r =>
          have hc0 := hall.head
          by_cases hc : c = 48
          · subst hc
            refine ⟨fun e => ?_, fun e => e.elim (fun q => absurd rfl q) (fun q => absurd q hz0)⟩
            have e2 := congrArg tl e
            rw [tl_int, hzl] at e2
            split at e2
            · have e3 := (List.cons.inj e2).2
              have e4 : (-((NumText.digitsVal (48 :: r) : Nat) : Int)).natAbs = NumText.digitsVal (48 :: r) := by omega
              rw [e4] at e3
              by_cases hr : r = []
              · subst hr
                rename_i hneg
                have : NumText.digitsVal [48] = 0 := by decide
                omega
              · exact absurd e3 (num_ne hall.tail hr)
            · have := numL_digits (-((NumText.digitsVal (48 :: r) : Nat) : Int)).natAbs 45 (by rw [e2]; exact List.mem_cons_self)
              omega
          · refine ⟨fun _ => Or.inl (fun q => hc (Option.some.inj q)), fun _ => ext_tl ?_⟩
            have hpos := NumText.digitsVal_pos (c := c) (cs := r) (by omega)
            rw [tl_int, if_pos (by omega), hzl]
            have e4 : (-((NumText.digitsVal (c :: r) : Nat) : Int)).natAbs = NumText.digitsVal (c :: r) := by omega
            rw [e4, num_eq hall hc]
    · have hd := (dg_neg h).1
      rw [hd] at hall hne hb ⊢
      have hb' : NumText.digitsVal z.cps.toList ≤ 999999999999 := hb
      refine ⟨_, PySem.intText_digits hall hne (by omega), by omega, ?_⟩
      cases hzl : tl z with
      | nil => exact absurd hzl hne
      | cons c r =>
        have hall' := hall
        rw [hzl] at hall'
        have ev : NumText.digitsVal z.cps.toList = NumText.digitsVal (c :: r) := congrArg _ hzl
        rw [ev]
        by_cases hc : c = 48
        · subst hc
          constructor
          · intro e
            refine Or.inr ?_
            by_cases hr : r = []
            · subst hr
              exact ext_tl (by rw [hzl]; decide +kernel)
            · have e2 := congrArg tl e
              rw [tl_num, hzl] at e2
              exact absurd e2 (num_ne hall'.tail hr)
          · intro e
            rcases e with e | e
            · exact absurd rfl e
            · have hr : r = [] := by
                rw [e] at hzl
                have : tl ("0" : Str) = [48] := by decide +kernel
                rw [this] at hzl
                exact (List.cons.inj hzl).2.symm
              subst hr
              rw [e]; decide +kernel
        · refine ⟨fun _ => Or.inl (fun q => hc (Option.some.inj q)), fun _ => ext_tl ?_⟩
          rw [tl_num, hzl, num_eq hall' hc]
  obtain ⟨n, e1, e2, e3⟩ := key
  refine ⟨n, e1, e2, by omega, ?_⟩
  unfold contentS
  simp only
  rw [dg_eq, if_neg (by omega), if_neg (by
    rintro (q | q)
    · omega
    · rw [q] at h1; exact absurd h1.1 (by decide +kernel)), allDg_eq, h2, if_pos rfl, e1]
  simp only
  rw [if_pos ⟨by omega, log_small e2⟩]
  congr 1
  by_cases hq : Str.ofString (toString n) = z
  · rw [if_pos hq, if_pos (e3.mp hq)]
  · rw [if_neg hq, if_neg (fun q => hq (e3.mpr q))]
end K6

set_option Elab.async false
set_option linter.all false
set_option maxRecDepth 100000
set_option maxHeartbeats 4000000
namespace K6
open PySem PySem.Spec PyProof.Rows L2 LF TL
theorem contentS_int {i : Int} (h : i.natAbs ≤ 999999999999) : contentS (Str.ofString (toString i)) = some (some i) := by
  have ht := tl_int i
  have hl := int_len h
  have hlog := log_small h
  generalize hz : Str.ofString (toString i) = z at ht hl
  have hnl : (numL i.natAbs).length ≤ 12 := numL_len (by decide) (by omega)
  have hnn := numL_ne i.natAbs
  have hdig := numL_digits i.natAbs
  have hval := numL_val i.natAbs
  have hd : tl (PySem.Txt.removeprefix z "-") = numL i.natAbs := by
    by_cases hi : i < 0
    · rw [if_pos hi] at ht
      rw [(dg_pos ht).2]
    · rw [if_neg hi] at ht
      have hh : (tl z).head? ≠ some 45 := fun e => by
        rw [ht] at e
        cases hc : numL i.natAbs with
        | nil => exact hnn hc
        | cons c r =>
          rw [hc] at e hdig
          have := hdig c List.mem_cons_self
          have e2 : c = 45 := Option.some.inj e
          omega
      rw [(dg_neg hh).2, ht]
  have hv : PySem.intText? z = some i := by
    by_cases hi : i < 0
    · rw [if_pos hi] at ht
      rw [PySem.intText_neg (x := z) (cs := numL i.natAbs) ht hdig hnn (by omega), hval]
      congr 1
      omega
    · rw [if_neg hi] at ht
      have ht2 : z.cps.toList = numL i.natAbs := ht
      rw [PySem.intText_digits (x := z) (by rw [ht2]; exact hdig) (by rw [ht2]; exact hnn) (by omega), ht2, hval]
      congr 1
      omega
  unfold contentS
  simp only
  have hdl : (PySem.Txt.removeprefix z "-").length ≤ 12 := by rw [len_tl, hd]; exact hnl
  have hde : PySem.Txt.removeprefix z "-" ≠ "" := fun e => by
    rw [e] at hd
    exact hnn (hd.symm.trans (by decide +kernel))
  rw [if_neg (by omega), if_neg (fun q => q.elim (fun q => by omega) hde)]
  have hall : ((PySem.Txt.removeprefix z "-").cps.toList.map fun c => decide (c ∈ digs.cps.toList)).all id = true := by
    rw [allDg_eq]
    unfold allDg
    rw [hd, List.all_eq_true]
    intro c hc
    have h1 := hdig c hc
    exact decide_eq_true (by
      have h6 : ∀ x, 48 ≤ x → x ≤ 57 → x ∈ digs.cps.toList := by
        intro x h7 h8
        have : x = 48 ∨ x = 49 ∨ x = 50 ∨ x = 51 ∨ x = 52 ∨ x = 53 ∨ x = 54 ∨ x = 55 ∨ x = 56 ∨ x = 57 := by omega
        rcases this with rfl | rfl | rfl | rfl | rfl | rfl | rfl | rfl | rfl | rfl <;> decide +kernel
      exact h6 c h1.1 h1.2)
  rw [if_pos hall, hv]
  simp only
  rw [if_pos ⟨by omega, hlog⟩, if_pos hz]
end K6

set_option Elab.async false
set_option linter.all false
set_option maxRecDepth 100000
set_option maxHeartbeats 4000000
namespace K6
open PySem PySem.Spec PyProof.Rows L2 LF TL
theorem nl_tl : tl ("\n" : Str) = [10] := by decide +kernel
theorem sp_tl : tl (" " : Str) = [32] := by decide +kernel
theorem names_free {ns : List Str} {s : Nat} (h1 : s ∉ letters.cps.toList) (h2 : s ≠ 47) (hn : ∀ t ∈ ns, isNm t = true) : s ∉ tl (PySem.Txt.join c_sl ns) := fun hm => by
  rcases mem_join hm with h | ⟨r, hr, h⟩
  · rw [tl_sl] at h
    exact h2 (List.mem_singleton.mp h)
  · exact h1 ((isNm_iff.mp (hn r hr)).2 s h)
theorem path_free {p : Str} {s : Nat} (h1 : s ∉ letters.cps.toList) (h2 : s ≠ 47) (h : isPt p = true) : s ∉ tl p := by
  by_cases h0 : p = ""
  · subst h0
    intro hm
    exact absurd hm (by rw [show tl ("" : Str) = [] from by decide +kernel]; exact List.not_mem_nil)
  · have hn : ∀ t ∈ parts p, isNm t = true := by
      unfold isPt at h
      rw [decide_eq_false h0, Bool.false_or, List.all_eq_true] at h
      unfold parts
      rw [if_neg h0]
      exact h
    rw [← join_parts h0]
    exact names_free h1 h2 hn
theorem entry_of_row {p : Str} {v : V} (hp : isPl p = true) (hv : Plain v ∧ itemV v = true) : entryS (rowS p v) = some (some (p, v)) := by
  have f1 : (" folder" : Str) = " " ++ "folder" := by decide +kernel
  have f2 : (" file " : Str) = " " ++ "file" ++ " " := by decide +kernel
  have f3 : (" to " : Str) = " " ++ "to" ++ " " := by decide +kernel
  have n32 : (32 : Nat) ∉ letters.cps.toList := by decide +kernel
  have pf := path_free n32 (by decide) (isPl_pt hp).1
  have kd : (" " : Str).cps.all (· < 256) = true := by decide +kernel
  have wf : ∀ w : Str, w = "folder" ∨ w = "file" ∨ w = "to" ∨ w = "." → 32 ∉ tl w := by
    rintro w (rfl | rfl | rfl | rfl) <;> decide +kernel
  rcases item_of hv with rfl | ⟨i, rfl, hi⟩ | ⟨t, rfl, ht, hl⟩
  · have es : PySem.Txt.split (rowS p .non) " " = [p, "folder"] := by
      show PySem.Txt.split (p ++ " folder") " " = _
      rw [f1, ← app_assoc, ← join2]
      refine split_join sp_tl kd (by simp) fun w hw => ?_
      rcases List.mem_cons.mp hw with rfl | hw
      · exact pf
      · rw [List.mem_singleton.mp hw]; exact wf _ (Or.inl rfl)
    unfold entryS
    rw [es]
    simp only [hp, if_true]
  · have es : PySem.Txt.split (rowS p (.int i)) " " = [p, "file", Str.ofString (toString i)] := by
      show PySem.Txt.split (p ++ " file " ++ Str.ofString (toString i)) " " = _
      rw [f2, show p ++ (" " ++ "file" ++ " " : Str) ++ Str.ofString (toString i) = p ++ " " ++ "file" ++ " " ++ Str.ofString (toString i) from by simp only [app_assoc], ← join3]
      refine split_join sp_tl kd (by simp) fun w hw => ?_
      rcases List.mem_cons.mp hw with rfl | hw
      · exact pf
      · rcases List.mem_cons.mp hw with rfl | hw
        · exact wf _ (Or.inr (Or.inl rfl))
        · rw [List.mem_singleton.mp hw]; exact int_free (Or.inl (by decide))
    unfold entryS
    rw [es]
    simp only [hp, if_true]
    rw [if_neg (by simp), contentS_int hi]
  · generalize hT : (if t = "" then ("." : Str) else t) = T
    have hTf : 32 ∉ tl T := by
      rw [← hT]
      split
      · exact wf _ (Or.inr (Or.inr (Or.inr rfl)))
      · unfold isTg at ht
        rw [Bool.and_eq_true] at ht
        exact path_free n32 (by decide) ht.1
    have hTt : targetS T = some t := by
      rw [← hT]
      by_cases h0 : t = ""
      · rw [if_pos h0, h0]
        unfold targetS
        rw [if_pos rfl]
      · rw [if_neg h0]
        unfold targetS
        rw [if_neg (fun e => by rw [e] at ht; exact absurd ht (by decide +kernel)), if_neg h0, if_pos ht]
    have es : PySem.Txt.split (rowS p (.str t)) " " = [p, "to", T] := by
      show PySem.Txt.split (p ++ " to " ++ (if t = "" then ("." : Str) else t)) " " = _
      rw [hT, f3, show p ++ (" " ++ "to" ++ " " : Str) ++ T = p ++ " " ++ "to" ++ " " ++ T from by simp only [app_assoc], ← join3]
      refine split_join sp_tl kd (by simp) fun w hw => ?_
      rcases List.mem_cons.mp hw with rfl | hw
      · exact pf
      · rcases List.mem_cons.mp hw with rfl | hw
        · exact wf _ (Or.inr (Or.inr (Or.inl rfl)))
        · rw [List.mem_singleton.mp hw]; exact hTf
    unfold entryS
    rw [es]
    simp only [hp, if_true]
    rw [if_neg (by simp), if_neg (by decide +kernel), hTt]
end K6

set_option Elab.async false
set_option linter.all false
set_option maxRecDepth 100000
set_option maxHeartbeats 4000000
namespace K6
open PySem PySem.Spec PyProof.Rows L2 LF TL
theorem eqv_str1 (x y : Str) : PyData.eqv (.str x) (.str y) = decide (x = y) := by
  have h := eqv_strs [x] [y]
  simp only [List.map_cons, List.map_nil, PyData.eqvAll, Bool.and_true] at h
  rw [h]
  by_cases e : x = y
  · rw [decide_eq_true e, decide_eq_true (by rw [e])]
  · rw [decide_eq_false e, decide_eq_false (fun q => e (List.cons.inj q).1)]
theorem strs_apart : ∀ (xs ys : List Str), xs.length = ys.length → xs ≠ ys → PySem.W.rowLt (xs.map .str) (ys.map .str) = true ∨ PySem.W.rowLt (ys.map .str) (xs.map .str) = true
  | [], [], _, h => absurd rfl h
  | x :: xs, y :: ys, hl, h => by
    rw [List.map_cons, List.map_cons]
    have al : PySem.W.alike (.str x) (.str y) = true := by simp [PySem.W.alike]
    have al2 : PySem.W.alike (.str y) (.str x) = true := by simp [PySem.W.alike]
    unfold PySem.W.rowLt
    rw [PySem.W.dataLt_cons al, PySem.W.dataLt_cons al2]
    have e1 : PyData.eqv (.str x) (.str y) = decide (x = y) := eqv_str1 x y
    have e2 : PyData.eqv (.str y) (.str x) = decide (y = x) := eqv_str1 y x
    rw [e1, e2]
    by_cases hxy : x = y
    · subst hxy
      rw [decide_eq_true rfl, if_pos rfl, if_pos rfl]
      exact strs_apart xs ys (by simpa using hl) fun e => h (by rw [e])
    · rw [decide_eq_false hxy, decide_eq_false (fun e => hxy e.symm), if_neg Bool.false_ne_true, if_neg Bool.false_ne_true, PySem.W.dataLt_str, PySem.W.dataLt_str]
      have hne : x.cps.toList ≠ y.cps.toList := fun e => hxy (ext_tl e)
      by_cases hlt : x.cps.toList < y.cps.toList
      · exact Or.inl (decide_eq_true hlt)
      · refine Or.inr (decide_eq_true ?_)
        by_cases h2 : y.cps.toList < x.cps.toList
        · exact h2
        · exact absurd (List.le_antisymm (List.not_lt.mp h2) (List.not_lt.mp hlt)) hne
theorem pLt_rows (a b : Str) : pLt a b = if (parts a).length = (parts b).length then PySem.W.rowLt ((parts a).map .str) ((parts b).map .str) else decide ((parts a).length < (parts b).length) := by
  unfold pLt keyD
  have al : PySem.W.alike (.int ((parts a).length : Int)) (.int ((parts b).length : Int)) = true := by simp [PySem.W.alike]
  have al2 : PySem.W.alike (.list ((parts a).map .str)) (.list ((parts b).map .str)) = true := alike_strs _ _
  rw [PySem.W.dataLt_pair al al2, eqv_list_strs, PySem.W.dataLt_int]
  have ei : PyData.eqv (.int ((parts a).length : Int)) (.int ((parts b).length : Int)) = decide ((parts a).length = (parts b).length) := by
    simp only [PyData.eqv]
    by_cases e : (parts a).length = (parts b).length
    · rw [e]; simp
    · rw [decide_eq_false e]
      exact beq_eq_false_iff_ne.mpr fun q => e (by omega)
  rw [ei]
  by_cases hl : (parts a).length = (parts b).length
  · rw [decide_eq_true hl, if_pos rfl, if_pos hl]
    by_cases hp : parts a = parts b
    · rw [decide_eq_true hp, if_pos rfl, hp]
      exact (PyProof.Rows.lex_irrefl _).symm
    · rw [decide_eq_false hp, if_neg Bool.false_ne_true]
      exact PySem.W.dataLt_list _ _
  · rw [decide_eq_false hl, if_neg Bool.false_ne_true, if_neg hl]
    by_cases h2 : (parts a).length < (parts b).length
    · rw [decide_eq_true h2, decide_eq_true (by omega)]
    · rw [decide_eq_false h2, decide_eq_false (by omega)]
theorem pLt_apart {a b : Str} (ha : ¬ a = "") (hb : ¬ b = "") (h : a ≠ b) : pLt a b = true ∨ pLt b a = true := by
  have hp : parts a ≠ parts b := fun e => h (by rw [← join_parts ha, ← join_parts hb, e])
  rw [pLt_rows, pLt_rows]
  by_cases hl : (parts a).length = (parts b).length
  · rw [if_pos hl, if_pos hl.symm]
    exact strs_apart _ _ hl hp
  · rw [if_neg hl, if_neg (fun e => hl e.symm)]
    rcases Nat.lt_or_gt_of_ne hl with h1 | h1
    · exact Or.inl (decide_eq_true h1)
    · exact Or.inr (decide_eq_true h1)
end K6

set_option Elab.async false
set_option linter.all false
set_option maxRecDepth 100000
set_option maxHeartbeats 4000000
namespace K6
open PySem PySem.Spec PyProof.Rows L2 LF TL
theorem okE_lt {es : List (Str × V)} (h : OkE es) : (es.map (·.1)).Pairwise fun a b => pLt a b = true := by
  have ne : ∀ p : Str, p ∈ es.map (·.1) → ¬ p = "" := fun p hp => by
    obtain ⟨e, he, rfl⟩ := List.mem_map.mp hp
    exact (isPl_pt (h.pl e he).1).2
  rw [List.pairwise_iff_getElem]
  intro i j hi hj hij
  have h1 := List.pairwise_iff_getElem.mp h.le i j hi hj hij
  have h2 := List.pairwise_iff_getElem.mp h.nd i j hi hj hij
  rcases pLt_apart (ne _ (List.getElem_mem hi)) (ne _ (List.getElem_mem hj)) h2 with h3 | h3
  · exact h3
  · have h4 : pLe (es.map (·.1))[i] (es.map (·.1))[j] = true := h1
    rw [pLe_eq, h3] at h4; cases h4
theorem pLt_len {a b : Str} (h : (parts a).length < (parts b).length) : pLt a b = true := by
  rw [pLt_rows, if_neg (by omega)]
  exact decide_eq_true h
theorem parent_len {p : Str} (h : isPl p = true) : (parts (parentS p)).length < (parts p).length := by
  obtain ⟨ns, rfl, hn, hp, h1, h2⟩ := isPl_names h
  have hne : ns ≠ [] := fun e => by rw [e] at h1; exact absurd h1 (by decide)
  have hpar : parentS (PySem.Txt.join c_sl ns) = PySem.Txt.join c_sl ns.dropLast := rpart_join hne hn
  have hd : ∀ s ∈ ns.dropLast, isNm s = true := fun s hs => hn s (List.dropLast_subset ns hs)
  rw [hpar, parts_join hd, hp, List.length_dropLast]
  omega
theorem readR_back : ∀ (rest pre : List (Str × V)) (i : Nat) (last : Str), OkE (pre ++ rest) → Got pre last → (pre = [] → last = "") → (∀ e, pre.getLast? = some e → last = e.1) →
    readR (rowsK rest) i (kv pre) last = some (.ok (kv (pre ++ rest)))
  | [], pre, i, last, ok, g, h0, h1 => by
    rw [List.append_nil]; rfl
  | (p, v) :: rest, pre, i, last, ok, g, h0, h1 => by
    have hm : (p, v) ∈ pre ++ (p, v) :: rest := List.mem_append_right _ List.mem_cons_self
    obtain ⟨hp, hpl⟩ := ok.pl _ hm
    have hit := ok.it _ hm
    have lt := okE_lt ok
    rw [List.map_append, List.map_cons, List.pairwise_append] at lt
    obtain ⟨_, lt2, lt3⟩ := lt
    have hlast : pLt last p = true := by
      cases hg : pre.getLast? with
      | none =>
        have hnil := List.getLast?_eq_none_iff.mp hg
        rw [h0 hnil]
        refine pLt_len ?_
        have e0 : parts ("" : Str) = [] := by unfold parts; rw [if_pos rfl]
        rw [e0]
        exact (isPl_parts hp).2.1
      | some e =>
        rw [h1 e hg]
        exact lt3 e.1 (List.mem_map.mpr ⟨e, List.mem_of_getLast? hg, rfl⟩) p List.mem_cons_self
    have hpar : parentS p = "" ∨ valV (kv pre) (.inr (parentS p)) = some .non := by
      rcases begs_up hp with ⟨h2, _⟩ | ⟨hne, _, hb⟩
      · exact Or.inl h2
      · refine Or.inr ?_
        have hs : parentS p ∈ begs p := by rw [hb]; exact List.mem_append_right _ List.mem_cons_self
        have hin := val_in (ok.up _ hm _ hs)
        have hpp := pLt_len (parent_len hp)
        rcases List.mem_append.mp hin with hin | hin
        · have nd : (pre.map (·.1)).Nodup := by
            have := ok.nd
            rw [List.map_append, List.nodup_append] at this
            exact this.1
          exact val_mem nd hin
        · exfalso
          rcases List.mem_cons.mp hin with hin | hin
          · have e : parentS p = p := congrArg Prod.fst hin
            rw [e, pLt_irrefl] at hpp; cases hpp
          · have := (List.pairwise_cons.mp lt2).1 (parentS p) (List.mem_map.mpr ⟨_, hin, rfl⟩)
            have h9 := pLt_trans hpp this
            rw [pLt_irrefl] at h9; cases h9
    have hc : contS (kv pre) last p = true := by
      unfold contS
      rw [Bool.and_eq_true, Bool.or_eq_true, decide_eq_true_eq]
      refine ⟨hlast, hpar.imp id fun h => ?_⟩
      rw [h]; rfl
    obtain ⟨e1, g2⟩ := g.next hp hpl hit hc
    show readR (rowS p v :: rowsK rest) i (kv pre) last = _
    unfold readR
    rw [entry_of_row hp hit]
    simp only
    rw [if_pos hc, e1]
    have e2 : pre ++ (p, v) :: rest = (pre ++ [(p, v)]) ++ rest := by simp
    rw [e2] at ok ⊢
    refine readR_back rest (pre ++ [(p, v)]) (i + 1) p ok g2 (fun h => ?_) (fun e he => ?_)
    · simp at h
    · rw [List.getLast?_append] at he
      simp at he
      rw [← he]
theorem row_nl {p : Str} {v : V} (hp : isPl p = true) (hv : Plain v ∧ itemV v = true) : 10 ∉ tl (rowS p v) := by
  have n10 : (10 : Nat) ∉ letters.cps.toList := by decide +kernel
  have pf := path_free n10 (by decide) (isPl_pt hp).1
  rcases item_of hv with rfl | ⟨i, rfl, hi⟩ | ⟨t, rfl, ht, hl⟩
  · exact app_nl pf (by decide +kernel)
  · exact app_nl (app_nl pf (by decide +kernel)) (int_free (Or.inl (by decide)))
  · refine app_nl (app_nl pf (by decide +kernel)) ?_
    split
    · decide +kernel
    · unfold isTg at ht
      rw [Bool.and_eq_true] at ht
      exact path_free n10 (by decide) ht.1
/-- a package's text is read as the package -/
theorem readT_back {es : List (Str × V)} (ok : OkE es) : readT (textS es) = some (.ok (kv es)) := by
  by_cases he : es = []
  · subst he
    have e0 : textS [] = "" := by decide +kernel
    rw [e0]
    unfold readT
    rw [if_pos rfl]; rfl
  · have hsp : PySem.Txt.split (textS es) "\n" = rowsK es := by
      unfold textS
      refine split_join nl_tl (by decide +kernel) (fun e => he ?_) fun r hr => ?_
      · have := congrArg List.length e
        rw [rowsK_len, List.length_nil] at this
        exact List.length_eq_zero_iff.mp this
      · unfold rowsK at hr
        obtain ⟨e, hee, rfl⟩ := List.mem_map.mp hr
        exact row_nl (ok.pl e hee).1 (ok.it e hee)
    have hne : textS es ≠ "" := fun e => by
      rw [e] at hsp
      have e1 : PySem.Txt.split "" "\n" = [("" : Str)] := by decide +kernel
      rw [e1] at hsp
      cases es with
      | nil => exact he rfl
      | cons e0 r0 =>
        have e2 : rowS e0.1 e0.2 = "" := ((List.cons.inj hsp).1).symm
        have e3 := entry_of_row (ok.pl e0 List.mem_cons_self).1 (ok.it e0 List.mem_cons_self)
        rw [e2] at e3
        exact absurd e3 (by
          have e4 : entryS "" = some none := by decide +kernel
          rw [e4]; intro h; cases h)
    unfold readT
    rw [if_neg hne, hsp]
    exact readR_back es [] 0 "" ok Got.nil (fun _ => rfl) (fun e he => nomatch he)
end K6

set_option Elab.async false
set_option linter.all false
set_option maxRecDepth 100000
set_option maxHeartbeats 4000000
namespace LF
open PySem PySem.Spec PyProof.Rows L2 GenW
/-- a run that ends nowhere is none -/
theorem wp_no {α : Type} {M : Model} {Γ : PySem.Ctx} (t : Sem α) : ∀ (p : Pos) (s : Shared), Sem.wp M Γ t (fun _ _ _ => False) (fun _ _ _ => False) p s → False := by
  induction t with
  | pure a => intro p s h; rw [Sem.wp] at h; exact h
  | raise e => intro p s h; rw [Sem.wp] at h; exact h
  | unsupported q => intro p s h; rw [Sem.wp] at h; exact h
  | finish e => intro p s h; rw [Sem.wp] at h; exact h
  | register a k => intro p s h; rw [Sem.wp] at h; exact h
  | yield v g l k => intro p s h; rw [Sem.wp] at h; exact h
  | fork c k => intro p s h; rw [Sem.wp] at h; exact h
  | await a f d l k => intro p s h; rw [Sem.wp] at h; exact h
  | rule t k ih => intro p s h; rw [Sem.wp] at h; exact ih _ _ _ h
  | «at» p' k ih => intro p s h; rw [Sem.wp] at h; exact ih _ _ _ h
  | load a q k ih => intro p s h; rw [Sem.wp] at h; obtain ⟨o, _, h⟩ := h; exact ih _ _ _ h
  | update a q f k ih => intro p s h; rw [Sem.wp] at h; exact ih _ _ _ h.2
  | loadIfAlive a k ih => intro p s h; rw [Sem.wp] at h; exact ih _ _ _ h
  | point l k ih => intro p s h; rw [Sem.wp] at h; exact ih _ _ _ h
  | alloc o k ih => intro p s h; rw [Sem.wp] at h; exact ih _ _ _ h
  | fresh k ih => intro p s h; rw [Sem.wp] at h; exact ih _ _ _ h
  | ask k ih => intro p s h; rw [Sem.wp] at h; exact ih _ _ _ h
  | choose q n k ih => intro p s h; rw [Sem.wp] at h; exact ih _ _ _ h.2
  | os q l k ih => intro p s h; rw [Sem.wp] at h; exact ih _ _ _ h
  | call c m g l k ih => intro p s h; rw [Sem.wp] at h; obtain ⟨r, s1, _, h⟩ := h; exact ih _ _ _ h
  | handled o k ih => intro p s h; rw [Sem.wp] at h; exact ih _ _ _ h
  | genState g k ih => intro p s h; rw [Sem.wp] at h; obtain ⟨st, _, h⟩ := h; exact ih _ _ _ h
  | newGen c k ih => intro p s h; rw [Sem.wp] at h; exact ih _ _ _ h
  | resume g r l k ih => intro p s h; rw [Sem.wp] at h; obtain ⟨r1, s1, _, h⟩ := h; exact ih _ _ _ h
  | stack k ih => intro p s h; rw [Sem.wp] at h; exact ih _ _ _ h
  | thread k ih => intro p s h; rw [Sem.wp] at h; exact ih _ _ _ h
/-- the consumer of a generator, while that sleeps: it puts v behind its list at S, and stores at C -/
structure Nap (S C : Addr) (v : Value) (s s' : Shared) : Prop where
  os : s'.os = s.os
  bare : AllBare s'.gens
  rest : ∀ b o, b ≠ S → b ≠ C → s.heap.get? b = some o → s'.heap.get? b = some o
  mine : ∀ acc c, s.heap.get? S = some (lstObj acc c) → ∃ c', s'.heap.get? S = some (lstObj (acc.push v) c')
  oth : ∃ o, s'.heap.get? C = some o ∧ ∀ w, o.data ≠ .cell w
/-- running: ys is out, at S; C is the consumer's -/
def GJ (X : Cx) (S C : Addr) (ip : List (Addr × Obj)) (ys : List V) (σ : L2.St) (H : Hp) (s : Shared) : Prop :=
  ∃ (acc : Array Value) (c : Nat) (oC : Obj), Vals ys acc.toList ∧ Inv X ([(S, lstObj acc c), (C, oC)] ++ ip) σ H s
structure Off (X : Cx) (S C : Addr) : Prop where
  ne : S ≠ C
  s1 : X.s_0.heap.objs.size ≤ S
  s2 : S ≠ X.env.locals
  s3 : ∀ x c, X.env.cells.lookup x = some c → c ≠ S
  s4 : ∀ p ∈ X.pn, p.1 ≠ S
  c1 : X.s_0.heap.objs.size ≤ C
  c2 : C ≠ X.env.locals
  c3 : ∀ x c, X.env.cells.lookup x = some c → c ≠ C
  c4 : ∀ p ∈ X.pn, p.1 ≠ C
theorem GJ.nap {X : Cx} {S C : Addr} {ip : List (Addr × Obj)} {ys : List V} {x : V} {v : Value} {σ : L2.St} {H : Hp} {s s' : Shared} (F : Off X S C) (hip : ∀ p ∈ ip, p.1 ≠ S ∧ p.1 ≠ C) (h : GJ X S C ip ys σ H s) (rv : RelV x v) (z : Nap S C v s s') :
    GJ X S C ip (ys ++ [x]) σ H s' := by
  obtain ⟨acc, c, oC, r, I⟩ := h
  obtain ⟨pS1, pS2, pS3, pS4, _⟩ := I.pin (S, lstObj acc c) (List.mem_append_right _ (List.mem_append_left _ List.mem_cons_self))
  obtain ⟨pC1, pC2, pC3, pC4, pC5⟩ := I.pin (C, oC) (List.mem_append_right _ (List.mem_append_left _ (List.mem_cons_of_mem _ List.mem_cons_self)))
  have I0 : Inv X ip σ H s := I.pins_of fun p hp => I.pin p (List.mem_append_right _ (List.mem_append_right _ hp))
  obtain ⟨z1, z2, z3, z4, oC', z5, z6⟩ := z
  obtain ⟨c', eS'⟩ := z4 acc c pS1
  have tr : ∀ b u, H b = some u → b ≠ S ∧ b ≠ C := fun b u q => ⟨fun e => (by rw [e, pS2] at q; cases q), fun e => (by rw [e, pC2] at q; cases q)⟩
  have out : ∀ b, b ∉ [S, C] → b ≠ S ∧ b ≠ C := fun b hb => ⟨fun e => hb (by rw [e]; exact List.mem_cons_self), fun e => hb (by rw [e]; exact List.mem_cons_of_mem _ List.mem_cons_self)⟩
  obtain ⟨hh, g, d, t, o⟩ := s'
  obtain rfl : o = s.os := z1
  have pair : ∀ b ∈ [S, C], (b ∈ X.ex ∨ X.s_0.heap.objs.size ≤ b) ∧ b ≠ X.env.locals ∧ (∀ x c, X.env.cells.lookup x = some c → c ≠ b) ∧ ∀ p ∈ X.pn ++ ip, p.1 ≠ b := fun b hb => by
    rcases List.mem_cons.mp hb with rfl | hb
    · exact ⟨Or.inr F.s1, F.s2, F.s3, fun p hp => (List.mem_append.mp hp).elim (F.s4 p) fun q => (hip p q).1⟩
    · obtain rfl := List.mem_singleton.mp hb
      exact ⟨Or.inr F.c1, F.c2, F.c3, fun p hp => (List.mem_append.mp hp).elim (F.c4 p) fun q => (hip p q).2⟩
  have J : Inv X ip σ H { s with heap := hh, gens := g, drawn := d, toks := t } := by
    refine I0.step (g' := g) (t' := t) (d' := d) (ch := [S, C]) pair ?_ ?_ ?_ ?_ ?_ ?_ ?_ ?_ ?_ z2
    · exact fun b ob _ _ hc q _ => z3 b ob (out b hc).1 (out b hc).2 q
    · exact fun b ob _ _ hc q _ => ⟨ob.slots, z3 b ob (out b hc).1 (out b hc).2 q⟩
    · exact fun _ _ _ _ n => n
    · exact fun b ob hc q => ⟨ob, z3 b ob (out b hc).1 (out b hc).2 q⟩
    · exact fun _ _ q => q
    · exact fun _ _ _ q => q
    · exact fun b ps q => ⟨#[], by rw [q]; simp⟩
    · rintro m ⟨ob, es, ep, ho, rr⟩
      exact ⟨ob, es, ep, z3 _ ob (Ne.symm pS3) (Ne.symm pC3) ho, rr⟩
    · intro b u q
      have nb : ∀ a, (a = b ∨ ∃ w, H a = some w) → a ≠ S ∧ a ≠ C := fun a ha => by
        rcases ha with rfl | ⟨w, hw⟩
        · exact tr a u q
        · exact tr a w hw
      refine (I0.hok b u q).stay (fun a w ha y => ?_) (fun _ y => y) fun _ _ y => y
      rcases ha with y1 | y1
      · exact z3 a w (by rw [y1]; exact (tr b u q).1) (by rw [y1]; exact (tr b u q).2) y
      · exact z3 a w (tr a _ y1).1 (tr a _ y1).2 y
  refine ⟨acc.push v, c', oC', ?_, J.pins_of fun p hp => ?_⟩
  · rw [Array.toList_push]
    exact r.append (.cons rv .nil)
  · rcases List.mem_append.mp hp with hp | hp
    · rcases List.mem_cons.mp hp with rfl | hp
      · exact ⟨eS', pS2, pS3, pS4, fun v q => nomatch q⟩
      · obtain rfl := List.mem_singleton.mp hp
        exact ⟨z5, pC2, pC3, pC4, z6⟩
    · exact J.pin p (List.mem_append_right _ hp)
end LF

set_option Elab.async false
set_option linter.all false
set_option maxRecDepth 100000
set_option maxHeartbeats 4000000
namespace LF
open PySem PySem.Spec PyProof.Rows L2 GenW
section
variable {M : Model} {A : Around} {R : GenEnd} {Y : Protocol} {n : Nat} {s₀ : Shared} {c : Code} {fs : List Frame} {s : Shared} {env : Env} {K : Flow → Sem Fin} {J : Value → Sem Fin} {gd : Bool → Bool} {lv : List Value → List Value}
/-- no exception -/
abbrev NoX : Value → Shared → Prop := fun _ _ => False
/-- what a loop's call gives back -/
abbrev backR (env : Env) (K : Flow → Sem Fin) (J : Value → Sem Fin) (gd : Bool → Bool) (lv : List Value → List Value) : Result → Sem Fin := fun r =>
  ((match r with | .ok f => (.pure f : Sem Flow) | .error e => .raise e).onRaise (cameBack env)).wrap K J gd lv
theorem seg_forS {tg iter : Expr} {body : List Stmt} {pos : Pos} (hs : ∀ x, foldedSetIterable iter env x = pure x)
    (h : wpAny M (A.over c fs) (eval iter env) (fun v s1 => wpAny M (A.over c fs) (pyIter v) (fun it s2 => ∀ p, Seg M A R Y n s₀ (.forLoop tg it body [] env) (M.den (.forLoop tg it body [] env)) (.ret (backR env K J gd lv) none (gd false) (lv []) c p [] :: fs) s2) NoX s1) NoX s) :
    Seg M A R Y n s₀ c ((exec (.For tg iter body [] pos) env).wrap K J gd lv) fs s := by
  rw [exec_For]
  rw [Sem.bind_eq_wrap', Sem.wrap_wrap]
  refine seg_wrap (wpAny_standAt ?_)
  rw [Sem.bind_eq_wrap', Sem.wrap_wrap]
  refine seg_wrap (wpAny_mono h (fun v s1 h1 => ?_) fun _ _ q => q.elim)
  rw [hs, Sem.bind_eq_wrap', Sem.wrap_wrap]
  refine seg_wrap (wpAny_pure ?_)
  rw [Sem.bind_eq_wrap', Sem.wrap_wrap]
  refine seg_wrap (wpAny_standAt ?_)
  rw [Sem.bind_eq_wrap', Sem.wrap_wrap]
  refine seg_wrap (wpAny_holding (wpAny_mono h1 (fun it s2 h2 => ?_) fun _ _ q => q.elim))
  exact seg_call fun p => h2 p
end
section
variable {prog : Program} {w : World} {A : Around} {R : GenEnd} {Y : Protocol} {n : Nat} {s₀ : Shared} {fs : List Frame} {s : Shared} {env : Env}
abbrev badR (env : Env) : Value → Sem Fin := fun e => (do noteFrame e env; theTreesLotGoes e : Sem Unit).wrap (fun _ => .raise e) .raise id id
abbrev turnR (cd : Code) : Flow → Sem Fin := fun f => match f with
  | .next | .cont => .pure (.again cd)
  | .brk => .pure (.done .next)
  | .ret v => .pure (.done (.ret v))
theorem seg_blk0 (h : Seg (model prog w) A R Y n s₀ (.block [] env) (leafOf (.ok .next)) fs s) : Seg (model prog w) A R Y n s₀ (.block [] env) ((model prog w).den (.block [] env)) fs s := h
theorem seg_forT {tg : Expr} {it : Value} {body : List Stmt}
    (h : wpAny (model prog w) (A.over (.forLoop tg it body [] env) fs) (pyNext it) (fun r s1 => match r with
      | none => Seg (model prog w) A R Y n s₀ (.block [] env) (leafOf (.ok .next)) fs s1
      | some v => wpAny (model prog w) (A.over (.forLoop tg it body [] env) fs) (letOwnedTupleGo tg it v) (fun _ s2 => wpAny (model prog w) (A.over (.forLoop tg it body [] env) fs) (assign tg env v) (fun _ s3 =>
          Seg (model prog w) A R Y n s₀ (.forLoop tg it body [] env) ((execs body env).wrap (turnR (.forLoop tg it body [] env)) (badR env) id id) fs s3) NoX s2) NoX s1) NoX s) :
    Seg (model prog w) A R Y n s₀ (.forLoop tg it body [] env) ((model prog w).den (.forLoop tg it body [] env)) fs s := by
  show Seg _ A R Y n s₀ _ ((forTurn tg it body [] env).onRaise (fun x => do noteFrame x env; theTreesLotGoes x)) fs s
  rw [Sem.onRaise_eq_wrap]
  unfold forTurn
  rw [Sem.bind_eq_wrap', Sem.wrap_wrap]
  refine seg_wrap (wpAny_standAt ?_)
  rw [Sem.bind_eq_wrap', Sem.wrap_wrap]
  refine seg_wrap (wpAny_onRaise (wpAny_mono h (fun r s1 h1 => ?_) fun _ _ q => q.elim))
  cases r with
  | none => exact seg_again rfl (seg_blk0 h1)
  | some v =>
    show Seg _ A R Y n s₀ _ (Sem.wrap _ _ _ _ (letOwnedTupleGo tg it v >>= fun _ => assign tg env v >>= fun _ => execs body env >>= fun f => _)) fs s1
    rw [Sem.bind_eq_wrap', Sem.wrap_wrap]
    refine seg_wrap (wpAny_mono h1 (fun _ s2 h2 => ?_) fun _ _ q => q.elim)
    rw [Sem.bind_eq_wrap', Sem.wrap_wrap]
    refine seg_wrap (wpAny_mono h2 (fun _ s3 h3 => ?_) fun _ _ q => q.elim)
    rw [Sem.bind_eq_wrap', Sem.wrap_wrap]
    rw [Sem.wrap_congr (execs body env) _ _ (K' := turnR (.forLoop tg it body [] env)) (H' := badR env) (fun f => by cases f <;> rfl) (fun e => by
      show ((do noteFrame e env; theTreesLotGoes e : Sem Unit).bind fun _ => .raise e) = _
      rw [Sem.bind_eq_wrap])]
    exact h3
end
end LF

set_option Elab.async false
set_option linter.all false
set_option maxRecDepth 100000
set_option maxHeartbeats 4000000
namespace LF
open PySem PySem.Spec PyProof.Rows L2 GenW
def NY (X : Cx) (S C : Addr) : Protocol := fun n s₀ v s kap => ∃ ys x ip σ H, n + 1 + ys.length = sizeLine ∧ RelV x v ∧ GJ X S C ip ys σ H s ∧ s.heap.get? C = s₀.heap.get? C ∧ ∀ s', Nap S C v s s' → kap (.send .none) s'
/-- for tg in iter: yield e, what it wants: N turns, Pv by what is out -/
def tGF (wi : TI) (g : TG) (te : TE) : L2.St → Hp → (List V → L2.St → Hp → Prop) → Prop := fun σ H Q => wi σ H fun Jt H1 => ∃ (N : Nat) (Pv : Nat → List V → L2.St → Hp → Prop), N ≤ sizeLine ∧ Pv 0 [] σ H1 ∧ (∀ i ys σ H, Pv i ys σ H → ys.length = i) ∧
  (∀ i ys σ H, i < N → Pv i ys σ H → Jt.go i H ∧ ∀ x H', Jt.yld i H x H' → g x σ H' fun σ2 H2 => te σ2 H2 fun y H3 => Pv (i + 1) (ys ++ [y]) σ2 H3) ∧ (∀ ys σ H, Pv N ys σ H → Jt.stop N H ∧ Q ys σ H)
theorem atC {X : Cx} {S C : Addr} {l oC : Obj} {ip : List (Addr × Obj)} {σ : L2.St} {H : Hp} {s : Shared} (I : Inv X ([(S, l), (C, oC)] ++ ip) σ H s) : s.heap.get? C = some oC :=
  (I.pin (C, oC) (List.mem_append_right _ (List.mem_append_left _ (List.mem_cons_of_mem _ List.mem_cons_self)))).1
theorem gen_for {X : Cx} {S C : Addr} {tg iter e : Expr} {yp yq pos : Pos} {wi : TI} {g : TG} {te : TE} (hc : X.calm = true) (hi : PI X tg iter wi) (hg : PG X tg g) (he : PE X e te) (hs : ∀ x, foldedSetIterable iter X.env x = pure x) (noX : ∀ e s, X.xe e s → False) (F : Off X S C)
    (hco : X.env.scope.isCoroutine = false) (hin : interactive X.env = false)
    {A : Around} {R : GenEnd} {c : Code} {fs : List Frame} {K : Flow → Sem Fin} {J : Value → Sem Fin} {gd : Bool → Bool} {lv : List Value → List Value} {n : Nat} {s₀ s : Shared} {σ : L2.St} {H : Hp} {Q : List V → L2.St → Hp → Prop}
    (ho : A.over c fs = X.A) (h1 : splitAtGen fs = none) (h2 : fs.any Frame.guarded = false) (h3 : gd false = false) (hn : n = sizeLine) (hI : GJ X S C [] [] σ H s) (hC0 : s.heap.get? C = s₀.heap.get? C) (ht : tGF wi g te σ H Q)
    (fin : ∀ n ys s₀ s σ H, n + ys.length = sizeLine → GJ X S C [] ys σ H s → s.heap.get? C = s₀.heap.get? C → Q ys σ H → Seg (model X.prog X.w) A R (NY X S C) n s₀ c (K .next) fs s) :
    Seg (model X.prog X.w) A R (NY X S C) n s₀ c ((exec (.For tg iter [.Expr (.Yield (some e) yp) yq] [] pos) X.env).wrap K J gd lv) fs s := by
  obtain ⟨acc, cc, oC, hv, I⟩ := hI
  refine seg_forS hs ?_
  rw [ho]
  refine wpAny_mono (hi.run _ s σ H _ I ht) (fun v s1 q1 => wpAny_mono q1 (fun itv s2 q2 => ?_) fun e s' q => noX e s' q) fun e s' q => noX e s' q
  obtain ⟨it, fp, tn, Jt, H2, rfl, I2, T, st2, f2, N, Pv, hN, p0, hlen, hgo, hstop⟩ := q2
  intro p
  have neS : ∀ b ∈ fp, S ≠ b ∧ C ≠ b := fun b hb => ⟨(f2 b hb).2.2.2.2.2 (S, lstObj acc cc) (List.mem_append_right _ (List.mem_append_left _ List.mem_cons_self)), (f2 b hb).2.2.2.2.2 (C, oC) (List.mem_append_right _ (List.mem_append_left _ (List.mem_cons_of_mem _ List.mem_cons_self)))⟩
  have stat : ∀ {a2 : Array Value} {c2 : Nat} {o2 : Obj} {H' : Hp}, (∀ b ∈ fp, H' b = none) → ∀ b ∈ fp, FpOk X ([(S, lstObj a2 c2), (C, o2)] ++ []) H' b := fun {a2 c2 o2 H'} hf b hb => by
    obtain ⟨_, w2, w3, w4, w5, w6⟩ := f2 b hb
    refine ⟨hf b hb, w2, w3, w4, w5, fun p hp => ?_⟩
    rcases List.mem_append.mp hp with hp | hp
    · exact w6 p (List.mem_append_left _ hp)
    · rw [List.append_nil] at hp
      rcases List.mem_cons.mp hp with rfl | hp
      · exact (neS b hb).1
      · obtain rfl := List.mem_singleton.mp hp
        exact (neS b hb).2
  have over' : A.over (.forLoop tg (.ref it) [.Expr (.Yield (some e) yp) yq] [] X.env) (.ret (backR X.env K J gd lv) none (gd false) (lv []) c p [] :: fs) = X.A := (over_loop rfl rfl).trans ho
  have split' : splitAtGen (.ret (backR X.env K J gd lv) none (gd false) (lv []) c p [] :: fs) = none := by
    show (splitAtGen fs).map _ = none
    rw [h1]; rfl
  have guard' : (Frame.ret (backR X.env K J gd lv) none (gd false) (lv []) c p [] :: fs).any Frame.guarded = false := by
    show (gd false || fs.any Frame.guarded) = false
    rw [h3, h2]; rfl
  generalize hfs : (Frame.ret (backR X.env K J gd lv) none (gd false) (lv []) c p [] :: fs) = fs' at over' split' guard' ⊢
  have loop : ∀ m i, N - i = m → i ≤ N → ∀ (n : Nat) (ys : List V) (s₀ s : Shared) (σ : L2.St) (H : Hp), n + ys.length = sizeLine → GJ X S C [] ys σ H s → s.heap.get? C = s₀.heap.get? C → tn i s.heap → (∀ b ∈ fp, H b = none) → Pv i ys σ H →
      Seg (model X.prog X.w) A R (NY X S C) n s₀ (.forLoop tg (.ref it) [.Expr (.Yield (some e) yp) yq] [] X.env) ((model X.prog X.w).den (.forLoop tg (.ref it) [.Expr (.Yield (some e) yp) yq] [] X.env)) fs' s := by
    intro m
    induction m with
    | zero =>
      intro i hm hi' n ys s₀ s σ H hn ⟨a2, c2, o2, hv2, I2⟩ eC st fr pv
      obtain rfl : i = N := by omega
      obtain ⟨stop, qq⟩ := hstop ys σ H pv
      refine seg_forT ?_
      rw [over']
      refine wpAny_mono (T.done X rfl rfl rfl hc i _ s σ H NoX I2 (stat fr) st stop) (fun r s4 ⟨hr, I4⟩ => ?_) fun _ _ q => q
      subst hr
      subst hfs
      refine seg_leaf (.ok .next) ?_
      exact fin n ys s₀ s4 σ H hn ⟨a2, c2, o2, hv2, I4⟩ ((atC I4).trans ((atC I2).symm.trans eC)) qq
    | succ m ih =>
      intro i hm hi' n ys s₀ s σ H hn ⟨a2, c2, o2, hv2, I2⟩ eC st fr pv
      have hlt : i < N := by omega
      obtain ⟨go, step⟩ := hgo i ys σ H hlt pv
      have hyl := hlen i ys σ H pv
      refine seg_forT ?_
      rw [over']
      refine wpAny_mono (T.item X rfl rfl rfl hc i _ s σ H NoX I2 (stat fr) st go) (fun r s4 ⟨u, hr, h4⟩ => ?_) fun _ _ q => q
      subst hr
      refine wpAny_mono h4 (fun _ s5 ⟨x, H5, I5, r5, y5, st5, fr5⟩ => ?_) fun _ _ q => q
      have I5' := I5.pinned (stat fr5) (T.obj _ _ st5)
      refine wpAny_mono (hg.run _ s5 σ H5 x u _ I5' r5 (step x H5 y5)) (fun _ s6 ⟨σ6, H6, I6, q6⟩ => ?_) fun e s' q => noX e s' q
      obtain ⟨n', rfl⟩ : ∃ n', n = n' + 1 := ⟨n - 1, by omega⟩
      refine seg_execs_cons (seg_Expr_Yield split' rfl guard' ?_ hco hin)
      rw [over']
      refine wpAny_mono (he.run _ s6 σ6 H6 _ I6 q6) (fun v s7 ⟨y, H7, I7, r7, pv7⟩ => ?_) fun e s' q => (noX e s' q).elim
      intro kap hk
      have hip : ∀ q ∈ pinsAt fp s5.heap, q.1 ≠ S ∧ q.1 ≠ C := fun q hq => by
        have hb := (of_pinsAt hq).1
        exact ⟨(neS _ hb).1.symm, (neS _ hb).2.symm⟩
      have I7' : Inv X ([(S, lstObj a2 c2), (C, o2)] ++ pinsAt fp s5.heap) σ6 H7 s7 := by
        rw [List.append_nil] at I7
        exact I7
      refine ⟨ys, y, pinsAt fp s5.heap, σ6, H7, hn, r7, ⟨a2, c2, o2, hv2, I7'⟩, (atC I7').trans ((atC I2).symm.trans eC), fun s' z => hk .none s' ?_⟩
      obtain ⟨a8, c8, o8, hv8, I8⟩ := GJ.nap F hip ⟨a2, c2, o2, hv2, I7'⟩ r7 z
      have pin8 : ∀ b ∈ fp, ∀ o, s5.heap.get? b = some o → s'.heap.get? b = some o ∧ H7 b = none := fun b hb o e =>
        let w := I8.pin (b, o) (List.mem_append_right _ (List.mem_append_right _ (mem_pinsAt hb e)))
        ⟨w.1, w.2.1⟩
      refine seg_execs_nil (seg_again rfl (ih (i + 1) (by omega) (by omega) n' (ys ++ [y]) s' s' σ6 H7 ?_ ⟨a8, c8, o8, hv8, I8.pins_of fun q hq => I8.pin q (List.mem_append_right _ ?_)⟩ rfl (T.keep _ _ _ st5 fun b hb o e => (pin8 b hb o e).1) (fun b hb => ?_) pv7))
      · rw [List.length_append, List.length_singleton]; omega
      · rw [List.append_nil] at hq
        exact List.mem_append_left _ hq
      · obtain ⟨o, e, _⟩ := T.obj _ _ st5 b hb
        exact (pin8 b hb o e).2
  exact loop N 0 (by omega) (Nat.zero_le _) n [] s₀ s2 σ H2 (by rw [List.length_nil, hn]; rfl) ⟨acc, cc, oC, hv, I2⟩ ((atC I2).trans ((atC I).symm.trans hC0)) st2 (fun b hb => (f2 b hb).1) p0
end LF

set_option Elab.async false
set_option linter.all false
set_option maxRecDepth 100000
set_option maxHeartbeats 4000000
namespace LF
open PySem PySem.Spec PyProof.Rows L2 GenW
abbrev SpH := List V → Hp → (List V → Hp → Prop) → Prop
abbrev E00 : XK := fun _ _ _ => False
/-- the generator is through: all that was handed out stands at S -/
def NFin (P : Program) (w : World) (outer : List Env) (H : Hp) (s : Shared) (S C : Addr) (Q : List V → Hp → Prop) : Nat → Shared → Shared → Prop := fun _ s₀ s1 =>
  s1.heap.get? C = s₀.heap.get? C ∧ ∃ H' ys acc c, s1.os = s.os ∧ AllBare s1.gens ∧ Un (frs outer) [] H H' s.heap s1.heap ∧ HOk P w H' s1.heap ∧ H' S = none ∧ H' C = none ∧ s1.heap.get? S = some (lstObj acc c) ∧ Vals ys acc.toList ∧ ys.length ≤ sizeLine ∧ Q ys H'
abbrev NEr : Value → Shared → Prop := fun _ _ => False
def NEnd (P : Program) (w : World) (outer : List Env) (H : Hp) (s : Shared) (S C : Addr) (Q : List V → Hp → Prop) : GenEnd := fun n s₀ r s1 =>
  ((r = .ok (.ret .none) ∨ r = .ok .next) ∧ NFin P w outer H s S C Q n s₀ s1) ∨ ∃ e, r = .error e ∧ NEr e s1
def NItem (s : Shared) (S C a : Addr) (g : Nat) : Protocol := fun n s₀ v s1 kap =>
  s1.os = s.os ∧ AllBare s1.gens ∧ s1.heap.NoLimit ∧ s1.heap.IsGen a g ∧ s1.heap.get? C = s₀.heap.get? C ∧ (∃ (acc : Array Value) (c : Nat), s1.heap.get? S = some (lstObj acc c) ∧ n + 1 + acc.size = sizeLine) ∧ ∀ s', Nap S C v s1 s' → kap (.send .none) s'
/-- a generator that has not begun -/
def GMadeC (P : Program) (w : World) (k : Nat) (outer : List Env) (H : Hp) (s : Shared) (Q : List V → Hp → Prop) (u : Value) (s' : Shared) : Prop :=
  ∃ (a : Addr) (g : Nat) (c : Code), u = .ref a ∧ s.heap.objs.size ≤ a ∧ a < s'.heap.objs.size ∧ s'.heap.IsGen a g ∧ s'.gens[g]? = some (.fresh c) ∧ s'.os = s.os ∧ AllBare s'.gens ∧ s'.heap.NoLimit ∧ (∀ b o, s.heap.get? b = some o → s'.heap.get? b = some o) ∧
    ∀ (A : Around) (S C : Addr) (s2 : Shared), Room k A → A.frames = some outer → s'.heap.objs.size ≤ S → s'.heap.objs.size ≤ C → S ≠ C → (∀ b o, s'.heap.get? b = some o → s2.heap.get? b = some o) → (∃ c, s2.heap.get? S = some (lstObj #[] c)) →
      (∃ o, s2.heap.get? C = some o ∧ ∀ v, o.data ≠ .cell v) → s2.os = s.os → AllBare s2.gens → Seg (model P w) A (NEnd P w outer H s S C Q) (NItem s S C a g) sizeLine s2 c ((model P w).den c) [] s2
structure GFnC (P : Program) (w : World) (K : PySem.W.Frag) (mg : Str → Option Value) (base : Heap) (k : Nat) (f : Addr) (fd : FuncData) (ps : List Str) (sp : SpH) : Prop where
  len : ∀ vs H Q, sp vs H Q → vs.length = ps.length
  run : ∀ (A : Around) (outer : List Env) (s : Shared) (H : Hp) (args : Args) (us : List Value) (vs : List V) (Q : List V → Hp → Prop), Room k A → Env0 P w K mg base A outer s H → BindsTo s fd args (ps.zip us) → Vals vs us → sp vs H Q →
    codeAny (model P w) A (.call (.ref f) args) (fun r s' => match r with | .ok (.ret u) => GMadeC P w k outer H s Q u s' | _ => False) s
theorem seg_weak {M : Model} {A : Around} {R R' : GenEnd} {Y Y' : Protocol} (hR : ∀ n s₀ r s, R n s₀ r s → R' n s₀ r s) (hY : ∀ n s₀ v s kap kap', (∀ r s', kap r s' → kap' r s') → Y n s₀ v s kap → Y' n s₀ v s kap')
    (n : Nat) {s₀ : Shared} {c : Code} {t : Sem Fin} {fs : List Frame} {s : Shared} (h : Seg M A R Y n s₀ c t fs s) : Seg M A R' Y' n s₀ c t fs s := seg_imp hR hY n h
theorem gen_noX {P : Program} {w : World} {K : PySem.W.Frag} {mg : Str → Option Value} {base : Heap} {N : List Str} {qual : Str} {scope : Scope} {f : Addr} {cdv : Value} {A : Around} {outer : List Env} {s : Shared} {H : Hp} {pn : List (Addr × Obj)} {Γ : PySem.Ctx}
    (hΓ : Γ.In (gcxOf P w K mg base N qual scope f cdv A outer s H E00 pn).A) : ∀ e s', (gcxOf P w K mg base N qual scope f cdv A outer s H E00 pn).xe e s' → False := fun e s' hx => by
  have h : wpAny (model P w) (A.deeper (envOfC qual scope s.heap.objs.size f cdv)) (leaving (envOfC qual scope s.heap.objs.size f cdv) e) (fun _ s'' => CX P w outer H s E00 e s'' ∧ ∀ p ∈ pn, s''.heap.get? p.1 = some p.2) (fun _ _ => False) s' := hx
  have h2 := wpAny_mono h (Q' := fun _ _ => False) (E' := fun _ _ => False) (fun _ s'' q => by
    obtain ⟨⟨a, B, H', cls, d, _, _, _, _, _, _, _, hW⟩, _⟩ := q
    exact hW) fun _ _ q => q
  exact wp_no _ _ _ (h2 Γ default hΓ)
end LF

set_option Elab.async false
set_option linter.all false
set_option maxRecDepth 100000
set_option maxHeartbeats 4000000
namespace LF
open PySem PySem.Spec PyProof.Rows L2 GenW
/-- a generator def whose body is one for over a locked thing, with one yield -/
theorem gfnC_of {P : Program} {w : World} {K : PySem.W.Frag} {mg : Str → Option Value} {base : Heap} {k : Nat} {f : Addr} {name qual : Str} {params : Arguments} {tg iter e : Expr} {yp yq pos : Pos} {scope : Scope} {dV kV doc pm cdv ct oc : Value} {an od : Option Addr}
    {osl : Array (Option Value)} {N ps : List Str} {sp : SpH} (lk : K.lookup f = some ⟨oc, od, .func (PySem.W.fnOf name qual params [.For tg iter [.Expr (.Yield (some e) yp) yq] [] pos] scope dV kV doc pm an cdv ct), osl⟩) (hcd : PySem.W.codeIn K cdv qual = true) (G0 : GScope N ps scope) (hint : ∀ n, interactive (envOfC qual scope n f cdv) = false)
    (len : ∀ vs H Q, sp vs H Q → vs.length = ps.length)
    (hbody : ∀ (A : Around) (outer : List Env) (s : Shared) (H : Hp) (vs : List V) (Q : List V → Hp → Prop) (pn : List (Addr × Obj)), Room k (A.deeper (envOfC qual scope s.heap.objs.size f cdv)) → sp vs H Q →
      ∃ (d : Addr) (u : HO) (wi : TI) (g : TG) (te : TE), PI (gcxOf P w K mg base N qual scope f cdv A outer s H E00 pn) tg iter wi ∧ PG (gcxOf P w K mg base N qual scope f cdv A outer s H E00 pn) tg g ∧ PE (gcxOf P w K mg base N qual scope f cdv A outer s H E00 pn) e te ∧
        (∀ x, foldedSetIterable iter (gcxOf P w K mg base N qual scope f cdv A outer s H E00 pn).env x = pure x) ∧ H d = some u ∧ Mut (some u) ∧ ∀ od, tGF wi g te (start N vs) (upd H d (.frz od u)) fun ys _ H' => H' d = some (.frz od u) ∧ Q ys (upd H' d u)) :
    GFnC P w K mg base (k + 1) f (PySem.W.fnOf name qual params [.For tg iter [.Expr (.Yield (some e) yp) yq] [] pos] scope dV kV doc pm an cdv ct) ps sp := by
  refine ⟨len, fun A outer s H args us vs Q hr e0 hb r hsp => ?_⟩
  have hl := len _ _ _ hsp
  have KX : K.In s.heap := e0.mod.kin.keeps fun b o e => (e0.bs b o e).1
  have lim : s.heap.NoLimit := e0.mod.nolimit.keeps fun b o e => (e0.bs b o e).1
  have hk : ∀ y ∈ ps.zip us, scope.names.lookup y.1 = some .local ∨ (scope.names.lookup y.1 = some .cell ∧ ((cellsFrom (s.heap.objs.size + 1) scope.names []).lookup y.1).isSome = true) := by
    rintro ⟨n, v⟩ hy
    rcases G0.par n (List.of_mem_zip hy).1 with q | q
    · exact Or.inl q
    · exact Or.inr ⟨q, PySem.W.cellsFrom_some _ _ _ (Or.inl q)⟩
  refine codeAny_call_generator hr.depth (KX _ _ lk) rfl G0.co G0.gen rfl (PySem.W.codeRec_of KX hcd) (hb _ _ _ _ ?_)
  refine wpAny_newFunctionEnv_cells G0.kind hk fun env he s1 xx => ?_
  subst he
  have lim1 : s1.heap.NoLimit := lim.keeps xx.toInCall.keep
  refine ⟨lim1, ?_⟩
  obtain ⟨h1, tk, es1, _⟩ := xx.done
  have os1 : s1.os = s.os := by rw [es1]
  have gen1 : s1.gens = s.gens := by rw [es1]
  have lt1 : s.heap.objs.size < s1.heap.objs.size := xx.toInCall.ns.lt
  have sz1 := Nat.le_of_lt lt1
  have kp1 : ∀ b o, s.heap.get? b = some o → s1.heap.get? b = some o := xx.toInCall.keep
  have main : ∀ (go : Obj) (nm qn : Value) (tk2 : Nat), go.cls = .type "generator" → go.data = .fields #[.int s1.gens.size 0, nm, qn] → go.slots = #[] → (∀ h : Heap, (h.push go).get? h.objs.size = some go) →
      GMadeC P w (k + 1) outer H s Q (.ref s1.heap.objs.size) { s1 with gens := s1.gens.push (.fresh (.func [.For tg iter [.Expr (.Yield (some e) yp) yq] [] pos] (envOfC qual scope s.heap.objs.size f cdv))), toks := tk2, heap := s1.heap.push go } := by
    intro go nm qn tk2 g1 g2 g3 g4
    have isg : ∀ h : Heap, h.get? s1.heap.objs.size = some go → h.IsGen s1.heap.objs.size s1.gens.size := fun h e => ⟨go, nm, qn, e, g1, g2, g3⟩
    have here : (s1.heap.push go).get? s1.heap.objs.size = some go := g4 _
    refine ⟨s1.heap.objs.size, s1.gens.size, _, rfl, sz1, ?_, isg _ here, Array.getElem?_push_size .., os1, ?_, lim1.keeps fun b o e => Heap.get?_push_of_some _ e, fun b o e => Heap.get?_push_of_some _ (kp1 b o e), ?_⟩
    · show _ < (s1.heap.push _).objs.size
      rw [Heap.size_push]; exact Nat.lt_succ_self _
    · exact AllBare.push (by rw [gen1]; exact e0.bare) rfl
    intro B S C s2 hrB hfr hS hC hne hk2 hSo hCo hos hba
    have hS' : s1.heap.objs.size < S := by
      have q : (s1.heap.push go).objs.size ≤ S := hS
      rw [Heap.size_push] at q; exact q
    have hC' : s1.heap.objs.size < C := by
      have q : (s1.heap.push go).objs.size ≤ C := hC
      rw [Heap.size_push] at q; exact q
    have e0w : Env0 P w K mg base B outer s H := ⟨hfr, e0.mod, e0.bs, e0.bsz, e0.funs, e0.frf, e0.hok, e0.bare⟩
    obtain ⟨d, u, wi, g, te, hPI, hPG, hPE, hfs, hd, mu, hq⟩ := hbody B outer s H vs Q [(s1.heap.objs.size, go)] (hrB.deeper _) hsp
    have I1 : Inv (gcxOf P w K mg base N qual scope f cdv B outer s H E00 []) [] (start N vs) H s1 := inv_startG G0 hrB.hd e0w hl r xx
    have kp2 : ∀ b o, s1.heap.get? b = some o → s2.heap.get? b = some o := fun b o e => hk2 b o (Heap.get?_push_of_some _ e)
    have I2 : Inv (gcxOf P w K mg base N qual scope f cdv B outer s H E00 []) [] (start N vs) H s2 :=
      I1.call' (ch := []) (hos.trans os1.symm) (Un.kept kp2) (I1.hok.kept kp2) hba fun b z => by simp at z
    obtain ⟨cS, heS⟩ := hSo
    obtain ⟨oC, heC, hncC⟩ := hCo
    have hea : s2.heap.get? s1.heap.objs.size = some go := hk2 s1.heap.objs.size go here
    have hgd : ∀ v, go.data ≠ .cell v := fun v q => by rw [g2] at q; cases q
    have young : ∀ b, s1.heap.objs.size ≤ b → H b = none ∧ b ≠ s.heap.objs.size ∧ b ∉ frs outer ∧ s.heap.objs.size ≤ b ∧ ∀ y c, (cellsFrom (s.heap.objs.size + 1) scope.names []).lookup y = some c → c ≠ b := fun b hb => by
      refine ⟨I1.hok.fresh hb, Nat.ne_of_gt (Nat.lt_of_lt_of_le lt1 hb), I1.nofs hb, Nat.le_trans sz1 hb, fun y c e z => ?_⟩
      obtain ⟨v, ob, ho, _⟩ := I1.cell y c e
      have q := Heap.lt_size ho
      rw [z] at q
      exact absurd (Nat.lt_of_lt_of_le q hb) (Nat.lt_irrefl _)
    have yS := young S (Nat.le_of_lt hS')
    have yC := young C (Nat.le_of_lt hC')
    have yg := young s1.heap.objs.size (Nat.le_refl _)
    have F : Off (gcxOf P w K mg base N qual scope f cdv B outer s H E00 [(s1.heap.objs.size, go)]) S C := by
      refine ⟨hne, yS.2.2.2.1, yS.2.1, yS.2.2.2.2, fun p hp => ?_, yC.2.2.2.1, yC.2.1, yC.2.2.2.2, fun p hp => ?_⟩
      · rw [List.mem_singleton.mp hp]; exact Nat.ne_of_lt hS'
      · rw [List.mem_singleton.mp hp]; exact Nat.ne_of_lt hC'
    have I3 : Inv (gcxOf P w K mg base N qual scope f cdv B outer s H E00 [(s1.heap.objs.size, go)]) ([(S, lstObj #[] cS), (C, oC)] ++ []) (start N vs) H s2 := by
      refine Inv.pinnedG I2 fun p hp => ?_
      rcases List.mem_append.mp hp with z | z
      · rw [List.mem_singleton.mp z]
        exact ⟨hea, yg.1, yg.2.1, yg.2.2.1, hgd⟩
      · rw [List.append_nil] at z
        rcases List.mem_cons.mp z with rfl | z
        · exact ⟨heS, yS.1, yS.2.1, yS.2.2.1, fun v q => nomatch q⟩
        · obtain rfl := List.mem_singleton.mp z
          exact ⟨heC, yC.1, yC.2.1, yC.2.2.1, hncC⟩
    obtain ⟨od2, I4⟩ := I3.lock hd mu
    have nf := I3.nofrz hd mu
    have pinned : ∀ {ip : List (Addr × Obj)} {ys : List V} {s' : Shared} {σ' : L2.St} {H' : Hp}, GJ (gcxOf P w K mg base N qual scope f cdv B outer s H E00 [(s1.heap.objs.size, go)]) S C ip ys σ' H' s' → s'.heap.IsGen s1.heap.objs.size s1.gens.size := fun {ip ys s' σ' H'} hI => by
      obtain ⟨acc, cc, o, _, J⟩ := hI
      exact isg _ (J.pin (s1.heap.objs.size, go) (List.mem_append_left _ (List.mem_singleton.mpr rfl))).1
    -- there is no exception
    rw [seg_iff]
    intro Γ p hc hΓ
    have hin : (Γ.over []).In (gcxOf P w K mg base N qual scope f cdv B outer s H E00 [(s1.heap.objs.size, go)]).A := by
      have q := hΓ.over []
      rw [hc, over_func] at q
      exact q
    have noX := gen_noX hin
    refine seg_iff.mp ?_ Γ p hc hΓ
    refine seg_func (seg_execs_cons ?_)
    refine seg_weak (R := fun n s₀ r s' => r = .ok (.ret .none) ∧ s'.heap.get? C = s₀.heap.get? C ∧ ∃ ys σ' H', n + ys.length = sizeLine ∧ GJ (gcxOf P w K mg base N qual scope f cdv B outer s H E00 [(s1.heap.objs.size, go)]) S C [] ys σ' H' s' ∧ H' d = some (.frz od2 u) ∧ Q ys (upd H' d u))
      (Y := NY (gcxOf P w K mg base N qual scope f cdv B outer s H E00 [(s1.heap.objs.size, go)]) S C) ?_ ?_ sizeLine ?_
    · rintro n s₀ r s' ⟨rfl, eC, ys, σ', H', hn, ⟨acc, cc, o, hv, J⟩, hd', hQ⟩
      have J' := J.unlock hd' nf
      obtain ⟨p1, p2, _⟩ := J'.pin (S, lstObj acc cc) (List.mem_append_right _ (List.mem_append_left _ List.mem_cons_self))
      obtain ⟨_, p3, _⟩ := J'.pin (C, o) (List.mem_append_right _ (List.mem_append_left _ (List.mem_cons_of_mem _ List.mem_cons_self)))
      exact Or.inl ⟨Or.inl rfl, eC, _, ys, acc, cc, J'.os, J'.bare, J'.base, J'.hok, p2, p3, p1, hv, by omega, hQ⟩
    · rintro n s₀ v s' kap kap' hkk ⟨ys, x, ip, σ', H', hn, rv, hI, eC, hz⟩
      have hg := pinned hI
      obtain ⟨acc, cc, o, hv, J⟩ := hI
      have hsz : acc.size = ys.length := by
        have e1 := hv.length
        have e2 : acc.toList.length = acc.size := by simp
        omega
      exact ⟨J.os, J.bare, J.nolimit, hg, eC, ⟨acc, cc, (J.pin (S, lstObj acc cc) (List.mem_append_right _ (List.mem_append_left _ List.mem_cons_self))).1, by rw [hsz]; exact hn⟩, fun s'' z => hkk _ _ (hz s'' z)⟩
    · refine gen_for rfl hPI hPG hPE hfs noX F G0.co (hint _) over_func rfl rfl rfl rfl ⟨#[], cS, oC, .nil, I4⟩ rfl (hq od2) ?_
      rintro n ys s₀ s' σ' H' hn hI eC ⟨hd', hQ⟩
      refine seg_execs_nil ?_
      exact seg_end (.ok (.ret .none)) ⟨rfl, eC, ys, σ', H', hn, hI, hd', hQ⟩
  exact main _ _ _ _ rfl rfl rfl fun h => Heap.get?_push_size _ rfl
end LF

set_option Elab.async false
set_option linter.all false
set_option maxRecDepth 100000
set_option maxHeartbeats 4000000
namespace LF
open PySem PySem.Spec PyProof.Rows L2 GenW
/-- an expression whose value is a generator that has not begun -/
structure PGenC (X : Cx) (k : Nat) (e : Expr) (tg : TGen) : Prop where
  run : ∀ (pins : List (Addr × Obj)) (s : Shared) (σ : L2.St) (H : Hp) (cont : List V → Hp → Prop), Inv X pins σ H s → tg σ H cont → wpAny (model X.prog X.w) X.A (eval e X.env)
    (fun u s' => ∃ H1 sc, Inv X pins σ H1 sc ∧ GMadeC X.prog X.w k X.stack H1 sc cont u s') X.xe s
theorem goes_of {P : Program} {w : World} {B : Around} {outer : List Env} {H : Hp} {sc : Shared} {S C a : Addr} {g n : Nat} {Q : List V → Hp → Prop} {gs : GenState} {r : Resume} {s : Shared} (h : gs.Goes (model P w) B (NEnd P w outer H sc S C Q) (NItem sc S C a g) n r s) :
    gs.Goes (model P w) B (fun n s₀ r s₁ => ((r = .ok (.ret .none) ∨ r = .ok .next) ∧ NFin P w outer H sc S C Q n s₀ s₁) ∨ ∃ e, r = .error e ∧ NEr e s₁) (NItem sc S C a g) n r s := h
/-- one turn: next, store, read, append -/
theorem gen_turn {P : Program} {w : World} {A : Around} {outer : List Env} {H : Hp} {sc : Shared} {S C a : Addr} {g n : Nat} {Q : List V → Hp → Prop} {gs : GenState} {s : Shared} {Z : Option Value → Shared → Prop} {EX : Value → Shared → Prop}
    (hh : A.handled = none) (hd : A.depth < recursionLimit) (hSa : S ≠ a) (hCa : C ≠ a) (hne : S ≠ C) (hSc : S ≠ cStatics) (hCc : C ≠ cStatics) (hl : s.heap.NoLimit) (hg : s.heap.IsGen a g) (hgs : s.gens[g]? = some gs)
    (hgo : gs.Goes (model P w) A.in1 (NEnd P w outer H sc S C Q) (NItem sc S C a g) n (.send .none) (s.setGen g .running))
    (hfin : ∀ s₁, NFin P w outer H sc S C Q n (s.setGen g .running) s₁ → ∀ h', (∀ b o, s₁.heap.get? b = some o → h'.get? b = some o) → Z none { s₁.setGen g .finished with heap := h' })
    (hitem : ∀ v s₁ gs', s₁.heap.NoLimit → s₁.heap.IsGen a g → g < s₁.gens.size → (∀ o, s.heap.get? C = some o → s₁.heap.get? C = some o) → AllBare (s₁.setGen g gs').gens → (∃ (acc : Array Value) (c : Nat), s₁.heap.get? S = some (lstObj acc c) ∧ acc.size < sizeLine) →
      (∀ s', Nap S C v s₁ s' → ∃ m', m' < n ∧ gs'.Goes (model P w) A.in1 (NEnd P w outer H sc S C Q) (NItem sc S C a g) m' (.send .none) s') → Z (some v) (s₁.setGen g gs')) :
    wpAny (model P w) A (pyNext (.ref a)) Z EX s := by
  have hgl : g < s.gens.size := (Array.getElem?_eq_some_iff.mp hgs).1
  refine wpAny_gsz (n := g + 1) hgl (next_genG hh hl hd hg hgs (goes_of hgo) (fun v s₁ gs' hbare hv => ?_) (fun s₁ hp h' hk => fun _ => hfin s₁ hp h' hk) fun e s₁ he => he.elim)
  · intro hsz
    obtain ⟨os1, hb1, hl1, hg1, eC, ⟨acc, c, hS1, hacc⟩, hk⟩ := hv
    have hsz1 : g < s₁.gens.size := by
      have q : (s₁.setGen g gs').gens.size = s₁.gens.size := setGen_size _ _ _
      have q2 : g + 1 ≤ (s₁.setGen g gs').gens.size := hsz
      omega
    refine hitem v s₁ gs' hl1 hg1 hsz1 (fun o e => eC.trans e) (allBare_setGen hb1 hbare) ⟨acc, c, hS1, by omega⟩ fun s' z => ?_
    have z2 := hk s' z
    cases n with
    | zero => exact z2.elim
    | succ n' => exact ⟨n', Nat.lt_succ_self _, z2⟩
end LF

set_option Elab.async false
set_option linter.all false
set_option maxRecDepth 100000
set_option maxHeartbeats 4000000
namespace LF
open PySem PySem.Spec PyProof.Rows L2 GenW
theorem cloNo {cells : List (Str × Addr)} : ∀ {l : List (Str × NameKind)}, (∀ y ∈ l, y.2 ≠ .free) → ∀ y ∈ l, y.2 = .free → ∃ c, cells.lookup y.1 = some c := fun h y hy e => absurd e (h y hy)
/-- [x for x in g], g a generator that has not begun -/
theorem pe_lcG {X : Cx} {k : Nat} {x : Str} {px px2 pos : Pos} {iter : Expr} {scope : Scope} {tg : TGen} (hgen : PGenC X k iter tg) (hr : Room (k + 1) X.A) (hkind : scope.kind = .function) (huniq : ∀ y ∈ scope.names, y.2 = .local → scope.names.lookup y.1 = some .local)
    (hx : scope.names.lookup x = some .local) (hnf : ∀ y ∈ scope.names, y.2 ≠ .free) (hdb : (x == ("__debug__" : Str)) = false := by decide) (hs : ∀ v, foldedSetIterable iter X.env v = pure v := by intro _; rfl) :
    PE X (.ListComp (.Name x px2) [⟨.Name x px, iter, [], 0⟩] scope pos) (tListG tg) := by
  refine ⟨fun pins s σ H Q I h => ?_⟩
  rw [eval_ListComp]
  refine wpAny_comprehension_free (use := none) rfl hs (closure_ok (cloNo hnf)) hkind (fun y hy e => huniq y hy e) (thn (hgen.run pins s σ H _ I h) fun u s1 ⟨H1, sc, I1, hG⟩ => ?_)
  obtain ⟨a, g, c, rfl, ha1, ha2, hg, hgs, hos, hb, hl, hkp, wake⟩ := hG
  refine wpAny_pyIter_gen hg ?_
  refine wpAny_newObj_type (newEnv_comp ?_) (by show 0 ≤ sizeLine; decide)
  generalize hS : s1.heap.objs.size = S
  generalize hs3 : ({ s1 with heap := s1.heap.push { cls := .type "list", data := .seq ([] : List Value).toArray } } : Shared) = s3
  have h3 : s3.heap = s1.heap.push { cls := .type "list", data := .seq ([] : List Value).toArray } := by rw [← hs3]
  show codeAny _ _ (.compStart (.ListComp (.Name x px2) [⟨.Name x px, iter, [], 0⟩] scope pos) 0 (.ref a) (.ref S) (compEnvC scope (cellsFrom (s3.heap.objs.size + 1) scope.names (cloFrom X.env.cells scope.names [])) s3.heap.objs.size X.env)) (compPost (model X.prog X.w) X.A X.xe none _ (.ref S) s3.heap.objs.size) { s3 with heap := pushCells (s3.heap.push { cls := .type "dict", data := .dict #[] }) scope.names }
  generalize hC : s3.heap.objs.size = C
  generalize hce : compEnvC scope (cellsFrom (C + 1) scope.names (cloFrom X.env.cells scope.names [])) C X.env = ce
  generalize hs4 : ({ s3 with heap := pushCells (s3.heap.push { cls := .type "dict", data := .dict #[] }) scope.names } : Shared) = s4
  have h4 : s4.heap = pushCells (s3.heap.push { cls := .type "dict", data := .dict #[] }) scope.names := by rw [← hs4]
  have eSC : C = S + 1 := by rw [← hC, h3, Heap.size_push, hS]
  have k13 : ∀ b o, s1.heap.get? b = some o → s3.heap.get? b = some o := fun b o e => by rw [h3]; exact Heap.get?_push_of_some _ e
  have k34 : ∀ b o, s3.heap.get? b = some o → s4.heap.get? b = some o := fun b o e => by rw [h4]; exact pushCells_keeps _ _ _ _ (Heap.get?_push_of_some _ e)
  have k14 : ∀ b o, s1.heap.get? b = some o → s4.heap.get? b = some o := fun b o e => k34 b o (k13 b o e)
  have gS : s4.heap.get? S = some (lstObj #[] 0) := k34 _ _ (by rw [h3, ← hS]; exact Heap.get?_push_size _ rfl)
  have gC0 : (s3.heap.push { cls := .type "dict", data := .dict #[] }).get? C = some { cls := .type "dict", data := .dict #[] } := by rw [← hC]; exact Heap.get?_push_size _ rfl
  have gC : s4.heap.get? C = some { cls := .type "dict", data := .dict #[] } := by rw [h4]; exact pushCells_keeps _ _ _ _ gC0
  have nC : s4.heap.Ns C (fun _ => none) := ⟨_, #[], _, gC, rfl, (fun e he => absurd he (by simp)), fun name => rfl⟩
  have sz4 : s1.heap.objs.size ≤ S := Nat.le_of_eq hS
  have szC : s1.heap.objs.size ≤ C := by rw [eSC]; exact Nat.le_succ_of_le sz4
  have sc1 : sc.heap.objs.size ≤ s1.heap.objs.size := Nat.le_trans ha1 (Nat.le_of_lt ha2)
  have scS : sc.heap.objs.size ≤ S := Nat.le_trans sc1 sz4
  have scC : sc.heap.objs.size ≤ C := Nat.le_trans sc1 szC
  have nSC : S ≠ C := by rw [eSC]; exact Nat.ne_of_lt (Nat.lt_succ_self _)
  have nSa : S ≠ a := Nat.ne_of_gt (Nat.lt_of_lt_of_le ha2 sz4)
  have nCa : C ≠ a := Nat.ne_of_gt (Nat.lt_of_lt_of_le ha2 szC)
  have hcl : cStatics < s1.heap.objs.size := let ⟨_, hn, _⟩ := hl; hn.lt
  have nSs : S ≠ cStatics := Nat.ne_of_gt (Nat.lt_of_lt_of_le hcl sz4)
  have nCs : C ≠ cStatics := Nat.ne_of_gt (Nat.lt_of_lt_of_le hcl szC)
  have gens4 : s4.gens = s1.gens := by rw [← hs4, ← hs3]
  have os4 : s4.os = s1.os := by rw [← hs4, ← hs3]
  have ck : ce.kindOf x = some .local := by rw [← hce]; exact lookup_relabel_local hx
  have ckd : ce.scope.kind = .function := by rw [← hce]; exact hkind
  have cL : ce.locals = C := by rw [← hce]; rfl
  have clsF : (ce.scope.kind == .class || (ce.scope.kind == .module && ce.locals != ce.globals)) = false := by rw [ckd]; rfl
  have bareOf : ∀ {t : Shared} {y : GenState}, AllBare t.gens → y.bare = true → AllBare (t.setGen g y).gens := fun h1 h2 => allBare_setGen h1 h2
  have loop : codeAny (model X.prog X.w) X.A (.compLoop (.ListComp (.Name x px2) [⟨.Name x px, iter, [], 0⟩] scope pos) 0 (.ref a) (.ref S) ce) (compPost (model X.prog X.w) X.A X.xe none (fun v s' => ∃ x H1, L2.Inv X pins σ H1 s' ∧ L2.RelV x v ∧ Q x H1) (.ref S) C) s4 := by
    refine compLoop_any (fun n t => t.heap.IsGen a g ∧ t.heap.NoLimit ∧ (∃ m, t.heap.Ns C m) ∧ ∃ gs, t.gens[g]? = some gs ∧ gs.Goes (model X.prog X.w) X.A.in1 (NEnd X.prog X.w X.stack H1 sc S C fun out H2 => ∀ p, H2 p = none → Q (.ref p) (upd H2 p (.lst out))) (NItem sc S C a g) n (.send .none) (t.setGen g .running)) ?_ sizeLine ?_
    rotate_left
    · refine ⟨hg.keeps k14, hl.keeps k14, ⟨_, nC⟩, .fresh c, by rw [gens4]; exact hgs, rfl, ?_⟩
      refine wake X.A.in1 S C (s4.setGen g .running) hr.in1 I1.ok.frames sz4 szC nSC k14 ⟨0, gS⟩ ⟨_, gC, fun v q => nomatch q⟩ (os4.trans hos) (bareOf (by rw [gens4]; exact hb) rfl)
    · rintro n t ⟨tg1, tl, ⟨m, tn⟩, gs, tgs, tgo⟩
      refine gen_turn hr.hd (by have := hr.dp; omega) nSa nCa nSC nSs nCs tl tg1 tgs tgo (fun s₁ hp h' hk => ?_) (fun v s₁ gs' l1 g1 gz kC hbare ⟨acc, cc, hS1, hlt⟩ hk => ?_)
      · obtain ⟨eC, H', ys, acc, cc, os1, hb1, un, hok, hSn, hCn, hS1, hv, hle, hQ⟩ := hp
        have I3 := I1.drained (s' := { s₁.setGen g .finished with heap := h' }) scS hle (hk _ _ hS1) hv ExOk.nil os1 (bareOf hb1 rfl) (un.trans (Un.kept hk)) (hok.kept hk) hSn
        have hCn2 : (upd H' S (.lst ys)) C = none := by rw [upd_ne nSC.symm]; exact hCn
        obtain ⟨f0, f1, f2, f3, f4, f5⟩ := I1.fpOk scC hCn2
        refine ⟨m, tn.at' fun o e => hk _ _ (eC.trans e), fun h3 sb => ⟨.ref S, upd H' S (.lst ys), I3.turned (t' := s₁.toks) (fun b o hb e => (sb.2 b hb).trans e) f0 f1 f3 f4 f5, rfl, hQ S hSn⟩⟩
      · have tn1 : (s₁.setGen g gs').heap.Ns ce.locals m := by rw [cL]; exact tn.at' kC
        show wpAny _ _ (letOwnedTupleGo (.Name x px) (.ref a) v) _ _ _
        unfold letOwnedTupleGo
        refine wpAny_pure ?_
        refine wpAny_assign_Name (wpAny_storeName_local ck tn1 (fun h1 hn1 sb1 => ?_) clsF)
        refine wpAny_tests_nil ?_
        rw [if_pos rfl, eval_Name _ x px2 hdb]
        refine wpAny_bind (wpAny_standAt (wpAny_loadName_local ckd ck hn1 (if_pos rfl) ?_))
        rw [cL] at sb1 hn1
        have eS1 : h1.get? S = some (lstObj acc cc) := (sb1.2 S nSC).trans hS1
        refine append_at (D := S) (its := acc) (n := cc) eS1 (fun h2 sb2 ho2 => ?_) (Nat.le_of_lt hlt)
        have k2 : ∀ b o, b ≠ S → b ≠ C → s₁.heap.get? b = some o → h2.get? b = some o := fun b o n1 n2 e => (sb2.2 b n1).trans ((sb1.2 b n2).trans e)
        have hn2 := hn1.sameBut sb2 nSC.symm
        obtain ⟨m', hm, hgo⟩ := hk ({ s₁.setGen g gs' with heap := h2, toks := s₁.toks + 1 }.setGen g .running) ⟨rfl, bareOf (t := { s₁.setGen g gs' with heap := h2, toks := s₁.toks + 1 }) hbare rfl, k2, fun acc2 c2 e2 => by
          rw [hS1] at e2
          cases e2
          exact ⟨cc + 1, ho2⟩, by
          obtain ⟨o, es, ep, e, d, _⟩ := hn2
          exact ⟨o, e, fun v q => by rw [d] at q; cases q⟩⟩
        refine ⟨m', hm, ?_, ?_, ⟨_, hn2⟩, gs', setGen_at gz, hgo⟩
        · obtain ⟨o, nm, qn, ho, r⟩ := g1
          exact ⟨o, nm, qn, k2 a o nSa.symm nCa.symm ho, r⟩
        · obtain ⟨mc, hns, hnn⟩ := l1
          exact ⟨mc, hns.at' fun o e => k2 _ o nSs.symm nCs.symm e, hnn⟩
  exact codeAny_compStart_list loop (wpAny_pyIter_gen (hg.keeps k14) loop)
end LF

set_option Elab.async false
set_option linter.all false
set_option maxRecDepth 100000
set_option maxHeartbeats 4000000
namespace LF
open PySem PySem.Spec PyProof.Rows L2 GenW
def tMethC (C : Addr) (m : Str) (sp : SpH) (ta : TE) : TGen := fun σ H cont => ta σ H fun x H1 => ∃ a dx fs, x = .ref a ∧ H1 a = some (.ins C dx fs) ∧ fs.lookup m = none ∧ sp [x] H1 cont
/-- o.m(), m a generator method -/
theorem pgenC_meth {X : Cx} {k : Nat} {o : Expr} {ta : TE} {C f : Addr} {m : Str} {fd : FuncData} {apos pos' : Pos} {pl : Sem Bool} {px : Str} {sp : SpH} (he : PE X o ta) (c : Cls X.K C) (hm : Meth X.K C m f) (F : GFnC X.prog X.w X.K X.mg X.base k f fd [px] sp) (hr : Room k X.A) (hb : Binds X.K fd [px] [])
    (ht : eval (.Call (.Attribute o m apos) [] [] pos') X.env = (do
      let ov ← eval o X.env
      standAt apos.atName
      let (f, first) ← holding [ov] (getMethod ov m pl)
      callWith pos' f first (backTo pos' (starEach [] X.env)) (backToKw pos' (keywordEach [] X.env))) := by rfl) :
    PGenC X k (.Call (.Attribute o m apos) [] [] pos') (tMethC C m sp ta) := by
  refine ⟨fun pins s σ H cont I h => ?_⟩
  refine PySem.W.methodCall_KW (pl := pl) (thn (he.run pins s σ H _ I h) fun u s1 ⟨x, H1, I1, rx, a, dx, fs, ex, ea, l, q⟩ => ?_) ht
  subst ex
  obtain rfl : u = Value.ref a := rx
  refine getmeth_ok I1 ea c hm l ?_
  refine PySem.W.callWith_K0 (first := [.ref a]) I1.kIn hm.kp ?_
  have b' := hb s1 [.ref a] I1.kIn rfl
  rw [List.append_nil] at b'
  refine wpAny_call (codeAny_mono (F.run X.A X.stack s1 H1 ⟨[.ref a], []⟩ [.ref a] [.ref a] cont hr I1.env0 b' (.cons rfl .nil) q) fun r s' hq => ?_)
  cases r with
  | error e => exact hq.elim
  | ok fl =>
    cases fl with
    | ret u => exact ⟨H1, s1, I1, hq⟩
    | next => exact hq.elim
    | brk => exact hq.elim
    | cont => exact hq.elim
end LF

set_option Elab.async false
set_option linter.all false
set_option maxRecDepth 100000
set_option maxHeartbeats 4000000
namespace LF
open PySem PySem.Spec PyProof.Rows L2
section
variable {K : PySem.W.Frag} {A : Around} {E : Value → Shared → Prop} {s : Shared} {x C : Addr} {ox : Obj} {od : Option Obj} {name : Str} {id : String}
theorem ifBound_B {M : Model} {args : List Value} {Q : Option Value → Shared → Prop} (X : K.In s.heap) (I : PySem.W.InstAt s.heap x ox C od) (hs : PySem.W.findIn K (.ref C) name = some (some (.builtin id))) (hb : ∀ self, bindSpecial (.builtin id) self = pure (.builtin id, [self]))
    (h : wpAny M A (call (.builtin id) (.ref x :: args)) (fun v => Q (some v)) E s) : wpAny M A (callSpecialIfBound? (.ref x) name args) Q E s := by
  simp only [callSpecialIfBound?, bindSpecialIfBound?]
  refine wpAny_holding (wpAny_bind (wpAny_bind (wpAny_bind (I.type.here ((PySem.W.looks_findIn X hs).here ?_)))))
  refine wpAny_bind (wpAny_askSetting (wpAny_ite ?_))
  have fin : wpAny M A (call (.builtin id) ([.ref x] ++ args) >>= fun v => pure (some v)) Q E s := wpAny_bind (wpAny_mono h (fun v s' h' => wpAny_pure h') fun _ _ h' => h')
  split
  · exact wpAny_bind (wpAny_of_eq (hb _) (wpAny_pure (by exact fin)))
  · exact wpAny_tryCatch (wpAny_bind (wpAny_of_eq (hb _) (wpAny_pure (by exact fin))))
end
theorem ne_bind (self : Value) : bindSpecial (.builtin "object.__ne__") self = pure (.builtin "object.__ne__", [self]) := F.cmp_object.ne.bind self
section
variable {X : Cx} {k : Nat} {C f : Addr} {fd : FuncData} {ps : List Str} {sp : Sp}
/-- the call of the class's own == -/
theorem eq_call {A : Around} {pins : List (Addr × Obj)} {s : Shared} {σ : L2.St} {H : Hp} {a b : Addr} {R : VK} {Z : Value → Shared → Prop} {EX : Value → Shared → Prop} (G : FnOk X.prog X.w X.K X.mg X.base CX0 k f fd ps sp) (hr : Room k A) (hfr : A.frames = X.A.frames) (hb : Binds X.K fd ps []) (I : Inv X pins σ H s)
    (hsp : sp [.ref a, .ref b] H R E0) (hz : ∀ v u H' s', Inv X pins σ H' s' → RelV v u → R v H' → Z u s') : wpAny (model X.prog X.w) A (call (.ref f) [.ref a, .ref b]) Z EX s := by
  have e0 : Env0 X.prog X.w X.K X.mg X.base A X.stack s H := by
    have e := I.env0
    exact ⟨by rw [hfr]; exact e.frames, e.mod, e.bs, e.bsz, e.funs, e.frf, e.hok, e.bare⟩
  have hl := G.len _ _ _ _ hsp
  have b' := hb s [.ref a, .ref b] I.kIn (by simpa using hl)
  rw [List.append_nil] at b'
  refine wpAny_call (codeAny_mono (G.run A X.stack s H ⟨[.ref a, .ref b], []⟩ [.ref a, .ref b] [.ref a, .ref b] _ E0 hr e0 b' (.cons rfl (.cons rfl .nil)) hsp) fun r s' hq => ?_)
  cases r with
  | error e => exact hq.elim
  | ok fl =>
    cases fl with
    | next => exact hq.elim
    | brk => exact hq.elim
    | cont => exact hq.elim
    | ret u =>
      obtain ⟨v, H', I', rv, q⟩ := I.after hq
      exact hz v u H' s' I' rv q
def rCmpO (neg : Bool) (C : Addr) (sp : Sp) : R2 := fun x y H Q => ∃ a b dx dy fs gs, x = .ref a ∧ y = .ref b ∧ H a = some (.ins C dx fs) ∧ H b = some (.ins C dy gs) ∧ sp [.ref a, .ref b] H (fun v H' => ∃ r : Bool, v = .bl r ∧ Q (.bl (if neg = true then !r else r)) H') E0
/-- x == y of own instances by the class's own == -/
theorem op_eqO (G : FnOk X.prog X.w X.K X.mg X.base CX0 k f fd ps sp) (hr : Room k X.A) (hb : Binds X.K fd ps []) (hs : PySem.W.findIn X.K (.ref C) "__eq__" = some (some (.ref f))) (hf : PySem.W.isFn X.K (.ref f) = true) : OpR X (compareOp .Eq) (rCmpO false C sp) := by
  intro pins s σ H x y v u Q I rx ry h
  obtain ⟨a, b, dx, dy, fs, gs, rfl, rfl, ha, hb', hsp⟩ := h
  obtain rfl : v = Value.ref a := rx
  obtain rfl : u = Value.ref b := ry
  obtain ⟨mA, J, _⟩ := ins_get I.hok ha
  obtain ⟨mB, J', _⟩ := ins_get I.hok hb'
  obtain ⟨od, J, _⟩ := J.look
  obtain ⟨od', J', _⟩ := J'.look
  obtain ⟨m, hF⟩ := I.fr
  show wpAny (model X.prog X.w) X.A (richCompare .Eq (.ref a) (.ref b)) _ X.xe s
  refine PySem.W.cmp_K (op := .Eq) (tb := .ref C) hr.units0 hF I.ok.mod.kin J J'.type (by simp [PySem.W.notFirst]) hs hf ?_
  refine eq_call G hr rfl hb I hsp fun v u H' s' I' rv q => ?_
  obtain ⟨r, rfl, q⟩ := q
  obtain rfl : u = Value.bool r := rv
  exact ⟨.bl r, H', I', rfl, q⟩
/-- x != y of own instances: object's own, by the class's == -/
theorem op_neO (G : FnOk X.prog X.w X.K X.mg X.base CX0 k f fd ps sp) (hr : Room (k + 4) X.A) (hb : Binds X.K fd ps []) (hs : PySem.W.findIn X.K (.ref C) "__eq__" = some (some (.ref f))) (hf : PySem.W.isFn X.K (.ref f) = true)
    (hn : PySem.W.findIn X.K (.ref C) "__ne__" = some (some (.builtin "object.__ne__"))) (ho : PySem.W.subIn X.K (.ref C) (.type "object") = some true) : OpR X (compareOp .NotEq) (rCmpO true C sp) := by
  intro pins s σ H x y v u Q I rx ry h
  obtain ⟨a, b, dx, dy, fs, gs, rfl, rfl, ha, hb', hsp⟩ := h
  obtain rfl : v = Value.ref a := rx
  obtain rfl : u = Value.ref b := ry
  obtain ⟨mA, J, _⟩ := ins_get I.hok ha
  obtain ⟨mB, J', _⟩ := ins_get I.hok hb'
  obtain ⟨od, J, _⟩ := J.look
  obtain ⟨od', J', _⟩ := J'.look
  have KX := I.kIn
  show wpAny (model X.prog X.w) X.A (richCompare .NotEq (.ref a) (.ref b)) _ X.xe s
  have hu0 := hr.un
  have one : wpAny (model X.prog X.w) X.A (tryCompare (.ref a) "__ne__" (.ref b)) (fun r s' => ∃ v, r = some v ∧ EP X pins σ Q v s') X.xe s := by
    unfold tryCompare
    refine wpAny_bind (ifBound_B KX J hn ne_bind ?_)
    refine wpAny_call (codeAny_call_builtin F.cmp_object.ne.plain F.cmpEntry_ne (PySem.W.check_slot F.cmpKind_ne F.cmpSplit_ne (J.type.andThen (PySem.W.looks_subIn KX ho)) (F.cmpArgs_ne _ _) ?_))
    unfold Builtin.«object.__ne__»
    refine wpAny_bind (wpAny_of_eq (a := (Value.ref a, [Value.ref b])) rfl ?_)
    refine wpAny_bind (wpAny_cRoomFor (by have := hr.in1.un; omega) ?_)
    refine wpAny_bind (m := callSpecialIfBound? (.ref a) (Str.ofString "__eq__") [.ref b]) (PySem.W.ifBound_K KX J hs hf ?_)
    refine eq_call G (hr.in1.mono (by omega)) rfl hb I hsp fun v u H' s' I' rv q => ?_
    obtain ⟨r, rfl, q⟩ := q
    obtain rfl : u = Value.bool r := rv
    refine wpAny_bind (m := truthy (.bool r)) (wpAny_truthy_bool ?_)
    refine wpAny_pure ?_
    exact wpAny_pure ⟨_, rfl, .bl (!r), H', I', rfl, q⟩
  unfold richCompare
  simp only [oneThing_ref]
  refine wpAny_holding (wpAny_bind (wpAny_cRoomFor (by omega) ?_))
  refine wpAny_bind (J.type.here (wpAny_bind (J'.type.here ?_)))
  rw [show (Value.ref C != Value.ref C) = false from by simp]
  simp only [Bool.false_eq_true, if_false]
  refine wpAny_bind (wpAny_pure ?_)
  simp only [Bool.false_eq_true, if_false]
  refine wpAny_bind (wpAny_mono one (fun r s' z => ?_) fun _ _ e => e)
  obtain ⟨v, rfl, hq⟩ := z
  exact wpAny_pure hq
end
end LF

set_option Elab.async false
set_option linter.all false
set_option maxRecDepth 100000
set_option maxHeartbeats 4000000
namespace K6
open PySem PySem.Spec PyProof.Rows L2 LF
abbrev s_items : Stmt := inClass s_Package 7
theorem gs_items : GScope ["self", "path"] ["self"] (defScope s_items) := ⟨rfl, rfl, rfl, by decide +kernel, rfl, by decide +kernel, by decide +kernel⟩
/-- the pairs at these addresses are the entries -/
def Prs (H : Hp) (ps : List Addr) (es : List (Str × V)) : Prop := Paired (fun a (e : Str × V) => H a = some (.tup [.str e.1, e.2])) ps es
theorem Prs.mono {H H' : Hp} (s : ∀ a xs, H a = some (.tup xs) → H' a = some (.tup xs)) : ∀ {ps : List Addr} {es : List (Str × V)}, Prs H ps es → Prs H' ps es
  | [], [], .nil => .nil
  | _ :: _, _ :: _, .cons a r => .cons (s _ _ a) (Prs.mono s r)
theorem Prs.snoc {H : Hp} {a : Addr} {e : Str × V} (h : H a = some (.tup [.str e.1, e.2])) : ∀ {ps : List Addr} {es : List (Str × V)}, Prs H ps es → Prs H (ps ++ [a]) (es ++ [e])
  | [], [], .nil => .cons h .nil
  | _ :: _, _ :: _, .cons a r => .cons a (Prs.snoc h r)
def spItems (C : Addr) : SpH := fun vs H Q => ∃ p es, vs = [.ref p] ∧ PkAt C H p es ∧ OkE es ∧ es.length ≤ 1000 ∧ ∀ H' ps, Same H H' → Prs H' ps es → Q (ps.map V.ref) H'
section
variable {P : Program} {w : World} {K : PySem.W.Frag} {mg : Str → Option Value} {base : Heap} {tk1 tk2 : Tok}
theorem ok_items {f C : Addr} {fd : FuncData} (F : Fun K "items" "Package.items" s_items f fd) (R : PkTxt K mg C) : GFnC P w K mg base 2 f fd ["self"] (spItems C) := by
  obtain ⟨oc, od, kV, doc, pm, an, cdv, ct, osl, rfl, lk, hcd⟩ := F.ex
  refine gfnC_of (k := 1) lk hcd gs_items (fun n => rfl) (fun vs H Q h => ?_) (fun A outer s H vs Q pn hr h => ?_)
  · obtain ⟨p, es, rfl, _⟩ := h
    rfl
  obtain ⟨p, es, rfl, ⟨dx, d, ⟨xx_hp, hp, zz_hp⟩, hd⟩, ok, hl, hq⟩ := h
  have hu1 := hu_of hr
  refine ⟨d, .dK (kv es), _, _, _, pi_keys (pe_fld (pv 0) rfl), pg_name (i := 1) gs_items.nd rfl (Or.inl rfl), pe_tup (pa_cons (pv 1) (pa_cons (pe_dget hu1 (show PE _ _ (tFld K (tVar 0) "entries") from pe_fld (pv 0) rfl) (pv 1) (fun _ _ => rfl)) pa_nil)), (by intro _; rfl), hd, True.intro, fun od => ?_⟩
  have npd : p ≠ d := ne_of hp hd (by intro z; cases z)
  have hbig := sizeLine_big
  have hkl : (kv es).length = es.length := kv_len es
  refine ⟨_, rfl, p, C, dx, _, _, rfl, (by rw [upd_ne npd]; exact hp), R.cl, R.nE, lk_entries d, ?_⟩
  refine ⟨d, od, rfl, Or.inl ⟨kv es, upd_same, ?_⟩⟩
  have hl0 : (upd H d (.frz od (.dK (kv es)))) d = some (.frz od (.dK (kv es))) := upd_same
  have hp0 : (upd H d (.frz od (.dK (kv es)))) p = some (.ins C dx (pkFs d xx_hp)) := by rw [upd_ne npd]; exact hp
  have hs0 : ∀ H', Same (upd H d (.frz od (.dK (kv es)))) H' → Same H (upd H' d (.dK (kv es))) := fun H' s' => same_unlock hd s'
  generalize (upd H d (.frz od (.dK (kv es)))) = L at hl0 hp0 hs0
  refine ⟨(kv es).length, fun i ys σ H' => ∃ v1 ps, σ = [some (.ref p), v1] ∧ Same L H' ∧ ys = ps.map V.ref ∧ ps.length = i ∧ Prs H' ps (es.take i), by omega, ⟨_, [], rfl, Same.refl L, rfl, rfl, .nil⟩, ?_, ?_, ?_⟩
  · rintro i ys σ H' ⟨v1, ps, _, _, rfl, hl2, _⟩
    rw [List.length_map]; exact hl2
  · rintro i ys σ H' hi ⟨v1, ps, rfl, sm, rfl, hl2, pr⟩
    have hlk := sm _ _ hl0
    refine ⟨walk_keys.goes i H' hi hlk, fun x H2 hy => ?_⟩
    obtain ⟨rfl, k, v, hk, rfl⟩ := walk_keys.yields i H' x H2 hi hlk hy
    obtain ⟨pth, rfl, he, hm⟩ := kv_get hk
    have hv := val_mem ok.nd hm
    have hg : DGet H2 d (.str pth) (some v) := .inl ⟨kv es, .inr pth, .inr ⟨od, hlk⟩, rfl, hv.symm⟩
    refine ⟨_, rfl, _, rfl, p, C, dx, _, _, rfl, sm _ _ hp0, R.cl, R.nE, lk_entries d, ?_⟩
    refine ⟨_, rfl, d, v, rfl, hg, (by show 2 ≤ sizeLine; decide), fun q hq2 => ?_⟩
    have et : es.take (i + 1) = es.take i ++ [(pth, v)] := by rw [List.take_add_one, he]; rfl
    refine ⟨_, ps ++ [q], rfl, sm.trans (same_new hq2), by rw [List.map_append]; rfl, by rw [List.length_append, hl2]; rfl, ?_⟩
    rw [et]
    exact Prs.snoc (e := (pth, v)) upd_same (pr.mono fun a xs h => same_new hq2 _ _ h)
  · rintro ys σ H' ⟨v1, ps, rfl, sm, rfl, hl2, pr⟩
    have hlk := sm _ _ hl0
    refine ⟨walk_keys.stops H' hlk, hlk, hq _ ps (hs0 _ sm) ?_⟩
    rw [hkl, List.take_length] at pr
    exact pr.mono fun a xs h => by rw [upd_ne (fun e => by rw [e, hlk] at h; cases h)]; exact h
end
end K6

set_option Elab.async false
set_option linter.all false
set_option maxRecDepth 100000
set_option maxHeartbeats 4000000
namespace K6
open PySem PySem.Spec PyProof.Rows L2 LF
abbrev s_eq : Stmt := inClass s_Package 16
theorem sc_eq : FnScope ["self", "other"] ["self", "other"] (defScope s_eq) := ⟨rfl, rfl, rfl, by decide +kernel, rfl, by decide +kernel, by decide +kernel⟩
structure PkIs (K : PySem.W.Frag) (C : Addr) : Prop where
  cl : Cls K C
  ha : PySem.W.findIn K (.ref C) "__class__" = some (some (.builtin "object.__class__"))
  hn : PySem.W.specialIn K (.builtin "object.__class__") "__get__" = some (some (.builtin "getset_descriptor.__get__"))
  ht : PySem.W.takesIn K (.builtin "object.__class__") = some true
  hm : PySem.W.mroIn K C (.type "object") = some true
  kC : PySem.W.kitOne K (.ref C) (.ref C) = some true
/-- two packages with the same entries -/
def spEqP (C : Addr) : Sp := fun vs H Q _ => ∃ a b es, vs = [.ref a, .ref b] ∧ PkAt C H a es ∧ PkAt C H b es ∧ OkE es ∧ ∀ H', Same H H' → Q (.bl true) H'
theorem flat_item {v : V} (h : Plain v ∧ itemV v = true) : flatB v = true := by
  rcases item_of h with rfl | ⟨i, rfl, _⟩ | ⟨t, rfl, _⟩ <;> rfl
section
variable {P : Program} {w : World} {K : PySem.W.Frag} {mg : Str → Option Value} {base : Heap} {tk1 tk2 : Tok}
theorem ok_eq {f C : Addr} {fd : FuncData} (F : Fun K "__eq__" "Package.__eq__" s_eq f fd) (T : Txt K mg tk1 tk2) (R : PkTxt K mg C) (I : PkIs K C) : FnOk P w K mg base CX0 1 f fd ["self", "other"] (spEqP C) := by
  refine F.ok sc_eq (fun vs H Q E h => ?_) (fun cdv A outer s H vs Q E hr h => ?_)
  · obtain ⟨a, b, es, rfl, _⟩ := h
    rfl
  have hu1 := hu_of hr
  refine ⟨_, pss_one (ps_ret (pe_and (pe_callB call_isi (by rfl) T.n_isinstance (by decide +kernel) (pa_cons (pv 1) (pa_cons (pe_glob (v := .ref C) rfl R.gC rfl) pa_nil))) (pe_one (pe_cmpR (op_eq_dictA (Nat.lt_of_succ_lt hu1)) (pe_fld (pv 0) rfl) (pe_fld (pv 1) rfl) (nomark _))))), ?_⟩
  obtain ⟨a, b, es, rfl, ⟨dx, d, ⟨xx_h1, h1, zz_h1⟩, h2⟩, ⟨dy, e, ⟨xx_h3, h3, zz_h3⟩, h4⟩, ok, hq⟩ := h
  refine ⟨_, rfl, _, .ref C, _, _, true, rfl, .own C, .base (.ins h3 I.cl I.ha I.hn I.ht I.hm), I.kC, ?_⟩
  refine ⟨true, rfl, iteT ?_⟩
  refine ⟨_, rfl, a, C, dx, _, _, rfl, h1, R.cl, R.nE, lk_entries d, ?_⟩
  refine ⟨_, rfl, b, C, dy, _, _, rfl, h3, R.cl, R.nE, lk_entries e, ?_⟩
  refine ⟨d, e, kv es, kv es, rfl, rfl, h2, h4, rfl, fun p hp => ?_, hq H (Same.refl H)⟩
  unfold kv at hp
  obtain ⟨q, hq2, rfl⟩ := List.mem_map.mp hp
  exact ⟨val_mem ok.nd hq2, flat_item (ok.it q hq2)⟩
end
end K6

set_option Elab.async false
set_option linter.all false
set_option maxRecDepth 100000
set_option maxHeartbeats 4000000
namespace K6
open PySem PySem.Spec PyProof.Rows L2 LF
abbrev s__law_item : Stmt := topS 62
theorem sc__law_item : FnScope ["_law_bag_here", "_law_pool_here", "_law_some"] ["_law_bag_here", "_law_pool_here"] (defScope s__law_item) := ⟨rfl, rfl, rfl, by decide +kernel, rfl, by decide +kernel, by decide +kernel⟩
def spItem : Sp := fun vs H Q _ => ∃ (b l : Addr) (ws : List Str) (N : Nat), vs = [.ref b, .ref l] ∧ BagN H b N ∧ N ≤ 700000 ∧ l ≠ b ∧ H l = some (.lst (ws.map V.str)) ∧ ws ∈ pools ∧
  ∀ H' v, Keep b H H' → BagN H' b (N + 10) → GoodV v → Q v H'
def eights : List Str := List.replicate 8 "eightlet"
section
variable {P : Program} {w : World} {K : PySem.W.Frag} {mg : Str → Option Value} {base : Heap} {tk1 tk2 : Tok}
theorem ok_item {f f1 f2 : Addr} {fd fd1 fd2 : FuncData} (F : Fun K "_law_item" "_law_item" s__law_item f fd) (d_pick : DefAt P w K mg base "_law_pick" 2 f1 fd1 ["_law_bag_here", "_law_some"] (spPickN K))
    (d_path : DefAt P w K mg base "_law_path" 3 f2 fd2 ["_law_bag_here", "_law_pool_here", "_law_most"] (spPathN K)) : FnOk P w K mg base CX0 4 f fd ["_law_bag_here", "_law_pool_here"] spItem := by
  refine F.ok sc__law_item (fun vs H Q E h => ?_) (fun cdv A outer s H vs Q E hr h => ?_)
  · obtain ⟨b, l, ws, N, rfl, _⟩ := h
    rfl
  refine ⟨_, (pss_cons (ps_set (i := 2) sc__law_item.nd rfl (Or.inl rfl) (pe_lst (pa_cons pe_non (pa_cons pe_non (pa_cons pe_int (pa_cons pe_int (pa_cons (pe_un un_neg pe_int) (pa_cons (pe_op op_sub (pe_op op_pow pe_int pe_int) pe_int) (pa_cons (pe_op op_sub pe_int (pe_op op_pow pe_int pe_int)) (pa_cons pe_str (pa_cons (pe_join pe_str (pe_op op_rep (pe_lst (pa_cons pe_str pa_nil)) pe_int)) (pa_cons (pe_callD d_path (hr.mono (by decide)) (pa_cons (pv 0) (pa_cons (pv 1) (pa_cons pe_int pa_nil)))) pa_nil))))))))))))
    (pss_one (ps_ret (pe_callD d_pick (hr.mono (by decide)) (pa_cons (pv 0) (pa_cons (pv 2) pa_nil)))))), ?_⟩
  obtain ⟨b, l, ws, N, rfl, hb, hN, hlb, hl, hws, hq⟩ := h
  have hbig := sizeLine_big
  have cp : CPow 10 12 := ⟨by decide, by decide, by decide⟩
  refine ⟨5, rfl, 10, 12, rfl, rfl, cp, _, _, rfl, rfl, 10, 12, rfl, rfl, cp, _, _, rfl, rfl, ⟨_, rfl⟩, (by show 1 ≤ sizeLine; decide), fun q1 hq1 => ?_⟩
  refine ⟨q1, 8, _, rfl, rfl, upd_same, by decide, by decide, by show 1 * 8 ≤ sizeLine; decide, fun q2 hq2 => ?_⟩
  have s2 := (same_new (o := .lst [.str "eightlet"]) hq1).trans (same_new (o := .lst (eights.map V.str)) hq2)
  have g2 : (upd (upd H q1 (.lst [.str "eightlet"])) q2 (.lst (eights.map V.str))) q2 = some (.lst (eights.map V.str)) := upd_same
  show _
  refine ⟨_, q2, eights, rfl, rfl, Or.inl (SqL.of g2), by decide +kernel, ?_⟩
  have b2 := BagN.same hb s2
  have l2 := s2 _ _ hl
  have k2 : Keep b H (upd (upd H q1 (.lst [.str "eightlet"])) q2 (.lst (eights.map V.str))) := Same.keep s2
  have e2 : (upd (upd H q1 (.lst [.str "eightlet"])) q2 (.lst ((List.replicate (8 : Int).toNat [V.str "eightlet"]).flatten))) = (upd (upd H q1 (.lst [.str "eightlet"])) q2 (.lst (eights.map V.str))) := rfl
  rw [e2]
  generalize (upd (upd H q1 (.lst [.str "eightlet"])) q2 (.lst (eights.map V.str))) = H2 at b2 l2 k2
  refine ⟨_, rfl, _, rfl, b, l, 8, ws, N, rfl, b2, by omega, hlb, l2, by have := (pools_ok ws hws).1; omega, by have := (pools_ok ws hws).1; omega, by decide, by decide, fun s hs => (isNm_len ((pools_ok ws hws).2 s hs)).2, fun H3 ns k3 b3 n1 n2 nm => ?_⟩
  refine ⟨(by show 10 ≤ sizeLine; decide), fun q3 hq3 => ?_⟩
  generalize hL : [V.non, V.non, V.int 0, V.int 5, V.int (-5), V.int (10 ^ (12 : Int).toNat - 1), V.int (1 - 10 ^ (12 : Int).toNat), V.str "", V.str (PySem.Txt.join "/" eights), V.str (PySem.Txt.join c_sl ns)] = L
  have good : ∀ v ∈ L, GoodV v := by
    intro v hv
    rw [← hL] at hv
    have hen : ∀ s ∈ eights, isNm s = true := by decide +kernel
    simp only [List.mem_cons, List.not_mem_nil, or_false] at hv
    rcases hv with rfl | rfl | rfl | rfl | rfl | rfl | rfl | rfl | rfl | rfl
    · exact Or.inl rfl
    · exact Or.inl rfl
    · exact Or.inr (Or.inl ⟨0, rfl, by decide⟩)
    · exact Or.inr (Or.inl ⟨5, rfl, by decide⟩)
    · exact Or.inr (Or.inl ⟨-5, rfl, by decide⟩)
    · exact Or.inr (Or.inl ⟨_, rfl, by decide⟩)
    · exact Or.inr (Or.inl ⟨_, rfl, by decide⟩)
    · exact Or.inr (Or.inr ⟨[], by rw [join_nil0], by decide, fun s hs => nomatch hs⟩)
    · exact Or.inr (Or.inr ⟨eights, rfl, by decide, hen⟩)
    · exact Or.inr (Or.inr ⟨ns, rfl, n2, fun s hs => (pools_ok ws hws).2 s (nm s hs)⟩)
  have hLl : L.length = 10 := by rw [← hL]; rfl
  have hq3b := BagN.ne b3 hq3
  have b4 := BagN.same b3 (same_new (o := .lst L) hq3)
  refine ⟨_, rfl, _, rfl, b, q3, L, _, rfl, b4, by omega, hq3b, SqL.of upd_same, by omega, by omega, fun H5 v k5 b5 hv => ?_⟩
  exact hq H5 v ((k2.trans k3).trans ((Same.keep (same_new hq3)).trans k5)) (BagN.more b5 (by omega)) (good v hv)
end
end K6

set_option Elab.async false
set_option linter.all false
set_option maxRecDepth 100000
set_option maxHeartbeats 4000000
namespace K6
open PySem PySem.Spec PyProof.Rows L2 LF TL
/-- entries that the law draws: a package's, with all folders ahead, in any order -/
structure Drawn (es : List (Str × V)) : Prop where
  ok : OkU es
  cl : ∀ e ∈ es, ∀ s ∈ begs e.1, (s, V.non) ∈ es
  gd : GoodE (kv es)
theorem Drawn.nil : Drawn [] := ⟨⟨fun _ h => (nomatch h), fun _ h => (nomatch h), fun _ h => (nomatch h), List.nodup_nil⟩, fun _ h => (nomatch h), fun _ h => (nomatch h)⟩
theorem put_same {es : List (Str × V)} {s : Str} (nd : (es.map (·.1)).Nodup) (h : valV (kv es) (.inr s) = some .non) : putK (kv es) (.inr s) .non = kv es := by
  unfold putK
  rw [if_pos (by rw [valV_any, h]; rfl)]
  refine (List.map_congr_left fun q hq => ?_).trans (List.map_id _)
  unfold kv at hq
  obtain ⟨e, he, rfl⟩ := List.mem_map.mp hq
  show (if (Sum.inr e.1 : Key) = .inr s then _ else _) = _
  by_cases hs : (Sum.inr e.1 : Key) = .inr s
  · rw [if_pos hs]
    have e1 : e.1 = s := Sum.inr.inj hs
    have hv := val_mem nd (p := e.1) (v := e.2) he
    rw [e1, h] at hv
    show (Sum.inr e.1, V.non) = (Sum.inr e.1, e.2)
    rw [Option.some.inj hv]
  · rw [if_neg hs]; rfl
theorem nd_snoc {es : List (Str × V)} {s : Str} {v : V} (nd : (es.map (·.1)).Nodup) (h : s ∉ es.map (·.1)) : ((es ++ [(s, v)]).map (·.1)).Nodup := by
  rw [List.map_append, List.map_cons, List.map_nil, List.nodup_append]
  refine ⟨nd, by simp, fun x hx y hy e => ?_⟩
  rw [List.mem_singleton.mp hy] at e
  have e' : x = s := e
  rw [e'] at hx
  exact h hx
/-- folders put in, as the law does it -/
theorem fold_addB : ∀ (bs : List Str) (es : List (Str × V)), (es.map (·.1)).Nodup → (∀ s ∈ bs, valV (kv es) (.inr s) = none ∨ valV (kv es) (.inr s) = some .non) →
    bs.foldl (fun k s => putK k (.inr s) .non) (kv es) = kv (addB es bs) ∧ ((addB es bs).map (·.1)).Nodup ∧ (∀ e ∈ addB es bs, e ∈ es ∨ (e.2 = .non ∧ e.1 ∈ bs)) ∧ (∀ e ∈ es, e ∈ addB es bs) ∧ ∀ s ∈ bs, (s, V.non) ∈ addB es bs
  | [], es, nd, _ => ⟨rfl, nd, fun e h => Or.inl h, fun e h => h, fun s h => nomatch h⟩
  | s :: bs, es, nd, h => by
    have hs := h s List.mem_cons_self
    by_cases hm : s ∈ es.map (·.1)
    · have hv : valV (kv es) (.inr s) = some .non := by
        obtain ⟨v, hv⟩ := key_val hm
        rcases hs with h1 | h1
        · rw [hv] at h1; cases h1
        · exact h1
      have e1 : addB es (s :: bs) = addB es bs := by
        show addB (if s ∈ es.map (·.1) then es else es ++ [(s, .non)]) bs = _
        rw [if_pos hm]
      obtain ⟨i1, i2, i3, i4, i5⟩ := fold_addB bs es nd fun t ht => h t (List.mem_cons_of_mem _ ht)
      rw [List.foldl_cons, put_same nd hv, e1]
      refine ⟨i1, i2, fun e he => (i3 e he).imp id fun q => ⟨q.1, List.mem_cons_of_mem _ q.2⟩, i4, fun t ht => ?_⟩
      rcases List.mem_cons.mp ht with rfl | ht
      · exact i4 _ (val_in hv)
      · exact i5 t ht
    · have hv := val_no hm
      have e1 : addB es (s :: bs) = addB (es ++ [(s, .non)]) bs := by
        show addB (if s ∈ es.map (·.1) then es else es ++ [(s, .non)]) bs = _
        rw [if_neg hm]
      have e2 : putK (kv es) (.inr s) .non = kv (es ++ [(s, .non)]) := by
        rw [putK_new _ hv]
        unfold kv
        rw [List.map_append]; rfl
      have nd2 := nd_snoc (v := .non) nd hm
      obtain ⟨i1, i2, i3, i4, i5⟩ := fold_addB bs (es ++ [(s, .non)]) nd2 fun t ht => by
        have e3 : valV (kv (es ++ [(s, .non)])) (.inr t) = if (Sum.inr t : Key) = .inr s then some .non else valV (kv es) (.inr t) := by
          rw [← e2, valV_put]
        rw [e3]
        split
        · exact Or.inr rfl
        · exact h t (List.mem_cons_of_mem _ ht)
      rw [List.foldl_cons, e2, e1]
      refine ⟨i1, i2, fun e he => ?_, fun e he => i4 e (List.mem_append_left _ he), fun t ht => ?_⟩
      · rcases i3 e he with q | q
        · rcases List.mem_append.mp q with q | q
          · exact Or.inl q
          · rw [List.mem_singleton.mp q]; exact Or.inr ⟨rfl, List.mem_cons_self⟩
        · exact Or.inr ⟨q.1, List.mem_cons_of_mem _ q.2⟩
      · rcases List.mem_cons.mp ht with rfl | ht
        · exact i4 _ (List.mem_append_right _ List.mem_cons_self)
        · exact i5 t ht
theorem good_item {v : V} (h : GoodV v) : Plain v ∧ itemV v = true := by
  rcases h with rfl | ⟨i, rfl, hi⟩ | ⟨ns, rfl, hl, hn⟩
  · exact ⟨Or.inl rfl, rfl⟩
  · refine ⟨Or.inr (Or.inl ⟨i, rfl⟩), ?_⟩
    show (decide ((if i < 0 then -i else i) ≤ 999999999999) || false) = true
    rw [Bool.or_false]
    refine decide_eq_true ?_
    split <;> omega
  · have h1 := join_len_le hn
    refine ⟨Or.inr (Or.inr ⟨_, rfl, by omega⟩), ?_⟩
    show (false || isTg (PySem.Txt.join c_sl ns)) = true
    rw [Bool.false_or]
    unfold isTg
    rw [isPt_join hn, parts_join hn, Bool.true_and]
    exact decide_eq_true hl
theorem pl_join {ns : List Str} (hne : ns ≠ []) (hl : ns.length ≤ 10) (hn : ∀ s ∈ ns, isNm s = true) : isPl (PySem.Txt.join c_sl ns) = true ∧ (PySem.Txt.join c_sl ns).length ≤ 1000000 := by
  have h1 := join_len_le hn
  refine ⟨?_, by omega⟩
  unfold isPl
  rw [isPt_join hn, parts_join hn, Bool.true_and]
  exact decide_eq_true ⟨List.length_pos_iff.mpr hne, hl⟩
theorem Drawn.add {es : List (Str × V)} {ns : List Str} {v : V} (d : Drawn es) (hne : ns ≠ []) (hl : ns.length ≤ 10) (hn : ∀ s ∈ ns, isNm s = true) (hv : GoodV v) (hp : PySem.Txt.join c_sl ns ∉ es.map (·.1))
    (hs : ∀ s ∈ begs (PySem.Txt.join c_sl ns), valV (kv es) (.inr s) = none ∨ valV (kv es) (.inr s) = some .non) : ∃ es', addE (kv es) ns v = kv es' ∧ Drawn es' := by
  obtain ⟨p1, p2⟩ := pl_join hne hl hn
  have hge := GoodE.add d.gd hne hl hn hv
  unfold addE at hge ⊢
  generalize PySem.Txt.join c_sl ns = p at hp hs p1 p2 hge
  obtain ⟨i1, i2, i3, i4, i5⟩ := fold_addB (begs p) es d.ok.nd hs
  have bf := begs_facts p1 p2
  have hpb : p ∉ begs p := fun hm => by
    have h9 : ∀ s ∈ begs p, (parts s).length < (parts p).length := fun s hs => by
      obtain ⟨h1, h2, h3⟩ := isPl_parts p1
      unfold begs at hs
      obtain ⟨i, hi, rfl⟩ := List.mem_map.mp hs
      have hi2 := List.mem_range.mp hi
      rw [parts_join fun t ht => h1 t (List.mem_of_mem_take ht), List.length_take]
      omega
    exact absurd (h9 p hm) (Nat.lt_irrefl _)
  have hpa : p ∉ (addB es (begs p)).map (·.1) := fun hm => by
    obtain ⟨e, he, e1⟩ := List.mem_map.mp hm
    rcases i3 e he with q | q
    · exact hp (List.mem_map.mpr ⟨e, q, e1⟩)
    · exact hpb (e1 ▸ q.2)
  have e2 : putK ((begs p).foldl (fun k s => putK k (.inr s) .non) (kv es)) (.inr p) v = kv (addB es (begs p) ++ [(p, v)]) := by
    rw [i1, putK_new _ (val_no hpa)]
    unfold kv
    rw [List.map_append]; rfl
  rw [e2] at hge ⊢
  refine ⟨_, rfl, ?_⟩
  have nd := nd_snoc (v := v) i2 hpa
  have clo : ∀ e ∈ addB es (begs p) ++ [(p, v)], ∀ s ∈ begs e.1, (s, V.non) ∈ addB es (begs p) ++ [(p, v)] := fun e he s hs => by
    rcases List.mem_append.mp he with he | he
    · rcases i3 e he with q | q
      · exact List.mem_append_left _ (i4 _ (d.cl e q s hs))
      · exact List.mem_append_left _ (i5 s ((bf e.1 q.2).2.2 s hs))
    · rw [List.mem_singleton.mp he] at hs
      exact List.mem_append_left _ (i5 s hs)
  refine ⟨⟨fun e he => ?_, fun e he => ?_, fun e he s hs => Or.inr (val_mem nd (clo e he s hs)), nd⟩, clo, hge⟩
  · rcases List.mem_append.mp he with he | he
    · rcases i3 e he with q | q
      · exact d.ok.pl e q
      · exact ⟨(bf e.1 q.2).1, (bf e.1 q.2).2.1⟩
    · rw [List.mem_singleton.mp he]; exact ⟨p1, p2⟩
  · rcases List.mem_append.mp he with he | he
    · rcases i3 e he with q | q
      · exact d.ok.it e q
      · rw [q.1]; exact ⟨Or.inl rfl, rfl⟩
    · rw [List.mem_singleton.mp he]; exact good_item hv
/-- the package of drawn entries, and their text -/
theorem Drawn.full {es : List (Str × V)} (d : Drawn es) : fullU es = es := full_id fun e he s hs => List.mem_map.mpr ⟨_, d.cl e he s hs, rfl⟩
theorem Drawn.pk {es : List (Str × V)} (d : Drawn es) (hl : es.length ≤ 1000000) : OkE (pkE es) ∧ (pkE es).length = es.length := by
  have h := d.full
  exact ⟨pkE_ok d.ok (by rw [h]; exact hl), by rw [pkE_len, h]⟩
theorem keysS_kv (es : List (Str × V)) : keysS (kv es) = es.map (·.1) := by
  unfold keysS kv
  rw [List.filterMap_map]
  induction es with
  | nil => rfl
  | cons e l ih =>
    rw [List.filterMap_cons, List.map_cons, ← ih]; rfl
theorem Drawn.text {es : List (Str × V)} (d : Drawn es) : textE (kv es) = textS (pkE es) := by
  unfold textE textS rowsE rowsK pkE
  rw [d.full, keysS_kv, List.map_map]; rfl
end K6

set_option Elab.async false
set_option linter.all false
set_option maxRecDepth 100000
set_option maxHeartbeats 4000000
namespace K6
open PySem PySem.Spec PyProof.Rows L2 LF TL
abbrev s__law_entries : Stmt := topS 63
abbrev N__law_entries : List Str := ["_law_bag_here", "_law_pool_here", "_law_entries_here", "_law_turn", "_law_path_here", "_law_made", "_law_is_new", "_law_start"]
theorem sc__law_entries : FnScope ["_law_bag_here", "_law_pool_here", "_law_entries_here", "_law_turn", "_law_path_here", "_law_made", "_law_is_new", "_law_start"] ["_law_bag_here", "_law_pool_here"] (defScope s__law_entries) := ⟨rfl, rfl, rfl, by decide +kernel, rfl, by decide +kernel, by decide +kernel⟩
def spEntries : Sp := fun vs H Q _ => ∃ (b l : Addr) (ws : List Str) (N : Nat), vs = [.ref b, .ref l] ∧ BagN H b N ∧ N ≤ 600000 ∧ l ≠ b ∧ H l = some (.lst (ws.map V.str)) ∧ ws ∈ pools ∧
  ∀ H' p es, Keep b H H' → BagN H' b (N + 500) → p ≠ b → H' p = some (.dK (kv es)) → Drawn es → es.length ≤ 40 → Q (.ref p) H'
theorem joinL_app (S : List Nat) : ∀ a b : List (List Nat), a ≠ [] → b ≠ [] → joinL S (a ++ b) = joinL S a ++ (S ++ joinL S b)
  | [], _, h, _ => absurd rfl h
  | [p], [], _, h => absurd rfl h
  | [p], q :: r, _, _ => rfl
  | p :: q :: r, b, _, hb => by
    show p ++ (S ++ joinL S ((q :: r) ++ b)) = (p ++ (S ++ joinL S (q :: r))) ++ _
    rw [joinL_app S (q :: r) b (by simp) hb]
    simp only [List.append_assoc]
theorem join_app {a b : List Str} (ha : a ≠ []) (hb : b ≠ []) : PySem.Txt.join c_sl a ++ "/" ++ PySem.Txt.join c_sl b = PySem.Txt.join c_sl (a ++ b) := by
  apply ext_tl
  rw [tl_append, tl_append, join_eq, join_eq, join_eq, tl_join, tl_join, tl_join, List.map_append, joinL_app _ _ _ (by simpa using ha) (by simpa using hb), List.append_assoc]
  rfl
section
variable {P : Program} {w : World} {K : PySem.W.Frag} {mg : Str → Option Value} {base : Heap} {tk1 tk2 : Tok}
theorem ok_entries {f f1 f2 f3 f4 f5 f6 : Addr} {fd fd1 fd2 fd3 fd4 fd5 fd6 : FuncData} (F : Fun K "_law_entries" "_law_entries" s__law_entries f fd) (T : Txt K mg tk1 tk2) (d_take : DefAt P w K mg base "_law_take" 1 f1 fd1 ["_law_bag_here", "_law_many"] spTakeN)
    (d_pick : DefAt P w K mg base "_law_pick" 2 f2 fd2 ["_law_bag_here", "_law_some"] (spPickN K)) (d_path : DefAt P w K mg base "_law_path" 3 f3 fd3 ["_law_bag_here", "_law_pool_here", "_law_most"] (spPathN K)) (d_item : DefAt P w K mg base "_law_item" 4 f4 fd4 ["_law_bag_here", "_law_pool_here"] spItem)
    (d_starts : DefAt P w K mg base "_law_starts" 1 f5 fd5 ["_law_path_here"] spStarts) (d_added : DefAt P w K mg base "_law_added" 2 f6 fd6 ["_law_entries_here", "_law_path_here", "_law_item_here"] spAdded) : FnOk P w K mg base CX0 5 f fd ["_law_bag_here", "_law_pool_here"] spEntries := by
  refine F.ok sc__law_entries (fun vs H Q E h => ?_) (fun cdv A outer s H vs Q E hr h => ?_)
  · obtain ⟨b, l, ws, N, rfl, _⟩ := h
    rfl
  have hu1 := hu_of hr
  refine ⟨_, (pss_cons (ps_set (i := 2) sc__law_entries.nd rfl (Or.inr rfl) pe_dnewK)
    (pss_cons (ps_for PassesOwn.never rfl (pi_range1 (by rfl) T.n_range (pa_cons (pe_callD d_take (hr.mono (by decide)) (pa_cons (pv 0) (pa_cons pe_int pa_nil))) pa_nil)) (pg_name (i := 3) sc__law_entries.nd rfl (Or.inl rfl)) (pss_cons (ps_set (i := 4) sc__law_entries.nd rfl (Or.inl rfl) (pe_callD d_pick (hr.mono (by decide)) (pa_cons (pv 0) (pa_cons (pe_lst (pa_cons (pe_callD d_path (hr.mono (by decide)) (pa_cons (pv 0) (pa_cons (pv 1) (pa_cons pe_int pa_nil)))) (pa_cons (pe_op op_add_str (pe_op op_add_str (pe_callD d_path (hr.mono (by decide)) (pa_cons (pv 0) (pa_cons (pv 1) (pa_cons pe_int pa_nil)))) pe_str) (pe_callD d_path (hr.mono (by decide)) (pa_cons (pv 0) (pa_cons (pv 1) (pa_cons pe_int pa_nil))))) pa_nil))) pa_nil))))
    (pss_cons (ps_set (i := 5) sc__law_entries.nd rfl (Or.inl rfl) (pe_callD d_added (hr.mono (by decide)) (pa_cons (pv 2) (pa_cons (pv 4) (pa_cons (pe_callD d_item (hr.mono (by decide)) (pa_cons (pv 0) (pa_cons (pv 1) pa_nil))) pa_nil)))))
    (pss_cons (ps_set (i := 6) sc__law_entries.nd rfl (Or.inl rfl) (pe_and (pe_cmp (pc_dnotin hu1 (pv 4) (pv 2))) (pe_one (pe_callB (cr_all rfl) (by rfl) T.n_all (by decide +kernel) (pa_cons (pe_lc (own := [("_law_start", 7)]) rfl sc__law_entries.nd (pi_list (pe_callD d_starts (hr.mono (by decide)) (pa_cons (pv 4) pa_nil))) (blkOk_by (N := N__law_entries) (sc := defScope s__law_entries) (by decide +kernel)) (fun _ _ _ _ _ => pg_name (i := 7) sc__law_entries.nd rfl (Or.inl rfl)) (fun _ _ _ _ _ => pts_nil) (fun _ _ _ _ _ => (pe_cmpR op_isN (pe_dget1 hu1 (pv 2) (pv 7) ⟨rfl, rfl, rfl, rfl⟩) pe_non (nomark _)))) pa_nil)))))
    (pss_one (ps_if (PW.pt (pw_and (pt_val (pv 6)) (pw_and1 (pt_cmpR op_lt (pe_callB call_lenD (by rfl) T.n_len (by decide +kernel) (pa_cons (pv 5) pa_nil)) pe_int (nomark _))))) (pss_one (ps_set (i := 2) sc__law_entries.nd rfl (Or.inr rfl) (pv 5))) pss_nil))))))
    (pss_one (ps_ret (pv 2))))), ?_⟩
  obtain ⟨b, l, ws, N, rfl, hb, hN, hlb, hl, hws, hq⟩ := h
  have hbig := sizeLine_big
  have hw3 := (pools_ok ws hws).1
  have hwn := (pools_ok ws hws).2
  have hw8 : ∀ s ∈ ws, s.length ≤ 8 := fun s hs => (isNm_len (hwn s hs)).2
  intro e0 he0
  have b0 := BagN.same hb (same_new (o := .dK []) he0)
  have he0b := BagN.ne hb he0
  refine ⟨_, rfl, b, 13, N, rfl, b0, by omega, by decide, by decide, fun H1 rr k1 b1 r0 r1 => ?_⟩
  have K1 : Keep b H H1 := (Same.keep (same_new he0)).trans k1
  have ge0 : H1 e0 = some (.dK (kv [])) := k1 _ _ he0b upd_same
  obtain ⟨n, rfl⟩ : ∃ c : Nat, rr = c := ⟨rr.toNat, by omega⟩
  refine ⟨n, rfl, by omega, by omega, for_range (lo := 0) (fun i σ H' => ∃ e es v3 v4 v5 v6 v7, σ = [some (.ref b), some (.ref l), some (.ref e), v3, v4, v5, v6, v7] ∧ Keep b H H' ∧ BagN H' b (N + 1 + 30 * i) ∧ e ≠ b ∧ H' e = some (.dK (kv es)) ∧ Drawn es ∧ es.length ≤ 40) ⟨e0, [], _, _, _, _, _, rfl, K1, b1, he0b, ge0, Drawn.nil, Nat.zero_le _⟩ ?_ ?_⟩
  · rintro i σ H2 hi ⟨e, es, v3, v4, v5, v6, v7, rfl, k2, b2, heb, ge, dr, hes⟩
    have hi' : i < 13 := by omega
    have l2 := k2 _ _ hlb hl
    -- the two paths
    refine ⟨_, rfl, _, rfl, _, rfl, b, l, 3, ws, _, rfl, b2, by omega, hlb, l2, by omega, by omega, by decide, by decide, hw8, fun H3 n1 k3 b3 n1a n1b n1c => ?_⟩
    have l3 := k3 _ _ hlb l2
    refine ⟨_, rfl, _, rfl, b, l, 2, ws, _, rfl, b3, by omega, hlb, l3, by omega, by omega, by decide, by decide, hw8, fun H4 n2 k4 b4 n2a n2b n2c => ?_⟩
    have hn1 : ∀ s ∈ n1, isNm s = true := fun s hs => hwn s (n1c s hs)
    have hn2 : ∀ s ∈ n2, isNm s = true := fun s hs => hwn s (n2c s hs)
    have hj2 := join_len_le hn2
    have c1 : ("/" : Str).length = 1 := by decide +kernel
    refine ⟨_, _, rfl, rfl, by rw [c1]; omega, ?_⟩
    have l4 := k4 _ _ hlb l3
    refine ⟨_, rfl, _, rfl, b, l, 8, ws, _, rfl, b4, by omega, hlb, l4, by omega, by omega, by decide, by decide, hw8, fun H5 n3 k5 b5 n3a n3b n3c => ?_⟩
    have hn3 : ∀ s ∈ n3, isNm s = true := fun s hs => hwn s (n3c s hs)
    have hj3 := join_len_le hn3
    refine ⟨_, _, rfl, rfl, by rw [len_app, c1]; omega, ?_⟩
    have ne2 : n2 ≠ [] := fun z => by rw [z] at n2a; exact absurd n2a (by decide)
    have ne3 : n3 ≠ [] := fun z => by rw [z] at n3a; exact absurd n3a (by decide)
    rw [join_app ne2 ne3]
    refine ⟨(by show 2 ≤ sizeLine; decide), fun q hq2 => ?_⟩
    have hqb := BagN.ne b5 hq2
    have b5' := BagN.same b5 (same_new (o := .lst [.str (PySem.Txt.join c_sl n1), .str (PySem.Txt.join c_sl (n2 ++ n3))]) hq2)
    refine ⟨b, q, [.str (PySem.Txt.join c_sl n1), .str (PySem.Txt.join c_sl (n2 ++ n3))], _, rfl, b5', by omega, hqb, SqL.of upd_same, by show 1 ≤ 2; decide, by show 2 < 1000000; decide, fun H6 v k6 b6 hv => ?_⟩
    obtain ⟨ns, rfl, hne, hl10, hn⟩ : ∃ ns : List Str, v = .str (PySem.Txt.join c_sl ns) ∧ ns ≠ [] ∧ ns.length ≤ 10 ∧ ∀ s ∈ ns, isNm s = true := by
      simp only [List.mem_cons, List.not_mem_nil, or_false] at hv
      rcases hv with rfl | rfl
      · exact ⟨n1, rfl, fun z => by rw [z] at n1a; exact absurd n1a (by decide), by omega, hn1⟩
      · refine ⟨n2 ++ n3, rfl, by simp [ne2], by rw [List.length_append]; omega, fun s hs => ?_⟩
        rcases List.mem_append.mp hs with hs | hs
        · exact hn2 s hs
        · exact hn3 s hs
    have K26 : Keep b H2 H6 := ((k3.trans k4).trans k5).trans ((Same.keep (same_new hq2)).trans k6)
    have l6 := K26 _ _ hlb l2
    refine ⟨_, rfl, _, rfl, _, rfl, _, rfl, b, l, ws, _, rfl, b6, by omega, hlb, l6, hws, fun H7 v2 k7 b7 gv => ?_⟩
    have K27 := K26.trans k7
    have ge7 := K27 _ _ heb ge
    refine ⟨e, kv es, ns, v2, rfl, ge7, by rw [kv_len]; omega, hne, by omega, hn, fun H8 m s8 nm hm => ?_⟩
    have K28 := K27.trans (Same.keep s8)
    have ge8 := s8 _ _ ge7
    have b8 := BagN.same b7 s8
    have hmb : m ≠ b := BagN.ne b7 nm
    refine ⟨_, rfl, _, rfl, e, _, rfl, DGet.k (k := Sum.inr (PySem.Txt.join c_sl ns)) ge8, _, rfl, ?_⟩
    have skip : ∀ {HZ : Hp} {v6 v7 : Option V}, Same H8 HZ → ∃ e' es' v3 v4 v5 v6' v7', [some (V.ref b), some (.ref l), some (.ref e), some (.int (0 + (i : Int))), some (.str (PySem.Txt.join c_sl ns)), some (.ref m), v6, v7] = [some (V.ref b), some (.ref l), some (.ref e'), v3, v4, v5, v6', v7'] ∧ Keep b H HZ ∧ BagN HZ b (N + 1 + 30 * (i + 1)) ∧ e' ≠ b ∧ HZ e' = some (.dK (kv es')) ∧ Drawn es' ∧ es'.length ≤ 40 := fun sz => ⟨e, es, _, _, _, _, _, rfl, (k2.trans K28).trans (Same.keep sz), (b8.same sz).more (by omega), heb, sz _ _ ge8, dr, hes⟩
    cases hvp : valV (kv es) (.inr (PySem.Txt.join c_sl ns)) with
    | some w0 =>
      refine iteF ?_
      exact ⟨_, rfl, _, rfl, iteF (skip (Same.refl _))⟩
    | none =>
      refine iteT ?_
      have hpn : PySem.Txt.join c_sl ns ∉ es.map (·.1) := fun hm2 => by
        obtain ⟨v, hv⟩ := key_val hm2
        rw [hvp] at hv; cases hv
      refine ⟨_, rfl, ns, rfl, hne, by omega, hn, fun H9 p9 s9 np9 hp9 => ?_⟩
      have ge9 := s9 _ _ ge8
      refine ⟨p9, rfl, ⟨_, SqL.of hp9⟩, fun D hD => ?_⟩
      have hbl : (begs (PySem.Txt.join c_sl ns)).length ≤ 10 := by rw [begs_join hn, List.length_map, List.length_range]; omega
      refine lc_it (walk_list (xs := (begs (PySem.Txt.join c_sl ns)).map V.str)) (fun j H' => Same H9 H' ∧ H' D = some (.lst ((((begs (PySem.Txt.join c_sl ns)).take j).map fun s => decide ((valV (kv es) (.inr s)).getD .non = V.non)).map V.bl))) ⟨same_new hD, by rw [upd_same]; rfl⟩ (fun j H' _ h => sqL_same h.1 (SqL.of hp9)) ?_ ?_
      · rintro j x H10 H11 hj ⟨sm, hd6⟩ ⟨rfl, hx⟩
        rw [List.length_map] at hj
        rw [List.getElem?_map] at hx
        obtain ⟨s0, hs0, rfl⟩ : ∃ s0, (begs (PySem.Txt.join c_sl ns))[j]? = some s0 ∧ x = .str s0 := by
          cases e : (begs (PySem.Txt.join c_sl ns))[j]? with
          | none => rw [e] at hx; cases hx
          | some q => rw [e] at hx; exact ⟨q, rfl, (Option.some.inj hx).symm⟩
        have hdd := sm _ _ ge9
        refine ⟨rfl, _, rfl, e, rfl, Or.inl ⟨_, Or.inl hdd⟩, _, rfl, _, DGet.k (k := Sum.inr s0) hdd, rfl, ?_⟩
        refine ⟨_, hd6, ?_, fun b' o e => ?_, ?_⟩
        · rw [List.length_map, List.length_map, List.length_take]; exact Nat.lt_of_lt_of_le (show min j _ < 20 by omega) (by decide)
        · rw [upd_ne (ne_of_none e hD)]; exact sm _ _ e
        · rw [upd_same, List.take_succ, hs0, List.map_append, List.map_append]; rfl
      · rintro H10 ⟨sm, hd6⟩
        rw [List.length_map, List.take_length] at hd6
        refine ⟨D, _, rfl, SqL.of hd6, ?_⟩
        have S10 := s9.trans sm
        cases hall : ((begs (PySem.Txt.join c_sl ns)).map fun s => decide ((valV (kv es) (.inr s)).getD .non = V.non)).all id with
        | false =>
          exact ⟨_, rfl, _, rfl, iteF (skip S10)⟩
        | true =>
          have hs : ∀ s ∈ begs (PySem.Txt.join c_sl ns), valV (kv es) (.inr s) = none ∨ valV (kv es) (.inr s) = some .non := fun s hs => by
            have h1 := List.all_eq_true.mp hall _ (List.mem_map_of_mem hs)
            have h2 := of_decide_eq_true h1
            cases h3 : valV (kv es) (.inr s) with
            | none => exact Or.inl rfl
            | some w1 => rw [h3] at h2; exact Or.inr (congrArg some h2)
          obtain ⟨es', ea, dr'⟩ := dr.add hne hl10 hn gv hpn hs
          have hm10 := S10 _ _ hm
          rw [ea] at hm10
          refine ⟨_, rfl, _, rfl, iteT ?_⟩
          refine ⟨_, rfl, m, kv es', rfl, hm10, _, _, rfl, rfl, _, rfl, ?_⟩
          rw [kv_len]
          by_cases h41 : ((es'.length : Nat) : Int) < 41
          · rw [decide_eq_true h41]
            refine iteT ?_
            exact ⟨_, rfl, m, es', _, _, _, _, _, rfl, (k2.trans K28).trans (Same.keep S10), (b8.same S10).more (by omega), hmb, hm10, dr', by omega⟩
          · rw [decide_eq_false h41]
            exact iteF (skip S10)
  · rintro σ H2 ⟨e, es, v3, v4, v5, v6, v7, rfl, k2, b2, heb, ge, dr, hes⟩
    exact ⟨_, rfl, hq H2 e es k2 (BagN.more b2 (by omega)) heb ge dr hes⟩
end
end K6

set_option Elab.async false
set_option linter.all false
set_option maxRecDepth 100000
set_option maxHeartbeats 4000000
namespace K6
open PySem PySem.Spec PyProof.Rows L2 LF TL
def nm (i : Nat) : Str := (⟨#[97 + i / 5]⟩ : Str) ++ (⟨#[118 + i % 5]⟩ : Str)
def manyE (n : Nat) : List (Str × V) := (List.range n).map fun i => (nm i, V.int (i : Nat))
theorem manyE_len (n : Nat) : (manyE n).length = n := by unfold manyE; rw [List.length_map, List.length_range]
theorem many_facts : ∀ n < 40, isNm (nm n) = true ∧ nm n ∉ (manyE n).map (·.1) ∧ (nm n).length = 2 := by decide +kernel
theorem manyE_next (n : Nat) : manyE (n + 1) = manyE n ++ [(nm n, V.int (n : Nat))] := by
  unfold manyE
  rw [List.range_succ, List.map_append]; rfl
theorem many_put {n : Nat} (h : n < 40) : putK (kv (manyE n)) (.inr (nm n)) (.int (n : Nat)) = kv (manyE (n + 1)) := by
  rw [putK_new _ (val_no (many_facts n h).2.1), manyE_next]
  unfold kv
  rw [List.map_append]; rfl
theorem kv_inj : ∀ {a b : List (Str × V)}, kv a = kv b → a = b
  | [], [], _ => rfl
  | [], _ :: _, h => nomatch h
  | _ :: _, [], h => nomatch h
  | x :: a, y :: b, h => by
    have h' : ((Sum.inr x.1 : Key), x.2) :: kv a = (Sum.inr y.1, y.2) :: kv b := h
    injection h' with h1 h2
    injection h1 with h3 h4
    rw [kv_inj h2, Prod.ext (Sum.inr.inj h3) h4]
theorem join_one (s : Str) : PySem.Txt.join c_sl [s] = s := by
  apply ext_tl
  rw [join_eq, tl_join]; rfl
theorem many_drawn : ∀ n, n ≤ 40 → Drawn (manyE n)
  | 0, _ => Drawn.nil
  | n + 1, h => by
    have d := many_drawn n (by omega)
    obtain ⟨f1, f2, f3⟩ := many_facts n (by omega)
    have hn : ∀ s ∈ [nm n], isNm s = true := fun s hs => by rw [List.mem_singleton.mp hs]; exact f1
    have hb : begs (PySem.Txt.join c_sl [nm n]) = [] := by rw [begs_join hn]; rfl
    obtain ⟨es', e1, e2⟩ := d.add (ns := [nm n]) (v := .int (n : Nat)) (by simp) (by simp) hn (Or.inr (Or.inl ⟨_, rfl, by omega⟩)) (by rw [join_one]; exact f2) (by rw [hb]; intro s hs; cases hs)
    have e3 : addE (kv (manyE n)) [nm n] (.int (n : Nat)) = kv (manyE (n + 1)) := by
      unfold addE
      rw [hb, join_one, List.foldl_nil]
      exact many_put (by omega)
    rw [e3] at e1
    rw [kv_inj e1]; exact e2
def es3 : List (Str × V) := [("a/c", .str "a/b"), ("b", .str ""), ("a/b", .int (-7))]
def es4 : List (Str × V) := [("a", .non), ("b", .str ""), ("a/b", .int (-7)), ("a/c", .str "a/b")]
theorem es4_text : textS es4 = ("a folder\nb to .\na/b file -7\na/c to a/b" : Str) := by decide +kernel
theorem ms4 {le : Str → Str → Bool} {p q r s : Str} (h1 : le p q = false) (h2 : le r s = false) (h3 : le q s = false) (h4 : le q r = true) (h5 : le p r = false) : [p, q, r, s].mergeSort le = [s, q, r, p] := by
  simp [List.mergeSort, List.merge, List.MergeSort.Internal.splitInTwo, h1, h2, h3, h4, h5]
theorem es3_full : fullU es3 = es3 ++ [(("a" : Str), V.non)] := by decide +kernel
theorem es3_pk : pkE es3 = es4 := by
  unfold pkE
  rw [es3_full]
  have h : ((es3 ++ [(("a" : Str), V.non)]).map (·.1)).mergeSort (PySem.W.dataLe false keyD) = ([("a" : Str), "b", "a/b", "a/c"] : List Str) :=
    ms4 (le := PySem.W.dataLe false keyD) (p := "a/c") (q := "b") (r := "a/b") (s := "a") (by decide +kernel) (by decide +kernel) (by decide +kernel) (by decide +kernel) (by decide +kernel)
  rw [h]
  decide +kernel
theorem es3_ok : OkU es3 := by
  refine ⟨?_, ?_, ?_, ?_⟩
  · decide +kernel
  · intro e he
    simp only [es3, List.mem_cons, List.not_mem_nil, or_false] at he
    rcases he with rfl | rfl | rfl
    · exact ⟨Or.inr (Or.inr ⟨_, rfl, by decide +kernel⟩), by decide +kernel⟩
    · exact ⟨Or.inr (Or.inr ⟨_, rfl, by decide +kernel⟩), by decide +kernel⟩
    · exact ⟨Or.inr (Or.inl ⟨_, rfl⟩), by decide +kernel⟩
  · decide +kernel
  · decide +kernel
end K6

set_option Elab.async false
set_option linter.all false
set_option maxRecDepth 100000
set_option maxHeartbeats 4000000
namespace LF
open PySem PySem.Spec PyProof.Rows L2
def spLaw (K : PySem.W.Frag) : Sp := fun vs H Q _ => ∃ (a : Addr) (ns : List Int), vs = [.ref a] ∧ SqL K H a (ns.map V.int) ∧ ns.length ≤ 63 ∧ ∀ H', Q (.bl true) H'
theorem seq_keep_new {K : PySem.W.Frag} {H H' : Hp} {a b : Addr} {xs : List V} (h : SqL K H a xs) (hb : H b = none) (k : Keep b H H') : SqL K H' a xs := by
  rcases h with (h | ⟨o, h⟩) | h
  · exact Or.inl (Or.inl (k _ _ (ne_of_none h hb) h))
  · exact Or.inl (Or.inr ⟨o, k _ _ (ne_of_none h hb) h⟩)
  · exact Or.inr h
/-- all is as it was when a new object has been filled -/
theorem made_same {H H' : Hp} {x dx : Addr} {o1 o2 : HO} (hx : H x = none) (hd : H dx = none) (k : Keep x (upd (upd H dx o1) x o2) H') : Same H H' := fun a o e => by
  have n1 := ne_of_none e hx
  have n2 := ne_of_none e hd
  refine k a o n1 ?_
  rw [upd_ne n1, upd_ne n2]; exact e
end LF
namespace K6
open PySem PySem.Spec PyProof.Rows L2 LF TL ClX
abbrev s_law : Stmt := topS 64
abbrev N_law : List Str := ["_law_script", "_law_at", "_law_bag_here", "_law_pool_here", "_law_turn", "_law_entries_here", "_law_package", "_law_text_here", "_law_found", "_law_pair", "_law_many", "_law_one", "_law_other"]
theorem sc_law : FnScope ["_law_script", "_law_at", "_law_bag_here", "_law_pool_here", "_law_turn", "_law_entries_here", "_law_package", "_law_text_here", "_law_found", "_law_pair", "_law_many", "_law_one", "_law_other"] ["_law_script"] (defScope s_law) := ⟨rfl, rfl, rfl, by decide +kernel, rfl, by decide +kernel, by decide +kernel⟩
theorem join_ok {y : Str} {l : List Str} (hy : PyData.strOk y = true) (h : ∀ r ∈ l, PyData.strOk r = true) : PyData.strOk (PySem.Txt.join y l) = true := strOk_iff.mpr fun c hc => by
  rcases mem_join hc with h1 | ⟨r, hr, h1⟩
  · exact strOk_iff.mp hy c h1
  · exact strOk_iff.mp (h r hr) c h1
theorem fit_text {kvs : List (Key × V)} (g : GoodE kvs) (h : kvs.length ≤ 41) : (textE kvs).length ≤ 10000 ∧ PyData.strOk (textE kvs) = true := by
  obtain ⟨h1, h2⟩ := join_facts nl_tl (rowsE kvs)
  have hl := rowsE_len g
  have hsum : ∀ l : List Str, (∀ r ∈ l, ShortR r) → sumL l ≤ 200 * l.length := fun l => by
    induction l with
    | nil => intro _; exact Nat.le_refl _
    | cons a l ih =>
      intro h
      have ha := (h a List.mem_cons_self).len
      have i1 := ih fun r hr => h r (List.mem_cons_of_mem _ hr)
      have e : sumL (a :: l) = a.length + sumL l := rfl
      rw [e, List.length_cons]; omega
  have a1 := hsum (rowsE kvs) fun r hr => rowsE_sh g hr
  unfold textE
  exact ⟨by omega, join_ok (by decide +kernel) fun r hr => (rowsE_sh g hr).ok⟩
/-- all that the law does with packages -/
structure Pk91 (P : Program) (w : World) (K : PySem.W.Frag) (mg : Str → Option Value) (base : Heap) (CK CM CT : Addr) (mc : Value) (pF fF fS fE fL fG fI : Addr) (fdS fdE fdL fdG fdI : FuncData) (ds : List Value) : Prop where
  gC : mg "Package" = some (.ref CK)
  rd : CRead K CK mc
  cm : CMet K CK mc "from_text" pF fF
  FF : FnR P w K mg base (L2.CX P w) 10 fF (spFrom K CK CM CT)
  FS : FnOk P w K mg base CX0 3 fS fdS ["self"] (spStr CK)
  bS : Binds K fdS ["self"] []
  sS : PySem.W.findIn K (.ref CK) "__str__" = some (some (.ref fS))
  iS : PySem.W.isFn K (.ref fS) = true
  FE : FnOk P w K mg base CX0 1 fE fdE ["self", "other"] (spEqP CK)
  bE : Binds K fdE ["self", "other"] []
  sE : PySem.W.findIn K (.ref CK) "__eq__" = some (some (.ref fE))
  iE : PySem.W.isFn K (.ref fE) = true
  nE : PySem.W.findIn K (.ref CK) "__ne__" = some (some (.builtin "object.__ne__"))
  oE : PySem.W.subIn K (.ref CK) (.type "object") = some true
  FL : FnOk P w K mg base CX0 1 fL fdL ["self"] (spLen CK)
  bL : Binds K fdL ["self"] []
  sL : PySem.W.findIn K (.ref CK) "__len__" = some (some (.ref fL))
  iL : PySem.W.isFn K (.ref fL) = true
  GG : GFnC P w K mg base 2 fG fdG ["self"] (spItems CK)
  mG : Meth K CK "items" fG
  bG : Binds K fdG ["self"] []
  cl : Cls K CK
  mak : Mk K CK fI
  FI : FnOk P w K mg base (L2.CX P w) 8 fI fdI ["self", "entries"] (spIn CK CM)
  b1 : Binds K fdI ["self", "entries"] []
  b0 : Binds K fdI ["self", "entries"] ds
  d0 : Vals [.non] ds
section
variable {P : Program} {w : World} {K : PySem.W.Frag} {CK CM CT : Addr}
theorem prs_pairs {H : Hp} : ∀ {ps : List Addr} {es : List (Str × V)}, Prs H ps es → Paired (fun p (q : Key × V) => SqT K H p [kV q.1, q.2]) ps (kv es)
  | [], [], .nil => .nil
  | _ :: _, _ :: _, .cons a r => .cons (SqT.of a) (prs_pairs r)
theorem merge_new : ∀ (es a : List (Str × V)), ((a ++ es).map (·.1)).Nodup → mergeK (kv a) (kv es) = kv (a ++ es)
  | [], a, _ => by rw [List.append_nil]; rfl
  | e :: es, a, h => by
    have e1 : a ++ e :: es = (a ++ [e]) ++ es := by rw [List.append_assoc]; rfl
    rw [e1] at h ⊢
    have hne : e.1 ∉ a.map (·.1) := fun hm => by
      rw [List.map_append, List.map_append, List.nodup_append] at h
      have h2 := h.1
      rw [List.nodup_append] at h2
      exact h2.2.2 _ hm _ (List.mem_singleton_self _) rfl
    rw [← merge_new es (a ++ [e]) h]
    have e2 : putK (kv a) (.inr e.1) e.2 = kv (a ++ [e]) := by
      rw [putK_new _ (val_no hne)]
      unfold kv
      rw [List.map_append]; rfl
    rw [← e2]; rfl
theorem make_ok {H : Hp} {e x dx : Addr} {es : List (Str × V)} {R : VK} {E : XK} (hx : H x = none) (hd : H dx = none) (he : H e = some (.dK (kv es))) (ok : OkU es) (hl : (pkE es).length ≤ 40) (hq : ∀ H', Same H H' → PkAt CK H' x (pkE es) → R .non H') :
    spIn CK CM (.ref x :: ([.ref e] ++ [])) (upd (upd H dx (.own x)) x (.ins CK dx [])) R E := by
  have n1 := ne_of_none he hx
  have n2 := ne_of_none he hd
  refine ⟨x, dx, .ref e, es, rfl, upd_same, Or.inr ⟨e, rfl, by rw [upd_ne n1, upd_ne n2]; exact he⟩, ok, by rw [← pkE_len]; omega, fun _ H' k pk => hq H' (made_same hx hd k) pk, fun h => absurd hl (by omega)⟩
theorem pkE_nil : pkE [] = [] := pkE_id okE_nil
theorem okU_nil : OkU [] := ⟨fun _ h => (nomatch h), fun _ h => (nomatch h), fun _ h => (nomatch h), List.nodup_nil⟩
theorem make0_ok {H : Hp} {x dx : Addr} {R : VK} {E : XK} (hx : H x = none) (hd : H dx = none) (hq : ∀ H', Same H H' → PkAt CK H' x [] → R .non H') :
    spIn CK CM (.ref x :: ([] ++ [.non])) (upd (upd H dx (.own x)) x (.ins CK dx [])) R E := by
  have e := pkE_nil
  refine ⟨x, dx, .non, [], rfl, upd_same, Or.inl ⟨rfl, rfl⟩, okU_nil, by rw [← pkE_len, e]; decide, fun _ H' k pk => hq H' (made_same hx hd k) (by rw [e] at pk; exact pk), fun h => absurd h (by rw [e]; decide)⟩
theorem from_okT {H : Hp} {z : Str} {es : List (Str × V)} {Q : VK} {E : XK} (hz : z = textS es) (ok : OkE es) (hl : es.length ≤ 40) (hz1 : z.length ≤ 1000000) (hz2 : PyData.strOk z = true)
    (hq : ∀ H' p, Same H H' → H p = none → PkAt CK H' p es → Q (.ref p) H') : spFrom K CK CM CT [.ref CK, .str z] H Q E := by
  refine ⟨_, rfl, Or.inl ⟨z, .ok (kv es), rfl, hz1, hz2, by rw [hz]; exact readT_back ok, fun kvs e => ?_, fun i e => by cases e⟩⟩
  cases e
  exact ⟨es, rfl, ok, fun _ H' p s hp pk => hq H' p s hp pk, fun h => absurd hl (by omega)⟩
theorem str_okP {H : Hp} {p : Addr} {z : Str} {es : List (Str × V)} {Q : VK} (pk : PkAt CK H p es) (ok : OkE es) (hl : es.length ≤ 1000) (hz : z = textS es) (hq : ∀ H', Same H H' → Q (.str z) H') : rStrO CK (spStr CK) [.ref p] H Q := by
  obtain ⟨dx, d, ⟨xx_h1, h1, zz_h1⟩, h2⟩ := id pk
  exact ⟨p, dx, _, rfl, h1, p, es, rfl, pk, ok, hl, fun H' s => ⟨_, rfl, by rw [← hz]; exact hq H' s⟩⟩
theorem ne_okP {H : Hp} {a b : Addr} {es : List (Str × V)} {Q : VK} (pa : PkAt CK H a es) (pb : PkAt CK H b es) (ok : OkE es) (hq : ∀ H', Same H H' → Q (.bl false) H') : rCmpO true CK (spEqP CK) (.ref a) (.ref b) H Q := by
  obtain ⟨dx, d, ⟨xx_h1, h1, zz_h1⟩, h2⟩ := id pa
  obtain ⟨dy, e, ⟨xx_h3, h3, zz_h3⟩, h4⟩ := id pb
  exact ⟨a, b, dx, dy, _, _, rfl, rfl, h1, h3, a, b, es, rfl, pa, pb, ok, fun H' s => ⟨true, rfl, hq H' s⟩⟩
theorem len_okP {H : Hp} {a : Addr} {es : List (Str × V)} {Q : VK} (pa : PkAt CK H a es) (hl : es.length ≤ 1000) (hq : ∀ H', Same H H' → Q (.int es.length) H') : rLenO CK (spLen CK) [.ref a] H Q := by
  obtain ⟨dx, d, ⟨xx_h1, h1, zz_h1⟩, h2⟩ := id pa
  exact ⟨a, dx, _, rfl, h1, a, es, rfl, pa, fun H' s => ⟨es.length, rfl, Nat.lt_of_le_of_lt hl (by decide), hq H' s⟩⟩
end
section
variable {P : Program} {w : World} {K : PySem.W.Frag} {mg : Str → Option Value} {base : Heap} {tk1 tk2 : Tok}
theorem ok_law {f f1 f2 f3 f4 CK CM CT pF fF fS fE fL fG fI : Addr} {mc : Value} {fd fd1 fd2 fd3 fd4 fdS fdE fdL fdG fdI : FuncData} {ds : List Value} (F : Fun K "law" "law" s_law f fd) (T : Txt K mg tk1 tk2)
    (d_bag : DefAt P w K mg base "_law_bag" 1 f1 fd1 ["_law_script", "_law_at"] (spBagN K)) (d_pool : DefAt P w K mg base "_law_pool" 3 f2 fd2 ["_law_bag_here"] spPool)
    (d_entries : DefAt P w K mg base "_law_entries" 5 f3 fd3 ["_law_bag_here", "_law_pool_here"] spEntries) (d_text : DefAt P w K mg base "_law_text" 4 f4 fd4 ["_law_entries_here"] spText) (G : Pk91 P w K mg base CK CM CT mc pF fF fS fE fL fG fI fdS fdE fdL fdG fdI ds) :
    FnOk P w K mg base CX0 13 f fd ["_law_script"] (spLaw K) := by
  refine F.ok sc_law (fun vs H Q E h => ?_) (fun cdv A outer s H vs Q E hr h => ?_)
  · obtain ⟨a, ns, rfl, _⟩ := h
    rfl
  have hu := hr.units
  have hu1 := hu_of hr
  refine ⟨_, (pss_cons (ps_for PassesOwn.never rfl (pi_range1 (by rfl) T.n_range (pa_cons (pe_callB (call_max2 rfl) (by rfl) T.n_max (by decide +kernel) (pa_cons pe_int (pa_cons (pe_callB (call_min2 rfl) (by rfl) T.n_min (by decide +kernel) (pa_cons pe_int (pa_cons (pe_callB call_len_seq (by rfl) T.n_len (by decide +kernel) (pa_cons (pv 0) pa_nil)) pa_nil))) pa_nil))) pa_nil)) (pg_name (i := 1) sc_law.nd rfl (Or.inl rfl)) (pss_cons (ps_set (i := 2) sc_law.nd rfl (Or.inl rfl) (pe_callD d_bag (hr.mono (by decide)) (pa_cons (pv 0) (pa_cons (pv 1) pa_nil))))
    (pss_cons (ps_set (i := 3) sc_law.nd rfl (Or.inl rfl) (pe_callD d_pool (hr.mono (by decide)) (pa_cons (pv 2) pa_nil)))
    (pss_one (ps_for PassesOwn.never rfl (pi_range1 (by rfl) T.n_range (pa_cons pe_int pa_nil)) (pg_name (i := 4) sc_law.nd rfl (Or.inl rfl)) (pss_cons (ps_set (i := 5) sc_law.nd rfl (Or.inl rfl) (pe_callD d_entries (hr.mono (by decide)) (pa_cons (pv 2) (pa_cons (pv 3) pa_nil))))
    (pss_cons (ps_par (i := 6) (j := 7) (by rfl) sc_law.nd rfl rfl (by decide) rfl rfl (pa_cons (pe_make G.mak G.FI (hr.mono (by decide)) rfl G.gC G.b1 .nil passL (pa_cons (pv 5) pa_nil)) (pa_cons (pe_callD d_text (hr.mono (by decide)) (pa_cons (pv 5) pa_nil)) pa_nil)) (by rfl))
    (pss_cons (ps_if (pt_cmpR op_ne (pe_callTy (show CallR _ (.type "str") (rStrO CK (spStr CK)) from call_strO G.FS (hr.mono (by decide)) G.bS G.sS G.iS) (by rfl) T.n_str (by decide +kernel) (pa_cons (pv 6) pa_nil)) (pv 7) (nomark _)) (pss_one (ps_ret pe_bl)) pss_nil)
    (pss_cons (ps_set (i := 8) sc_law.nd rfl (Or.inl rfl) (pe_cmethS (W := fun _ _ _ _ => False) (pe_glob (v := .ref CK) rfl G.gC rfl) G.rd G.cm G.FF (hr.mono (by decide)) takes0 (pa_cons (pv 7) pa_nil)))
    (pss_one (ps_if (PW.pt (pw_or (pt_cmpR (op_neO G.FE (hr.mono (by decide)) G.bE G.sE G.iE G.nE G.oE) (pv 8) (pv 6) (nomark _)) (pw_or (pt_cmpR op_ne (pe_callTy (show CallR _ (.type "str") (rStrO CK (spStr CK)) from call_strO G.FS (hr.mono (by decide)) G.bS G.sS G.iS) (by rfl) T.n_str (by decide +kernel) (pa_cons (pv 8) pa_nil)) (pv 7) (nomark _)) (pw_or1 (pt_cmpR (op_ne_dictA (Nat.lt_of_succ_lt hu1)) (pe_callTy (call_dictP rfl) (by rfl) T.n_dict (by decide +kernel) (pa_cons (pe_lcG (x := "_law_pair") (pgenC_meth (pv 8) G.cl G.mG G.GG (hr.mono (by decide)) G.bG) (hr.mono (by decide)) rfl (by decide +kernel) (by decide +kernel) (by decide +kernel)) pa_nil)) (pv 5) (nomark _)))))) (pss_one (ps_ret pe_bl)) pss_nil)))))))))))
    (pss_cons (ps_set (i := 10) sc_law.nd rfl (Or.inl rfl) pe_dnewK)
    (pss_cons (ps_for PassesOwn.never rfl (pi_str pe_str) (pg_name (i := 11) sc_law.nd rfl (Or.inl rfl)) (pss_one (ps_for PassesOwn.never rfl (pi_str pe_str) (pg_name (i := 12) sc_law.nd rfl (Or.inl rfl)) (pss_one (ps_dput hu1 (pv 10) (pe_op op_add_str (pv 11) (pv 12)) (pe_callB call_lenD (by rfl) T.n_len (by decide +kernel) (pa_cons (pv 10) pa_nil)) rfl)))))
    (pss_cons (ps_if (PW.pt (pw_or (pt_cmpR (op_neO G.FE (hr.mono (by decide)) G.bE G.sE G.iE G.nE G.oE) (pe_cmethS (W := fun _ _ _ _ => False) (pe_glob (v := .ref CK) rfl G.gC rfl) G.rd G.cm G.FF (hr.mono (by decide)) takes0 (pa_cons (pe_callD d_text (hr.mono (by decide)) (pa_cons (pv 10) pa_nil)) pa_nil)) (pe_make G.mak G.FI (hr.mono (by decide)) rfl G.gC G.b1 .nil passL (pa_cons (pv 10) pa_nil)) (nomark _)) (pw_or1 (pt_cmpR op_ne (pe_callB (call_lenO G.FL (hr.mono (by decide)) G.bL G.sL G.iL) (by rfl) T.n_len (by decide +kernel) (pa_cons (pe_make G.mak G.FI (hr.mono (by decide)) rfl G.gC G.b1 .nil passL (pa_cons (pv 10) pa_nil)) pa_nil)) pe_int (nomark _))))) (pss_one (ps_ret pe_bl)) pss_nil)
    (pss_cons (ps_if (PW.pt (pw_or (pt_cmpR op_ne (pe_callTy (show CallR _ (.type "str") (rStrO CK (spStr CK)) from call_strO G.FS (hr.mono (by decide)) G.bS G.sS G.iS) (by rfl) T.n_str (by decide +kernel) (pa_cons (pe_make0 G.mak G.FI (hr.mono (by decide)) rfl G.gC G.b0 G.d0 passL) pa_nil)) pe_str (nomark _)) (pw_or (pt_cmpR (op_neO G.FE (hr.mono (by decide)) G.bE G.sE G.iE G.nE G.oE) (pe_cmethS (W := fun _ _ _ _ => False) (pe_glob (v := .ref CK) rfl G.gC rfl) G.rd G.cm G.FF (hr.mono (by decide)) takes0 (pa_cons pe_str pa_nil)) (pe_make0 G.mak G.FI (hr.mono (by decide)) rfl G.gC G.b0 G.d0 passL) (nomark _)) (pw_or1 (pt_cmpR op_ne (pe_callB (call_lenO G.FL (hr.mono (by decide)) G.bL G.sL G.iL) (by rfl) T.n_len (by decide +kernel) (pa_cons (pe_cmethS (W := fun _ _ _ _ => False) (pe_glob (v := .ref CK) rfl G.gC rfl) G.rd G.cm G.FF (hr.mono (by decide)) takes0 (pa_cons pe_str pa_nil)) pa_nil)) pe_int (nomark _)))))) (pss_one (ps_ret pe_bl)) pss_nil)
    (pss_cons (ps_set (i := 7) sc_law.nd rfl (Or.inl rfl) pe_str)
    (pss_one (ps_ret (pe_and (pe_cmpR op_eq (pe_callTy (show CallR _ (.type "str") (rStrO CK (spStr CK)) from call_strO G.FS (hr.mono (by decide)) G.bS G.sS G.iS) (by rfl) T.n_str (by decide +kernel) (pa_cons (pe_make G.mak G.FI (hr.mono (by decide)) rfl G.gC G.b1 .nil passL (pa_cons (pe_disp (pps_cons pe_str pe_str (pps_cons pe_str pe_str (pps_cons pe_str (pe_un un_neg pe_int) pps_nil))) rfl rfl (by simp) (by decide)) pa_nil)) pa_nil)) (pv 7) (nomark _)) (pe_one (pe_cmpR op_eq (pe_callTy (show CallR _ (.type "str") (rStrO CK (spStr CK)) from call_strO G.FS (hr.mono (by decide)) G.bS G.sS G.iS) (by rfl) T.n_str (by decide +kernel) (pa_cons (pe_cmethS (W := fun _ _ _ _ => False) (pe_glob (v := .ref CK) rfl G.gC rfl) G.rd G.cm G.FF (hr.mono (by decide)) takes0 (pa_cons (pv 7) pa_nil)) pa_nil)) (pv 7) (nomark _)))))))))))), ?_⟩
  obtain ⟨a, ns, rfl, hS, hlen, hq⟩ := h
  refine ⟨_, rfl, a, _, rfl, Or.inl hS, _, _, rfl, _, _, rfl, ?_⟩
  rw [List.length_map]
  have hm : ∃ m : Int, (if (if (ns.length : Int) < 4 then (ns.length : Int) else 4) > 1 then (if (ns.length : Int) < 4 then (ns.length : Int) else 4) else 1) = m ∧ 0 ≤ m ∧ m ≤ 4 := by
    refine ⟨_, rfl, ?_⟩
    split <;> split <;> omega
  obtain ⟨m, em, m0, m5⟩ := hm
  refine ⟨m, by rw [← em], by omega, by omega, for_range (lo := 0) (fun i σ H' => ∃ v1 v2 v3 v4 v5 v6 v7 v8, σ = [some (.ref a), v1, v2, v3, v4, v5, v6, v7, v8, none, none, none, none] ∧ SqL K H' a (ns.map V.int))
    ⟨_, _, _, _, _, _, _, _, rfl, hS⟩ ?_ ?_⟩
  · rintro i σ H1 hi ⟨v1, v2, v3, v4, v5, v6, v7, v8, rfl, hS1⟩
    refine ⟨_, rfl, _, rfl, a, _, ns, rfl, hS1, by omega, fun H2 b s2 hbn hb => ?_⟩
    refine ⟨_, rfl, b, 0, rfl, hb, by decide, fun H3 l ws k3 b3 hws hlb hl => ?_⟩
    refine ⟨5, rfl, by decide, by decide, for_range (lo := 0) (fun j σ H' => ∃ v1 v4 v5 v6 v7 v8, σ = [some (.ref a), v1, some (.ref b), some (.ref l), v4, v5, v6, v7, v8, none, none, none, none] ∧ Keep b H3 H' ∧ BagN H' b (1 + 500 * j))
      ⟨_, _, _, _, _, _, rfl, Keep.refl b H3, b3⟩ ?_ ?_⟩
    · rintro j σ H4 hj ⟨v1, v4, v5, v6, v7, v8, rfl, k4, b4⟩
      have hj' : j < 5 := by omega
      have l4 := k4 _ _ hlb hl
      refine ⟨_, rfl, _, rfl, b, l, ws, _, rfl, b4, by omega, hlb, l4, hws, fun H5 e es k5 b5 heb he dr hes => ?_⟩
      obtain ⟨pok, plen⟩ := dr.pk (by omega)
      have pl40 : (pkE es).length ≤ 40 := by omega
      have htx := dr.text
      have hkl := kv_len es
      obtain ⟨tx1, tx2⟩ := fit_text dr.gd (by omega)
      refine ⟨_, rfl, ?_⟩
      intro x dx hx hd hn
      refine make_ok hx hd he dr.ok pl40 fun H6 s6 pk6 => ⟨rfl, ?_⟩
      have b6 := b5.same s6
      refine ⟨_, rfl, e, _, rfl, s6 _ _ he, dr.gd, by omega, fun H7 s7 => ?_⟩
      refine ⟨_, _, rfl, ?_⟩
      refine ⟨_, rfl, ?_⟩
      dsimp only [tNil]
      refine str_okP (pk6.same s7) pok (by omega) htx fun H8 s8 => ?_
      refine ⟨_, rfl, rfl, _, rfl, ?_⟩
      rw [decide_eq_true rfl]
      refine iteF ?_
      refine ⟨rfl, _, rfl, ?_⟩
      dsimp only [tNil]
      refine from_okT htx pok pl40 (by omega) tx2 fun H9 y s9 hy pk9 => ?_
      have S69 := (s7.trans s8).trans s9
      refine ⟨_, rfl, _, rfl, ne_okP pk9 (pk6.same S69) pok fun H10 s10 => ?_⟩
      refine ⟨_, rfl, iteF ?_⟩
      refine ⟨_, rfl, ?_⟩
      dsimp only [tNil]
      refine str_okP (pk9.same s10) pok (by omega) htx fun H11 s11 => ?_
      refine ⟨_, rfl, rfl, _, rfl, ?_⟩
      rw [decide_eq_true rfl]
      refine iteF ?_
      have pk11 := (pk9.same s10).same s11
      obtain ⟨dy, dd, ⟨xx_g1, g1, zz_g1⟩, g2⟩ := id pk11
      refine ⟨_, rfl, y, dy, _, rfl, g1, lk_no dd (by decide), y, pkE es, rfl, pk11, pok, by omega, fun H12 ps s12 hps q hq2 => ?_⟩
      dsimp only [tNil]
      refine ⟨q, ps, kv (pkE es), rfl, SqL.of upd_same, prs_pairs (hps.mono fun b xs h => by rw [upd_ne (ne_of_none h hq2)]; exact h), fun z hz => ?_⟩
      have hme : mergeK [] (kv (pkE es)) = kv (pkE es) := merge_new (pkE es) [] pok.nd
      rw [hme]
      have S5 : Same H5 (upd (upd H12 q (.lst (ps.map V.ref))) z (.dK (kv (pkE es)))) := ((((s6.trans S69).trans s10).trans s11).trans s12).trans ((same_new hq2).trans (same_new hz))
      refine ⟨_, rfl, z, e, kv (pkE es), kv es, rfl, rfl, upd_same, S5 _ _ he, by rw [kv_len, kv_len]; exact plen, fun r hr => ?_, _, rfl, ?_⟩
      · unfold kv at hr
        obtain ⟨e1, he1, rfl⟩ := List.mem_map.mp hr
        have hm : e1 ∈ es := by
          have h := (mem_pkE dr.ok).mp he1
          rw [dr.full] at h; exact h
        exact ⟨val_mem dr.ok.nd hm, flat_item (pok.it e1 he1)⟩
      · refine iteF ?_
        have b13 := b5.same S5
        exact ⟨_, _, _, _, _, _, rfl, (k4.trans k5).trans (Same.keep S5), b13.more (by omega)⟩
    · rintro σ H4 ⟨v1, v4, v5, v6, v7, v8, rfl, k4, b4⟩
      exact ⟨_, _, _, _, _, _, _, _, rfl, seq_keep_new hS1 hbn (((Same.keep s2).trans k3).trans k4)⟩
  · rintro σ H1 ⟨v1, v2, v3, v4, v5, v6, v7, v8, rfl, hS1⟩
    intro md hmd
    refine ⟨"abcdefgh", rfl, for_it walk_str (fun i σ H' => ∃ v11 v12, σ = [some (.ref a), v1, v2, v3, v4, v5, v6, v7, v8, none, some (.ref md), v11, v12] ∧ H' md = some (.dK (kv (manyE (5 * i))))) ⟨_, _, rfl, upd_same⟩ (fun _ _ _ _ _ => trivial) ?_ ?_⟩
    · rintro i x σ H3 H4 hi ⟨v11, v12, rfl, hm3⟩ ⟨rfl, c, hc, rfl⟩
      have hi8 : i < 8 := hi
      have hci : c = 97 + i := by
        have h8 : ∀ i < 8, ("abcdefgh" : Str).cps[i]? = some (97 + i) := by decide +kernel
        rw [h8 i hi8] at hc
        exact (Option.some.inj hc).symm
      refine ⟨"vwxyz", rfl, for_it walk_str (fun j σ H' => ∃ v12, σ = [some (.ref a), v1, v2, v3, v4, v5, v6, v7, v8, none, some (.ref md), some (.str ⟨#[c]⟩), v12] ∧ H' md = some (.dK (kv (manyE (5 * i + j))))) ⟨_, rfl, hm3⟩ (fun _ _ _ _ _ => trivial) ?_ ?_⟩
      · rintro j x σ H5 H6 hj ⟨v12, rfl, hm5⟩ ⟨rfl, c2, hc2, rfl⟩
        have hj5 : j < 5 := hj
        have hcj : c2 = 118 + j := by
          have h5 : ∀ j < 5, ("vwxyz" : Str).cps[j]? = some (118 + j) := by decide +kernel
          rw [h5 j hj5] at hc2
          exact (Option.some.inj hc2).symm
        have l1 : ∀ c : Nat, (⟨#[c]⟩ : Str).length = 1 := fun _ => rfl
        have hbig := sizeLine_big
        have hk : (⟨#[c]⟩ : Str) ++ (⟨#[c2]⟩ : Str) = nm (5 * i + j) := by
          unfold nm
          have e1 : (5 * i + j) / 5 = i := by omega
          have e2 : (5 * i + j) % 5 = j := by omega
          rw [e1, e2, hci, hcj]
        have hlen5 : (kv (manyE (5 * i + j))).length = 5 * i + j := by rw [kv_len, manyE_len]
        refine ⟨_, rfl, md, _, rfl, hm5, _, rfl, _, rfl, _, rfl, _, _, rfl, rfl, by rw [l1, l1]; omega, md, _, rfl, DPut.k (k := Sum.inr ((⟨#[c]⟩ : Str) ++ (⟨#[c2]⟩ : Str))) hm5 (by rw [hlen5]; omega), _, rfl, ?_⟩
        rw [upd_same, hk, hlen5, many_put (show 5 * i + j < 40 by omega)]; rfl
      · rintro σ H5 ⟨v12, rfl, hm5⟩
        have hm6 : H5 md = some (.dK (kv (manyE (5 * i + 5)))) := hm5
        exact ⟨_, _, rfl, by rw [show 5 * (i + 1) = 5 * i + 5 by omega]; exact hm6⟩
    · rintro σ H3 ⟨v11, v12, rfl, hm3⟩
      have hm4 : H3 md = some (.dK (kv (manyE 40))) := hm3
      have dr := many_drawn 40 (Nat.le_refl _)
      obtain ⟨pok, plen⟩ := dr.pk (by rw [manyE_len]; decide)
      rw [manyE_len] at plen
      have pl40 : (pkE (manyE 40)).length ≤ 40 := by omega
      have htx := dr.text
      have hkl : (kv (manyE 40)).length = 40 := by rw [kv_len, manyE_len]
      obtain ⟨tx1, tx2⟩ := fit_text dr.gd (by omega)
      refine ⟨rfl, _, rfl, md, _, rfl, hm4, dr.gd, by omega, fun H4 s4 => ?_⟩
      dsimp only [tNil]
      refine from_okT htx pok pl40 (by omega) tx2 fun H5 y s5 hy pk5 => ?_
      have hm5 := s5 _ _ (s4 _ _ hm4)
      refine ⟨_, rfl, ?_⟩
      intro x dx hx hd hn
      refine make_ok hx hd hm5 dr.ok pl40 fun H6 s6 pk6 => ⟨rfl, ?_⟩
      refine ne_okP (pk5.same s6) pk6 pok fun H7 s7 => ?_
      refine ⟨_, rfl, iteF ?_⟩
      have hm7 := s7 _ _ (s6 _ _ hm5)
      refine ⟨_, rfl, ?_⟩
      intro x2 dx2 hx2 hd2 hn2
      refine make_ok hx2 hd2 hm7 dr.ok pl40 fun H8 s8 pk8 => ⟨rfl, ?_⟩
      dsimp only [tNil]
      refine len_okP pk8 (by omega) fun H9 s9 => ?_
      rw [plen]
      refine ⟨rfl, _, rfl, ?_⟩
      rw [show (!decide (V.int ((40 : Nat) : Int) = V.int 40)) = false from rfl]
      refine iteF ?_
      -- the empty package
      have t0 : ("" : Str) = textS [] := by decide +kernel
      intro x3 dx3 hx3 hd3 hn3
      refine make0_ok hx3 hd3 fun H10 s10 pk10 => ⟨rfl, ?_⟩
      dsimp only [tNil]
      refine str_okP pk10 okE_nil (by decide) t0 fun H11 s11 => ?_
      refine ⟨rfl, _, rfl, ?_⟩
      rw [decide_eq_true rfl]
      refine iteF ?_
      refine ⟨rfl, ?_⟩
      dsimp only [tNil, tCons, tC]
      refine from_okT t0 okE_nil (by decide) (by decide +kernel) (by decide +kernel) fun H12 y4 s12 hy4 pk12 => ?_
      intro x5 dx5 hx5 hd5 hn5
      refine make0_ok hx5 hd5 fun H13 s13 pk13 => ⟨rfl, ?_⟩
      refine ne_okP (pk12.same s13) pk13 okE_nil fun H14 s14 => ?_
      refine ⟨_, rfl, iteF ?_⟩
      refine ⟨rfl, ?_⟩
      dsimp only [tNil, tCons, tC]
      refine from_okT t0 okE_nil (by decide) (by decide +kernel) (by decide +kernel) fun H15 y6 s15 hy6 pk15 => ?_
      refine len_okP pk15 (by decide) fun H16 s16 => ?_
      refine ⟨rfl, _, rfl, ?_⟩
      rw [show (!decide (V.int (([] : List (Str × V)).length : Int) = V.int 0)) = false from rfl]
      refine iteF ?_
      intro de hde
      refine ⟨_, rfl, upd_same, kv es3, rfl, by decide, ?_⟩
      rw [show mergeK [] (kv es3) = kv es3 from merge_new es3 [] es3_ok.nd]
      have h3 : (upd (upd H16 de (.dK [])) de (.dK (kv es3))) de = some (.dK (kv es3)) := upd_same
      generalize (upd (upd H16 de (.dK [])) de (.dK (kv es3))) = H17 at h3
      have ok4 : OkE es4 := es3_pk ▸ pkE_ok es3_ok (by rw [← pkE_len, es3_pk]; decide)
      have tx4 := es4_text.symm
      intro x7 dx7 hx7 hd7 hn7
      refine make_ok hx7 hd7 h3 es3_ok (by rw [es3_pk]; decide) fun H18 s18 pk18 => ⟨rfl, ?_⟩
      rw [es3_pk] at pk18
      dsimp only [tNil]
      refine str_okP pk18 ok4 (by decide) tx4 fun H19 s19 => ?_
      refine ⟨_, rfl, rfl, _, rfl, ?_⟩
      rw [decide_eq_true rfl]
      refine iteT ?_
      refine ⟨rfl, _, rfl, ?_⟩
      refine from_okT tx4 ok4 (by decide) (by decide +kernel) (by decide +kernel) fun H20 y8 s20 hy8 pk20 => ?_
      dsimp only [tNil]
      refine str_okP pk20 ok4 (by decide) tx4 fun H21 s21 => ?_
      refine ⟨_, rfl, rfl, ?_⟩
      rw [decide_eq_true rfl]
      exact hq H21
end
end K6

set_option Elab.async false
set_option linter.all false
set_option maxRecDepth 100000
set_option maxHeartbeats 4000000
namespace LF
open PySem PySem.Spec PyProof.Rows L2
/-- the heap at the law's entry: what a promise that is asked where no repr is under way gives -/
theorem lawG_call {P : Program} {w : World} {K : PySem.W.Frag} {mg mb : Str → Option Value} {k : Nat} {fa a : Addr} {fd : FuncData} {x : Str} {sp : Sp} {s1 : Shared} {us : List Value} {ns : List Int}
    (KX : K.In s1.heap) (hns : s1.heap.Ns mainGlobals mg) (hbn : s1.heap.Ns builtinsNs mb) (hbb : ∀ y : Str, y ≠ "__name__" → mb y = bootBuiltins y) (hlim : s1.heap.NoLimit) (hgens : s1.gens = #[])
    (ha : s1.heap.get? a = some { cls := .type "list", data := .seq us.toArray }) (hi : IntsAre us ns) (hl : ns.length ≤ sizeLine) (hr : Room k callerA)
    (F : ∀ base : Heap, K.In base → base.Ns mainGlobals mg → FnG P w K mg base CX0 k fa fd [x] sp)
    (hbind : ∀ (s : Shared) (u : Value), BindsTo s fd ⟨[u], []⟩ [(x, u)])
    (hsp : ∀ H : Hp, SqL K H a (ns.map V.int) → sp [.ref a] H (fun v _ => v = .bl true) (fun _ _ _ => False)) :
    codeAny (model P w) callerA (.call (.ref fa) ⟨[.ref a], []⟩)
      (fun r s' => r = .ok (.ret (.bool true)) ∧ OldK s1.heap s'.heap ∧ s'.os = s1.os ∧ AllBare s'.gens) s1 := by
  have hlv := hi.length
  -- from any abstract heap that tracks at most the script
  have main : ∀ H : Hp, (∀ b, H b = none ∨ ∃ o xs, H b = some (.frz o (.lst xs))) → SqL K H a (ns.map V.int) → HOk P w H s1.heap → (∀ b, H b ≠ none → b = a) → (H a ≠ none → K.lookup a = none) →
      codeAny (model P w) callerA (.call (.ref fa) ⟨[.ref a], []⟩)
        (fun r s' => r = .ok (.ret (.bool true)) ∧ OldK s1.heap s'.heap ∧ s'.os = s1.os ∧ AllBare s'.gens) s1 := by
    intro H only hS hok onlyA notK
    have dictFree : ∀ {b : Addr} {o : Obj} {es : Array DictEntry} {ep : Nat}, s1.heap.get? b = some o → o.data = .dict es ep → H b = none := by
      intro b o es ep e d
      cases q : H b with
      | none => rfl
      | some u =>
        have hb := onlyA b (by rw [q]; simp)
        rw [hb, ha] at e
        have e' := Option.some.inj e
        rw [← e'] at d
        cases d
    have nsH : ∀ {b : Addr} {m : Str → Option Value}, s1.heap.Ns b m → (hidT s1.heap H).Ns b m := by
      rintro b m ⟨o, es, ep, e, d, rest⟩
      exact ⟨o, es, ep, hidT_get e (dictFree e d), d, rest⟩
    have KH : K.In (hidT s1.heap H) := by
      intro b o e
      refine hidT_get (KX b o e) ?_
      cases q : H b with
      | none => rfl
      | some u =>
        have hb := onlyA b (by rw [q]; simp)
        subst hb
        have := notK (by rw [q]; simp)
        rw [this] at e
        cases e
    have lim2 : (hidT s1.heap H).NoLimit := by
      obtain ⟨mc, h1, h2⟩ := hlim
      exact ⟨mc, nsH h1, h2⟩
    have hM : Mod K mg (hidT s1.heap H) := ⟨KH, nsH hns, ⟨mb, nsH hbn, hbb⟩, lim2⟩
    have nof : ∀ b : Addr, b ∈ frs ([] : List Env) → False := fun b hb => nomatch (show b ∈ ([] : List Addr) from hb)
    have e0 : Env0 P w K mg (hidT s1.heap H) callerA [] s1 H :=
      ⟨rfl, hM, fun b o e => of_hidT e, Nat.le_of_eq (hidT_size _ _), trivial, fun b hb => (nof b hb).elim, hok, .of_eq hgens⟩
    have run := (F _ KH (nsH hns)).go callerA [] s1 H ⟨[.ref a], []⟩ [.ref a] [.ref a] _ _ rfl hr e0 (hbind s1 (.ref a)) (.cons rfl .nil) (hsp H hS)
    refine codeAny_mono run ?_
    intro r s' h
    cases r with
    | error e => exact h.elim
    | ok fl =>
      cases fl with
      | next => exact h.elim
      | brk => exact h.elim
      | cont => exact h.elim
      | ret u =>
        obtain ⟨v, H', hos, hbare, un, hok', hv, hq⟩ := h
        have hq' : v = V.bl true := hq
        subst hq'
        have hu : u = Value.bool true := hv
        subst hu
        refine ⟨rfl, OldK.of_keep ?_, hos, hbare⟩
        intro b o e
        rcases only b with q | ⟨ob, xs, q⟩
        · exact un.keep b o e q (fun z => nof b z) (fun z => nomatch z)
        · have g1 := (hok b _ q).1
          have g2 := (hok' b _ (un.frzs b ob _ q)).1
          rw [e] at g1
          rw [Option.some.inj g1]
          exact g2
  have rv := vals_ints hi
  cases hk : K.lookup a with
  | some o =>
    have e := KX a o hk
    rw [ha] at e
    have e' := Option.some.inj e
    subst e'
    refine main (fun _ => none) (fun _ => Or.inl rfl) (Or.inr ⟨_, us.toArray, _, hk, rfl, rfl, rfl, ?_, ?_⟩) (fun b u z => nomatch (show (none : Option HO) = some u from z)) (fun b z => absurd rfl z) (fun z => absurd rfl z)
    · rw [List.size_toArray, hlv]; exact hl
    · simpa using rv
  | none =>
    let O : Obj := { cls := .type "list", data := .seq us.toArray }
    have at1 : ∀ b : Addr, b = a → (fun c : Addr => if c = a then some (HO.frz O (.lst (ns.map V.int))) else none) b = some (HO.frz O (.lst (ns.map V.int))) := fun b hb => if_pos hb
    have at0 : ∀ b : Addr, b ≠ a → (fun c : Addr => if c = a then some (HO.frz O (.lst (ns.map V.int))) else none) b = none := fun b hb => if_neg hb
    refine main (fun c => if c = a then some (HO.frz O (.lst (ns.map V.int))) else none) ?_ (Or.inl (Or.inr ⟨O, at1 a rfl⟩)) ?_ ?_ (fun _ => hk)
    · intro b
      by_cases hb : b = a
      · exact Or.inr ⟨O, _, at1 b hb⟩
      · exact Or.inl (at0 b hb)
    · intro b u z
      by_cases hb : b = a
      · have z' := (at1 b hb).symm.trans z
        have z2 := Option.some.inj z'
        subst z2
        subst hb
        exact ⟨ha, by rw [List.length_map]; exact hl, us, _, rv, ha⟩
      · have z' := (at0 b hb).symm.trans z
        cases z'
    · intro b z
      by_cases hb : b = a
      · exact hb
      · exact absurd (at0 b hb) z
theorem walkG {l : PySem.W.OpenLaw} {n k : Nat} {q : Program} {loose : List Str} {XP : (Str → Option Value) → Heap → Prop} {YP : World → Heap → Prop} {d : DefRec} {K : Params → PySem.W.Frag} {sp : PySem.W.Frag → Sp} {x : Str}
    (hn : l.most = some n) (hn2 : n ≤ sizeLine) (hdf : d.params.defaults = []) (hr : Room k callerA) (hY : ∀ (w : World) (h : Heap), YP w h → (K w.params).In h)
    (F : ∀ (w : World) (mg : Str → Option Value) (fa : Addr) (h : Heap), (K w.params).In h → h.Ns mainGlobals mg → mg d.name = some (.ref fa) →
      ∃ fd : FuncData, (∀ (s : Shared) (u : Value), BindsTo s fd ⟨[u], []⟩ [(x, u)]) ∧
        ∀ base : Heap, (K w.params).In base → base.Ns mainGlobals mg → FnG l.prog w (K w.params) mg base CX0 k fa fd [x] (sp (K w.params)))
    (hsp : ∀ (K : PySem.W.Frag) (H : Hp) (a : Addr) (ns : List Int), ns.length ≤ n → SqL K H a (ns.map V.int) → sp K [.ref a] H (fun v _ => v = .bl true) (fun _ _ _ => False)) :
    PySem.W.WalkO q loose XP YP l.row.toRowW d [] (fun f vs => PySem.call f vs) := by
  refine Att.attach_call hn hdf ?_
  intro w s₀ s₁ mg mb fa o pm cd doc a us ns G Y ho hd hcd hmg hobj hints hlen hgens
  have KX := hY w _ Y
  obtain ⟨fd, hb, hF⟩ := F w mg fa _ KX G.T.g hmg
  exact lawG_call KX G.T.g G.T.b G.T.builtins G.T.nolimit hgens hobj hints (Nat.le_trans hlen hn2) hr hF hb (fun H hS => hsp _ H a ns hlen hS)
end LF

set_option Elab.async false
set_option linter.all false
set_option maxRecDepth 100000
set_option maxHeartbeats 4000000
namespace K6
open PySem PySem.Spec PyProof.Rows L2 LF
theorem exm_of {K : PySem.W.Frag} {S T : Addr} {b : Bool} (h1 : PySem.W.subIn K (.ref T) (.type "BaseException") = some true) (h2 : PySem.W.isClsIn K T = true) (h3 : PySem.W.typeIn K (.ref T) = some (.type "type")) (h4 : PySem.W.subIn K (.ref S) (.ref T) = some b) :
    PySem.W.exmOne K (.ref S) (.ref T) = some b := by
  have e1 : (PySem.W.subIn K (.ref T) (.type "BaseException") == some true) = true := by rw [h1] <;> rfl
  have e2 : ((PySem.W.clsIn K T).isSome && PySem.W.typeIn K (.ref T) == some (.type "type")) = true := by
    have h2' : (PySem.W.clsIn K T).isSome = true := h2
    rw [h2', h3] <;> rfl
  show (if (PySem.W.subIn K (.ref T) (.type "BaseException") == some true) = true then (if ((PySem.W.clsIn K T).isSome && PySem.W.typeIn K (.ref T) == some (.type "type")) = true then PySem.W.subIn K (.ref S) (.ref T) else none) else none) = some b
  rw [if_pos e1, if_pos e2]
  exact h4
theorem all_mk {P : Program} {w : World} {K : PySem.W.Frag} {h : Heap} {mg : Str → Option Value} {fa CT CM CK fI TD f1 f2 f3 f4 f5 f6 f7 f8 f9 f10 f11 f12 f13 f14 f15 f16 f17 f18 f19 f20 f21 f22 f23 f24 f25 f26 f27 f28 f29 f30 f31 f32 f33 f34 f35 e0f e1f gN pF gF uL uE uG e0N e1N : Addr} (X : K.In h) (G : h.Ns mainGlobals mg) (hfa : mg "law" = some (.ref fa))
    {e0nm e0q : Str} {e0bs e0sub : List Value} {e0sn : List Str} {e0ab : Bool} {e0col : Option Bool} {e0m0 e0m1 e0m2 e0m3 e0m5 : Option Value} {e1nm e1q : Str} {e1bs e1sub : List Value} {e1sn : List Str} {e1ab : Bool} {e1col : Option Bool} {e1m0 e1m1 e1m2 e1m3 e1m5 : Option Value} {tk2 tk3 tk4 tk5 tk6 tk7 tkL : Tok} {nT : Nat} {rsF : List Value}
    {e0od e0an e0dd e1od e1an e1dd od1 an1 od2 an2 od3 an3 od4 an4 od5 an5 od6 an6 od7 an7 od8 an8 od9 an9 od10 an10 od11 an11 od12 an12 od13 an13 od14 an14 od15 an15 od16 an16 od17 an17 od18 an18 od19 an19 od20 an20 od21 an21 od22 an22 od23 an23 od24 an24 od25 an25 od26 an26 od27 an27 od28 an28 od29 an29 od30 an30 od31 an31 od32 an32 od33 an33 od34 an34 od35 an35 odI anI odT odN anN odF anF odL anL odE anE odG anG : Option Addr} {e0sl e1sl sl1 sl2 sl3 sl4 sl5 sl6 sl7 sl8 sl9 sl10 sl11 sl12 sl13 sl14 sl15 sl16 sl17 sl18 sl19 sl20 sl21 sl22 sl23 sl24 sl25 sl26 sl27 sl28 sl29 sl30 sl31 sl32 sl33 sl34 sl35 slI slT slN slF slL slE slG : Array (Option Value)} {e0oc e0dc e0pm e0cd e0ct e1oc e1dc e1pm e1cd e1ct oc1 kV1 dc1 pm1 cd1 ct1 oc2 kV2 dc2 pm2 cd2 ct2 oc3 kV3 dc3 pm3 cd3 ct3 oc4 kV4 dc4 pm4 cd4 ct4 oc5 kV5 dc5 pm5 cd5 ct5 oc6 kV6 dc6 pm6 cd6 ct6 oc7 kV7 dc7 pm7 cd7 ct7 oc8 kV8 dc8 pm8 cd8 ct8 oc9 kV9 dc9 pm9 cd9 ct9 oc10 kV10 dc10 pm10 cd10 ct10 oc11 kV11 dc11 pm11 cd11 ct11 oc12 kV12 dc12 pm12 cd12 ct12 oc13 kV13 dc13 pm13 cd13 ct13 oc14 kV14 dc14 pm14 cd14 ct14 oc15 kV15 dc15 pm15 cd15 ct15 oc16 kV16 dc16 pm16 cd16 ct16 oc17 kV17 dc17 pm17 cd17 ct17 oc18 kV18 dc18 pm18 cd18 ct18 oc19 kV19 dc19 pm19 cd19 ct19 oc20 kV20 dc20 pm20 cd20 ct20 oc21 kV21 dc21 pm21 cd21 ct21 oc22 kV22 dc22 pm22 cd22 ct22 oc23 kV23 dc23 pm23 cd23 ct23 oc24 kV24 dc24 pm24 cd24 ct24 oc25 kV25 dc25 pm25 cd25 ct25 oc26 kV26 dc26 pm26 cd26 ct26 oc27 kV27 dc27 pm27 cd27 ct27 oc28 kV28 dc28 pm28 cd28 ct28 oc29 kV29 dc29 pm29 cd29 ct29 oc30 kV30 dc30 pm30 cd30 ct30 oc31 kV31 dc31 pm31 cd31 ct31 oc32 kV32 dc32 pm32 cd32 ct32 oc33 kV33 dc33 pm33 cd33 ct33 oc34 kV34 dc34 pm34 cd34 ct34 oc35 kV35 dc35 pm35 cd35 ct35 ocI kVI dcI pmI cdI ctI ocT ocN kVN dcN pmN cdN ctN ocF kVF dcF pmF cdF ctF ocL kVL dcL pmL cdL ctL ocE kVE dcE pmE cdE ctE ocG kVG dcG pmG cdG ctG : Value}
    {x0f x1f x2f CTk CNb fNb : Addr} {x0oc x0kV x0dc x0pm x0cd x0ct x1oc x1kV x1dc x1pm x1cd x1ct x2oc x2kV x2dc x2pm x2cd x2ct ocNb kVNb dcNb pmNb cdNb ctNb : Value} {x0od x0an x1od x1an x2od x2an odNb anNb : Option Addr} {x0sl x1sl x2sl slNb : Array (Option Value)}
    (e0a : PySem.W.nsIn K mainGlobals "BadText" = some (some (.ref CT)))
    (e0x : K.lookup CT = some (excClassObj e0nm e0q CT e0N e0bs [.type "ValueError", .type "Exception", .type "BaseException", .type "object"] true e0sn e0sub e0ab e0col e0dd e0m0 e0m1 e0m2 e0m3 e0m5 "ValueError.__new__"))
    (e0sa : PySem.W.findIn K (.ref CT) "__setattr__" = some (some (.builtin "object.__setattr__")))
    (e0ga : PySem.W.findIn K (.ref CT) "__getattribute__" = some (some (.builtin "BaseException.__getattribute__")))
    (e0gg : PySem.W.findIn K (.ref CT) "__getattr__" = some none)
    (e0nb : PySem.W.findIn K (.ref CT) "row" = some none)
    (e0i : PySem.W.findIn K (.ref CT) "__init__" = some (some (.ref e0f)))
    (e0t : PySem.W.typeIn K (.ref e0f) = some (.type "function"))
    (e0l : K.lookup e0f = some ⟨e0oc, e0od, .func (PySem.W.fnOf "__init__" "BadText.__init__" (PySem.BadTextX.iA ⟨15, 17, 15, 21⟩ ⟨15, 23, 15, 26⟩) (PySem.BadTextX.iB ⟨16, 8, 16, 12⟩ ⟨16, 8, 16, 16⟩ ⟨16, 19, 16, 22⟩ ⟨16, 8, 16, 22⟩) PySem.BadTextX.iS .none .none e0dc e0pm e0an e0cd e0ct), e0sl⟩)
    (e0c : PySem.W.codeIn K e0cd "BadText.__init__" = true)
    (e0k : PySem.W.keepIn K (.ref CT) = true)
    (e0e : PySem.W.subIn K (.ref CT) (.type "BaseException") = some true)
    (e0ty : PySem.W.typeIn K (.ref CT) = some (.type "type"))
    (e0hd : PySem.W.hasDictIn K CT = true)
    (e0ic : PySem.W.isClsIn K CT = true)
    (e0ss : PySem.W.subIn K (.ref CT) (.ref CT) = some true)
    (e1a : PySem.W.nsIn K mainGlobals "TooMany" = some (some (.ref CM)))
    (e1x : K.lookup CM = some (excClassObj e1nm e1q CM e1N e1bs [.type "OverflowError", .type "ArithmeticError", .type "Exception", .type "BaseException", .type "object"] true e1sn e1sub e1ab e1col e1dd e1m0 e1m1 e1m2 e1m3 e1m5 "OverflowError.__new__"))
    (e1sa : PySem.W.findIn K (.ref CM) "__setattr__" = some (some (.builtin "object.__setattr__")))
    (e1ga : PySem.W.findIn K (.ref CM) "__getattribute__" = some (some (.builtin "BaseException.__getattribute__")))
    (e1gg : PySem.W.findIn K (.ref CM) "__getattr__" = some none)
    (e1nb : PySem.W.findIn K (.ref CM) "limit" = some none)
    (e1i : PySem.W.findIn K (.ref CM) "__init__" = some (some (.ref e1f)))
    (e1t : PySem.W.typeIn K (.ref e1f) = some (.type "function"))
    (e1l : K.lookup e1f = some ⟨e1oc, e1od, .func (PySem.W.fnOf "__init__" "TooMany.__init__" (PySem.TooManyX.iA ⟨35, 17, 35, 21⟩ ⟨35, 23, 35, 28⟩) (PySem.TooManyX.iB ⟨36, 8, 36, 12⟩ ⟨36, 8, 36, 18⟩ ⟨36, 21, 36, 26⟩ ⟨36, 8, 36, 26⟩) PySem.TooManyX.iS .none .none e1dc e1pm e1an e1cd e1ct), e1sl⟩)
    (e1c : PySem.W.codeIn K e1cd "TooMany.__init__" = true)
    (e1k : PySem.W.keepIn K (.ref CM) = true)
    (e1e : PySem.W.subIn K (.ref CM) (.type "BaseException") = some true)
    (e1ty : PySem.W.typeIn K (.ref CM) = some (.type "type"))
    (e1hd : PySem.W.hasDictIn K CM = true)
    (e1ic : PySem.W.isClsIn K CM = true)
    (e1ss : PySem.W.subIn K (.ref CM) (.ref CM) = some true)
    (zLon : PySem.W.nsIn K mainGlobals "LONGEST_NAME" = some (some (.int 8 tk2)))
    (zMN : PySem.W.nsIn K mainGlobals "MOST_NAMES" = some (some (.int 10 tk3)))
    (zMT : PySem.W.nsIn K mainGlobals "MOST_TARGET_NAMES" = some (some (.int 8 tk4)))
    (zMD : PySem.W.nsIn K mainGlobals "MOST_DIGITS" = some (some (.int 12 tk5)))
    (zGC : PySem.W.nsIn K mainGlobals "GREATEST_CONTENT" = some (some (.int 999999999999 tk6)))
    (zDG : PySem.W.nsIn K mainGlobals "DIGITS" = some (some (.str "0123456789" tk7)))
    (z_isinstance : PySem.W.nsIn K mainGlobals "isinstance" = some none)
    (z_str : PySem.W.nsIn K mainGlobals "str" = some none)
    (z_len : PySem.W.nsIn K mainGlobals "len" = some none)
    (z_all : PySem.W.nsIn K mainGlobals "all" = some none)
    (z_any : PySem.W.nsIn K mainGlobals "any" = some none)
    (z_tuple : PySem.W.nsIn K mainGlobals "tuple" = some none)
    (z_list : PySem.W.nsIn K mainGlobals "list" = some none)
    (z_dict : PySem.W.nsIn K mainGlobals "dict" = some none)
    (z_sorted : PySem.W.nsIn K mainGlobals "sorted" = some none)
    (z_range : PySem.W.nsIn K mainGlobals "range" = some none)
    (z_abs : PySem.W.nsIn K mainGlobals "abs" = some none)
    (z_int : PySem.W.nsIn K mainGlobals "int" = some none)
    (z_bool : PySem.W.nsIn K mainGlobals "bool" = some none)
    (z_repr : PySem.W.nsIn K mainGlobals "repr" = some none)
    (z_max : PySem.W.nsIn K mainGlobals "max" = some none)
    (z_min : PySem.W.nsIn K mainGlobals "min" = some none)
    (z_ValueError : PySem.W.nsIn K mainGlobals "ValueError" = some none)
    (z_OverflowError : PySem.W.nsIn K mainGlobals "OverflowError" = some none)
    (a1 : PySem.W.nsIn K mainGlobals "is_name" = some (some (.ref f1)))
    (l1 : K.lookup f1 = some ⟨oc1, od1, .func (PySem.W.fnOf "is_name" "is_name" (defArgs s_is_name) (defBody s_is_name) (defScope s_is_name) .none kV1 dc1 pm1 an1 cd1 ct1), sl1⟩)
    (c1 : PySem.W.codeIn K cd1 "is_name" = true)
    (k1 : PySem.W.keepIn K (.ref f1) = true)
    (a2 : PySem.W.nsIn K mainGlobals "is_path" = some (some (.ref f2)))
    (l2 : K.lookup f2 = some ⟨oc2, od2, .func (PySem.W.fnOf "is_path" "is_path" (defArgs s_is_path) (defBody s_is_path) (defScope s_is_path) .none kV2 dc2 pm2 an2 cd2 ct2), sl2⟩)
    (c2 : PySem.W.codeIn K cd2 "is_path" = true)
    (k2 : PySem.W.keepIn K (.ref f2) = true)
    (a3 : PySem.W.nsIn K mainGlobals "check_path" = some (some (.ref f3)))
    (l3 : K.lookup f3 = some ⟨oc3, od3, .func (PySem.W.fnOf "check_path" "check_path" (defArgs s_check_path) (defBody s_check_path) (defScope s_check_path) .none kV3 dc3 pm3 an3 cd3 ct3), sl3⟩)
    (c3 : PySem.W.codeIn K cd3 "check_path" = true)
    (k3 : PySem.W.keepIn K (.ref f3) = true)
    (a4 : PySem.W.nsIn K mainGlobals "parent" = some (some (.ref f4)))
    (l4 : K.lookup f4 = some ⟨oc4, od4, .func (PySem.W.fnOf "parent" "parent" (defArgs s_parent) (defBody s_parent) (defScope s_parent) .none kV4 dc4 pm4 an4 cd4 ct4), sl4⟩)
    (c4 : PySem.W.codeIn K cd4 "parent" = true)
    (k4 : PySem.W.keepIn K (.ref f4) = true)
    (a5 : PySem.W.nsIn K mainGlobals "in_order" = some (some (.ref f5)))
    (l5 : K.lookup f5 = some ⟨oc5, od5, .func (PySem.W.fnOf "in_order" "in_order" (defArgs s_in_order) (defBody s_in_order) (defScope s_in_order) .none kV5 dc5 pm5 an5 cd5 ct5), sl5⟩)
    (c5 : PySem.W.codeIn K cd5 "in_order" = true)
    (k5 : PySem.W.keepIn K (.ref f5) = true)
    (a6 : PySem.W.nsIn K mainGlobals "split_path" = some (some (.ref f6)))
    (l6 : K.lookup f6 = some ⟨oc6, od6, .func (PySem.W.fnOf "split_path" "split_path" (defArgs s_split_path) (defBody s_split_path) (defScope s_split_path) .none kV6 dc6 pm6 an6 cd6 ct6), sl6⟩)
    (c6 : PySem.W.codeIn K cd6 "split_path" = true)
    (k6 : PySem.W.keepIn K (.ref f6) = true)
    (a7 : PySem.W.nsIn K mainGlobals "order_key" = some (some (.ref f7)))
    (l7 : K.lookup f7 = some ⟨oc7, od7, .func (PySem.W.fnOf "order_key" "order_key" (defArgs s_order_key) (defBody s_order_key) (defScope s_order_key) .none kV7 dc7 pm7 an7 cd7 ct7), sl7⟩)
    (c7 : PySem.W.codeIn K cd7 "order_key" = true)
    (k7 : PySem.W.keepIn K (.ref f7) = true)
    (a8 : PySem.W.nsIn K mainGlobals "beginnings" = some (some (.ref f8)))
    (l8 : K.lookup f8 = some ⟨oc8, od8, .func (PySem.W.fnOf "beginnings" "beginnings" (defArgs s_beginnings) (defBody s_beginnings) (defScope s_beginnings) .none kV8 dc8 pm8 an8 cd8 ct8), sl8⟩)
    (c8 : PySem.W.codeIn K cd8 "beginnings" = true)
    (k8 : PySem.W.keepIn K (.ref f8) = true)
    (a9 : PySem.W.nsIn K mainGlobals "is_content" = some (some (.ref f9)))
    (l9 : K.lookup f9 = some ⟨oc9, od9, .func (PySem.W.fnOf "is_content" "is_content" (defArgs s_is_content) (defBody s_is_content) (defScope s_is_content) .none kV9 dc9 pm9 an9 cd9 ct9), sl9⟩)
    (c9 : PySem.W.codeIn K cd9 "is_content" = true)
    (k9 : PySem.W.keepIn K (.ref f9) = true)
    (a10 : PySem.W.nsIn K mainGlobals "is_target" = some (some (.ref f10)))
    (l10 : K.lookup f10 = some ⟨oc10, od10, .func (PySem.W.fnOf "is_target" "is_target" (defArgs s_is_target) (defBody s_is_target) (defScope s_is_target) .none kV10 dc10 pm10 an10 cd10 ct10), sl10⟩)
    (c10 : PySem.W.codeIn K cd10 "is_target" = true)
    (k10 : PySem.W.keepIn K (.ref f10) = true)
    (a11 : PySem.W.nsIn K mainGlobals "is_place" = some (some (.ref f11)))
    (l11 : K.lookup f11 = some ⟨oc11, od11, .func (PySem.W.fnOf "is_place" "is_place" (defArgs s_is_place) (defBody s_is_place) (defScope s_is_place) .none kV11 dc11 pm11 an11 cd11 ct11), sl11⟩)
    (c11 : PySem.W.codeIn K cd11 "is_place" = true)
    (k11 : PySem.W.keepIn K (.ref f11) = true)
    (a12 : PySem.W.nsIn K mainGlobals "is_item" = some (some (.ref f12)))
    (l12 : K.lookup f12 = some ⟨oc12, od12, .func (PySem.W.fnOf "is_item" "is_item" (defArgs s_is_item) (defBody s_is_item) (defScope s_is_item) .none kV12 dc12 pm12 an12 cd12 ct12), sl12⟩)
    (c12 : PySem.W.codeIn K cd12 "is_item" = true)
    (k12 : PySem.W.keepIn K (.ref f12) = true)
    (a13 : PySem.W.nsIn K mainGlobals "check_entries" = some (some (.ref f13)))
    (l13 : K.lookup f13 = some ⟨oc13, od13, .func (PySem.W.fnOf "check_entries" "check_entries" (defArgs s_check_entries) (defBody s_check_entries) (defScope s_check_entries) .none kV13 dc13 pm13 an13 cd13 ct13), sl13⟩)
    (c13 : PySem.W.codeIn K cd13 "check_entries" = true)
    (k13 : PySem.W.keepIn K (.ref f13) = true)
    (a14 : PySem.W.nsIn K mainGlobals "lies_below_leaf" = some (some (.ref f14)))
    (l14 : K.lookup f14 = some ⟨oc14, od14, .func (PySem.W.fnOf "lies_below_leaf" "lies_below_leaf" (defArgs s_lies_below_leaf) (defBody s_lies_below_leaf) (defScope s_lies_below_leaf) .none kV14 dc14 pm14 an14 cd14 ct14), sl14⟩)
    (c14 : PySem.W.codeIn K cd14 "lies_below_leaf" = true)
    (k14 : PySem.W.keepIn K (.ref f14) = true)
    (a15 : PySem.W.nsIn K mainGlobals "with_parents" = some (some (.ref f15)))
    (l15 : K.lookup f15 = some ⟨oc15, od15, .func (PySem.W.fnOf "with_parents" "with_parents" (defArgs s_with_parents) (defBody s_with_parents) (defScope s_with_parents) .none kV15 dc15 pm15 an15 cd15 ct15), sl15⟩)
    (c15 : PySem.W.codeIn K cd15 "with_parents" = true)
    (k15 : PySem.W.keepIn K (.ref f15) = true)
    (a16 : PySem.W.nsIn K mainGlobals "content_of" = some (some (.ref f16)))
    (l16 : K.lookup f16 = some ⟨oc16, od16, .func (PySem.W.fnOf "content_of" "content_of" (defArgs s_content_of) (defBody s_content_of) (defScope s_content_of) .none kV16 dc16 pm16 an16 cd16 ct16), sl16⟩)
    (c16 : PySem.W.codeIn K cd16 "content_of" = true)
    (k16 : PySem.W.keepIn K (.ref f16) = true)
    (a17 : PySem.W.nsIn K mainGlobals "target_of" = some (some (.ref f17)))
    (l17 : K.lookup f17 = some ⟨oc17, od17, .func (PySem.W.fnOf "target_of" "target_of" (defArgs s_target_of) (defBody s_target_of) (defScope s_target_of) .none kV17 dc17 pm17 an17 cd17 ct17), sl17⟩)
    (c17 : PySem.W.codeIn K cd17 "target_of" = true)
    (k17 : PySem.W.keepIn K (.ref f17) = true)
    (a18 : PySem.W.nsIn K mainGlobals "entry_of" = some (some (.ref f18)))
    (l18 : K.lookup f18 = some ⟨oc18, od18, .func (PySem.W.fnOf "entry_of" "entry_of" (defArgs s_entry_of) (defBody s_entry_of) (defScope s_entry_of) .none kV18 dc18 pm18 an18 cd18 ct18), sl18⟩)
    (c18 : PySem.W.codeIn K cd18 "entry_of" = true)
    (k18 : PySem.W.keepIn K (.ref f18) = true)
    (a19 : PySem.W.nsIn K mainGlobals "entries_of" = some (some (.ref f19)))
    (l19 : K.lookup f19 = some ⟨oc19, od19, .func (PySem.W.fnOf "entries_of" "entries_of" (defArgs s_entries_of) (defBody s_entries_of) (defScope s_entries_of) .none kV19 dc19 pm19 an19 cd19 ct19), sl19⟩)
    (c19 : PySem.W.codeIn K cd19 "entries_of" = true)
    (k19 : PySem.W.keepIn K (.ref f19) = true)
    (a20 : PySem.W.nsIn K mainGlobals "continues" = some (some (.ref f20)))
    (l20 : K.lookup f20 = some ⟨oc20, od20, .func (PySem.W.fnOf "continues" "continues" (defArgs s_continues) (defBody s_continues) (defScope s_continues) .none kV20 dc20 pm20 an20 cd20 ct20), sl20⟩)
    (c20 : PySem.W.codeIn K cd20 "continues" = true)
    (k20 : PySem.W.keepIn K (.ref f20) = true)
    (a21 : PySem.W.nsIn K mainGlobals "row_of" = some (some (.ref f21)))
    (l21 : K.lookup f21 = some ⟨oc21, od21, .func (PySem.W.fnOf "row_of" "row_of" (defArgs s_row_of) (defBody s_row_of) (defScope s_row_of) .none kV21 dc21 pm21 an21 cd21 ct21), sl21⟩)
    (c21 : PySem.W.codeIn K cd21 "row_of" = true)
    (k21 : PySem.W.keepIn K (.ref f21) = true)
    (a22 : PySem.W.nsIn K mainGlobals "written_path" = some (some (.ref f22)))
    (l22 : K.lookup f22 = some ⟨oc22, od22, .func (PySem.W.fnOf "written_path" "written_path" (defArgs s_written_path) (defBody s_written_path) (defScope s_written_path) .none kV22 dc22 pm22 an22 cd22 ct22), sl22⟩)
    (c22 : PySem.W.codeIn K cd22 "written_path" = true)
    (k22 : PySem.W.keepIn K (.ref f22) = true)
    (a23 : PySem.W.nsIn K mainGlobals "_law_bag" = some (some (.ref f23)))
    (l23 : K.lookup f23 = some ⟨oc23, od23, .func (PySem.W.fnOf "_law_bag" "_law_bag" (defArgs s__law_bag) (defBody s__law_bag) (defScope s__law_bag) .none kV23 dc23 pm23 an23 cd23 ct23), sl23⟩)
    (c23 : PySem.W.codeIn K cd23 "_law_bag" = true)
    (k23 : PySem.W.keepIn K (.ref f23) = true)
    (a24 : PySem.W.nsIn K mainGlobals "_law_take" = some (some (.ref f24)))
    (l24 : K.lookup f24 = some ⟨oc24, od24, .func (PySem.W.fnOf "_law_take" "_law_take" (defArgs s__law_take) (defBody s__law_take) (defScope s__law_take) .none kV24 dc24 pm24 an24 cd24 ct24), sl24⟩)
    (c24 : PySem.W.codeIn K cd24 "_law_take" = true)
    (k24 : PySem.W.keepIn K (.ref f24) = true)
    (a25 : PySem.W.nsIn K mainGlobals "_law_pick" = some (some (.ref f25)))
    (l25 : K.lookup f25 = some ⟨oc25, od25, .func (PySem.W.fnOf "_law_pick" "_law_pick" (defArgs s__law_pick) (defBody s__law_pick) (defScope s__law_pick) .none kV25 dc25 pm25 an25 cd25 ct25), sl25⟩)
    (c25 : PySem.W.codeIn K cd25 "_law_pick" = true)
    (k25 : PySem.W.keepIn K (.ref f25) = true)
    (a26 : PySem.W.nsIn K mainGlobals "_law_pool" = some (some (.ref f26)))
    (l26 : K.lookup f26 = some ⟨oc26, od26, .func (PySem.W.fnOf "_law_pool" "_law_pool" (defArgs s__law_pool) (defBody s__law_pool) (defScope s__law_pool) .none kV26 dc26 pm26 an26 cd26 ct26), sl26⟩)
    (c26 : PySem.W.codeIn K cd26 "_law_pool" = true)
    (k26 : PySem.W.keepIn K (.ref f26) = true)
    (a27 : PySem.W.nsIn K mainGlobals "_law_path" = some (some (.ref f27)))
    (l27 : K.lookup f27 = some ⟨oc27, od27, .func (PySem.W.fnOf "_law_path" "_law_path" (defArgs s__law_path) (defBody s__law_path) (defScope s__law_path) .none kV27 dc27 pm27 an27 cd27 ct27), sl27⟩)
    (c27 : PySem.W.codeIn K cd27 "_law_path" = true)
    (k27 : PySem.W.keepIn K (.ref f27) = true)
    (a28 : PySem.W.nsIn K mainGlobals "_law_starts" = some (some (.ref f28)))
    (l28 : K.lookup f28 = some ⟨oc28, od28, .func (PySem.W.fnOf "_law_starts" "_law_starts" (defArgs s__law_starts) (defBody s__law_starts) (defScope s__law_starts) .none kV28 dc28 pm28 an28 cd28 ct28), sl28⟩)
    (c28 : PySem.W.codeIn K cd28 "_law_starts" = true)
    (k28 : PySem.W.keepIn K (.ref f28) = true)
    (a29 : PySem.W.nsIn K mainGlobals "_law_added" = some (some (.ref f29)))
    (l29 : K.lookup f29 = some ⟨oc29, od29, .func (PySem.W.fnOf "_law_added" "_law_added" (defArgs s__law_added) (defBody s__law_added) (defScope s__law_added) .none kV29 dc29 pm29 an29 cd29 ct29), sl29⟩)
    (c29 : PySem.W.codeIn K cd29 "_law_added" = true)
    (k29 : PySem.W.keepIn K (.ref f29) = true)
    (a30 : PySem.W.nsIn K mainGlobals "_law_key" = some (some (.ref f30)))
    (l30 : K.lookup f30 = some ⟨oc30, od30, .func (PySem.W.fnOf "_law_key" "_law_key" (defArgs s__law_key) (defBody s__law_key) (defScope s__law_key) .none kV30 dc30 pm30 an30 cd30 ct30), sl30⟩)
    (c30 : PySem.W.codeIn K cd30 "_law_key" = true)
    (k30 : PySem.W.keepIn K (.ref f30) = true)
    (a31 : PySem.W.nsIn K mainGlobals "_law_row" = some (some (.ref f31)))
    (l31 : K.lookup f31 = some ⟨oc31, od31, .func (PySem.W.fnOf "_law_row" "_law_row" (defArgs s__law_row) (defBody s__law_row) (defScope s__law_row) .none kV31 dc31 pm31 an31 cd31 ct31), sl31⟩)
    (c31 : PySem.W.codeIn K cd31 "_law_row" = true)
    (k31 : PySem.W.keepIn K (.ref f31) = true)
    (a32 : PySem.W.nsIn K mainGlobals "_law_text" = some (some (.ref f32)))
    (l32 : K.lookup f32 = some ⟨oc32, od32, .func (PySem.W.fnOf "_law_text" "_law_text" (defArgs s__law_text) (defBody s__law_text) (defScope s__law_text) .none kV32 dc32 pm32 an32 cd32 ct32), sl32⟩)
    (c32 : PySem.W.codeIn K cd32 "_law_text" = true)
    (k32 : PySem.W.keepIn K (.ref f32) = true)
    (a33 : PySem.W.nsIn K mainGlobals "_law_item" = some (some (.ref f33)))
    (l33 : K.lookup f33 = some ⟨oc33, od33, .func (PySem.W.fnOf "_law_item" "_law_item" (defArgs s__law_item) (defBody s__law_item) (defScope s__law_item) .none kV33 dc33 pm33 an33 cd33 ct33), sl33⟩)
    (c33 : PySem.W.codeIn K cd33 "_law_item" = true)
    (k33 : PySem.W.keepIn K (.ref f33) = true)
    (a34 : PySem.W.nsIn K mainGlobals "_law_entries" = some (some (.ref f34)))
    (l34 : K.lookup f34 = some ⟨oc34, od34, .func (PySem.W.fnOf "_law_entries" "_law_entries" (defArgs s__law_entries) (defBody s__law_entries) (defScope s__law_entries) .none kV34 dc34 pm34 an34 cd34 ct34), sl34⟩)
    (c34 : PySem.W.codeIn K cd34 "_law_entries" = true)
    (k34 : PySem.W.keepIn K (.ref f34) = true)
    (a35 : PySem.W.nsIn K mainGlobals "law" = some (some (.ref f35)))
    (l35 : K.lookup f35 = some ⟨oc35, od35, .func (PySem.W.fnOf "law" "law" (defArgs s_law) (defBody s_law) (defScope s_law) .none kV35 dc35 pm35 an35 cd35 ct35), sl35⟩)
    (c35 : PySem.W.codeIn K cd35 "law" = true)
    (k35 : PySem.W.keepIn K (.ref f35) = true)
    (aK : PySem.W.nsIn K mainGlobals "Package" = some (some (.ref CK)))
    (pg : PySem.W.plainGet K CK Str.empty = true)
    (hd : PySem.W.hasDictIn K CK = true)
    (po : PySem.W.plainOver K CK = true)
    (saK : PySem.W.findIn K (.ref CK) "__setattr__" = some (some (.builtin "object.__setattr__")))
    (mkK : PySem.W.makesIn K CK = true)
    (kcK : PySem.W.keepIn K (.ref CK) = true)
    (nE : PySem.W.findIn K (.ref CK) "entries" = some none)
    (aL : PySem.W.findIn K (.ref CK) "LIMIT" = some (some (.int 40 tkL)))
    (gL : PySem.W.specialIn K (.int 40 tkL) "__get__" = some none)
    (aI : PySem.W.findIn K (.ref CK) "__init__" = some (some (.ref fI)))
    (iI : PySem.W.isFn K (.ref fI) = true)
    (lI : K.lookup fI = some ⟨ocI, odI, .func (PySem.W.fnOf "__init__" "Package.__init__" (defArgs s_init) (defBody s_init) (defScope s_init) (.ref TD) kVI dcI pmI anI cdI ctI), slI⟩)
    (cI : PySem.W.codeIn K cdI "Package.__init__" = true)
    (kI : PySem.W.keepIn K (.ref fI) = true)
    (lT : K.lookup TD = some ⟨ocT, odT, .seq #[.none] nT, slT⟩)
    (aLn : PySem.W.findIn K (.ref CK) "__str__" = some (some (.ref gN)))
    (iLn : PySem.W.isFn K (.ref gN) = true)
    (lLn : K.lookup gN = some ⟨ocN, odN, .func (PySem.W.fnOf "__str__" "Package.__str__" (defArgs s_str) (defBody s_str) (defScope s_str) .none kVN dcN pmN anN cdN ctN), slN⟩)
    (cLn : PySem.W.codeIn K cdN "Package.__str__" = true)
    (kLn : PySem.W.keepIn K (.ref gN) = true)
    (rdK : PySem.W.readsIn K CK (.type "type") = true)
    (gaK : PySem.W.specialIn K (.ref CK) "__getattribute__" = some (some (.builtin "type.__getattribute__")))
    (aF : PySem.W.findCls K (.ref CK) (.type "type") "from_text" = some (.get (.builtin "classmethod.__get__") (.ref pF) .none (.ref CK)))
    (rF : PySem.W.recIn K pF "classmethod" = some (.ref gF :: rsF))
    (fF : PySem.W.fnIn K gF = true)
    (lF : K.lookup gF = some ⟨ocF, odF, .func (PySem.W.fnOf "from_text" "Package.from_text" (defArgs s_from) (defBody s_from) (defScope s_from) .none kVF dcF pmF anF cdF ctF), slF⟩)
    (cF : PySem.W.codeIn K cdF "Package.from_text" = true)
    (kF : PySem.W.keepIn K (.ref gF) = true)
    (qLa : PySem.W.findIn K (.ref CK) "__len__" = some (some (.ref uL)))
    (qLi : PySem.W.isFn K (.ref uL) = true)
    (qLl : K.lookup uL = some ⟨ocL, odL, .func (PySem.W.fnOf "__len__" "Package.__len__" (defArgs s_len) (defBody s_len) (defScope s_len) .none kVL dcL pmL anL cdL ctL), slL⟩)
    (qLc : PySem.W.codeIn K cdL "Package.__len__" = true)
    (qLk : PySem.W.keepIn K (.ref uL) = true)
    (qEa : PySem.W.findIn K (.ref CK) "__eq__" = some (some (.ref uE)))
    (qEi : PySem.W.isFn K (.ref uE) = true)
    (qEl : K.lookup uE = some ⟨ocE, odE, .func (PySem.W.fnOf "__eq__" "Package.__eq__" (defArgs s_eq) (defBody s_eq) (defScope s_eq) .none kVE dcE pmE anE cdE ctE), slE⟩)
    (qEc : PySem.W.codeIn K cdE "Package.__eq__" = true)
    (qEk : PySem.W.keepIn K (.ref uE) = true)
    (qGa : PySem.W.findIn K (.ref CK) "items" = some (some (.ref uG)))
    (qGi : PySem.W.isFn K (.ref uG) = true)
    (qGl : K.lookup uG = some ⟨ocG, odG, .func (PySem.W.fnOf "items" "Package.items" (defArgs s_items) (defBody s_items) (defScope s_items) .none kVG dcG pmG anG cdG ctG), slG⟩)
    (qGc : PySem.W.codeIn K cdG "Package.items" = true)
    (qGk : PySem.W.keepIn K (.ref uG) = true)
    (qNe : PySem.W.findIn K (.ref CK) "__ne__" = some (some (.builtin "object.__ne__")))
    (qOe : PySem.W.subIn K (.ref CK) (.type "object") = some true)
    (hnN : PySem.W.specialIn K (.builtin "object.__class__") "__get__" = some (some (.builtin "getset_descriptor.__get__")))
    (htN : PySem.W.takesIn K (.builtin "object.__class__") = some true)
    (haK : PySem.W.findIn K (.ref CK) "__class__" = some (some (.builtin "object.__class__")))
    (hmK : PySem.W.mroIn K CK (.type "object") = some true)
    (kCK : PySem.W.kitOne K (.ref CK) (.ref CK) = some true)
    (x0a : PySem.W.nsIn K mainGlobals "is_integer" = some (some (.ref x0f)))
    (x0l : K.lookup x0f = some ⟨x0oc, x0od, .func (PySem.W.fnOf "is_integer" "is_integer" (defArgs s_is_integer) (defBody s_is_integer) (defScope s_is_integer) .none x0kV x0dc x0pm x0an x0cd x0ct), x0sl⟩)
    (x0c : PySem.W.codeIn K x0cd "is_integer" = true)
    (x0k : PySem.W.keepIn K (.ref x0f) = true)
    (x1a : PySem.W.nsIn K mainGlobals "solid_entries" = some (some (.ref x1f)))
    (x1l : K.lookup x1f = some ⟨x1oc, x1od, .func (PySem.W.fnOf "solid_entries" "solid_entries" (defArgs s_solid_entries) (defBody s_solid_entries) (defScope s_solid_entries) .none x1kV x1dc x1pm x1an x1cd x1ct), x1sl⟩)
    (x1c : PySem.W.codeIn K x1cd "solid_entries" = true)
    (x1k : PySem.W.keepIn K (.ref x1f) = true)
    (x2a : PySem.W.nsIn K mainGlobals "names_within" = some (some (.ref x2f)))
    (x2l : K.lookup x2f = some ⟨x2oc, x2od, .func (PySem.W.fnOf "names_within" "names_within" (defArgs s_names_within) (defBody s_names_within) (defScope s_names_within) .none x2kV x2dc x2pm x2an x2cd x2ct), x2sl⟩)
    (x2c : PySem.W.codeIn K x2cd "names_within" = true)
    (x2k : PySem.W.keepIn K (.ref x2f) = true)
    (naS : PySem.W.findIn K (.ref CK) "solid" = some none)
    (naR : PySem.W.findIn K (.ref CK) "rooms" = some none)
    (naT : PySem.W.findIn K (.ref CK) "token" = some none)
    (naN : PySem.W.findIn K (.ref CK) "notes" = some none)
    (ta : PySem.W.nsIn K mainGlobals "Token" = some (some (.ref CTk)))
    (tm : PySem.W.makesIn K CTk = true)
    (ti : PySem.W.findIn K (.ref CTk) "__init__" = some (some (.builtin "object.__init__")))
    (tk : PySem.W.keepIn K (.ref CTk) = true)
    (na : PySem.W.nsIn K mainGlobals "Notebook" = some (some (.ref CNb)))
    (nm : PySem.W.makesIn K CNb = true)
    (ni : PySem.W.findIn K (.ref CNb) "__init__" = some (some (.ref fNb)))
    (nf : PySem.W.isFn K (.ref fNb) = true)
    (nk : PySem.W.keepIn K (.ref CNb) = true)
    (nl : K.lookup fNb = some ⟨ocNb, odNb, .func (PySem.W.fnOf "__init__" "Notebook.__init__" (defArgs s_ninit) (defBody s_ninit) (defScope s_ninit) .none kVNb dcNb pmNb anNb cdNb ctNb), slNb⟩)
    (nc : PySem.W.codeIn K cdNb "Notebook.__init__" = true)
    (nkf : PySem.W.keepIn K (.ref fNb) = true)
    (npg : PySem.W.plainGet K CNb Str.empty = true)
    (nhd : PySem.W.hasDictIn K CNb = true)
    (npo : PySem.W.plainOver K CNb = true)
    (nsa : PySem.W.findIn K (.ref CNb) "__setattr__" = some (some (.builtin "object.__setattr__")))
    (nrw : PySem.W.findIn K (.ref CNb) "rows" = some none) :
    ∃ fd : FuncData, (∀ (s : Shared) (u : Value), BindsTo s fd ⟨[u], []⟩ [("_law_script", u)]) ∧ ∀ base : Heap, K.In base → base.Ns mainGlobals mg → FnOk P w K mg base CX0 13 fa fd ["_law_script"] (spLaw K) := by
  have e := hfa.symm.trans (PySem.W.mg_of X G a35)
  cases e
  have low : PySem.BadTextX.RowTxt K mg CT e0f :=
    { gC := PySem.W.mg_of X G e0a, cls := ⟨_, _, _, _, _, _, _, _, _, _, _, _, _, _, _, e0x, by decide +kernel⟩, sa := e0sa, ga := e0ga, gg := e0gg, noN := e0nb, iC := e0i, tC := e0t, kC := e0k, exC := e0e, tyC := e0ty, hdC := e0hd, te := exm_of e0e e0ic e0ty e0ss,
      fn := ⟨_, _, _, _, _, _, _, _, _, _, _, _, _, _, e0l, e0c⟩ }
  have many : PySem.TooManyX.ManyTxt K mg CM e1f :=
    { gC := PySem.W.mg_of X G e1a, cls := ⟨_, _, _, _, _, _, _, _, _, _, _, _, _, _, _, e1x, rfl⟩, sa := e1sa, ga := e1ga, gg := e1gg, noN := e1nb, iC := e1i, tC := e1t, kC := e1k, exC := e1e, tyC := e1ty, hdC := e1hd, te := exm_of e1e e1ic e1ty e1ss,
      fn := ⟨_, _, _, _, _, _, _, _, _, _, _, _, _, _, e1l, e1c⟩ }
  have T : Txt K mg tk2 tk2 := ⟨PySem.W.mg_of X G zLon, PySem.W.mg_none_of X G z_isinstance, PySem.W.mg_none_of X G z_str, PySem.W.mg_none_of X G z_len, PySem.W.mg_none_of X G z_all, PySem.W.mg_none_of X G z_any, PySem.W.mg_none_of X G z_tuple, PySem.W.mg_none_of X G z_list, PySem.W.mg_none_of X G z_dict, PySem.W.mg_none_of X G z_sorted, PySem.W.mg_none_of X G z_range, PySem.W.mg_none_of X G z_abs, PySem.W.mg_none_of X G z_int, PySem.W.mg_none_of X G z_bool, PySem.W.mg_none_of X G z_repr, PySem.W.mg_none_of X G z_max, PySem.W.mg_none_of X G z_min, PySem.W.mg_none_of X G z_ValueError, PySem.W.mg_none_of X G z_OverflowError⟩
  have NU : Nums K mg := ⟨⟨tk3, PySem.W.mg_of X G zMN⟩, ⟨tk4, PySem.W.mg_of X G zMT⟩, ⟨tk5, PySem.W.mg_of X G zMD⟩, ⟨tk6, PySem.W.mg_of X G zGC⟩, ⟨tk7, PySem.W.mg_of X G zDG⟩⟩
  have cl : Cls K CK := ⟨pg, hd, po, saK⟩
  have PT : PkTxt K mg CK := ⟨cl, nE, PySem.W.mg_of X G aK, ⟨tkL, aL, ⟨_, rfl⟩, gL, by decide +kernel⟩, naS, naR, naT, naN⟩
  have x0F := fun_mk (st := s_is_integer) x0l x0c x0k
  have x0b := x0F.binds (ps := ["thing"]) fun _ _ _ _ _ _ us hl => match us, hl with | [_], _ => rfl
  have x1F := fun_mk (st := s_solid_entries) x1l x1c x1k
  have x1b := x1F.binds (ps := ["entries"]) fun _ _ _ _ _ _ us hl => match us, hl with | [_], _ => rfl
  have x2F := fun_mk (st := s_names_within) x2l x2c x2k
  have x2b := x2F.binds (ps := ["entries"]) fun _ _ _ _ _ _ us hl => match us, hl with | [_], _ => rfl
  have FNb := fun_mk (st := s_ninit) nl nc nkf
  have bNb := FNb.binds (ps := ["self"]) fun _ _ _ _ _ _ us hl => match us, hl with | [_], _ => rfl
  have F1 := fun_mk (st := s_is_name) l1 c1 k1
  have b1 := F1.binds (ps := ["thing"]) fun _ _ _ _ _ _ us hl => match us, hl with | [_], _ => rfl
  have F2 := fun_mk (st := s_is_path) l2 c2 k2
  have b2 := F2.binds (ps := ["thing"]) fun _ _ _ _ _ _ us hl => match us, hl with | [_], _ => rfl
  have F3 := fun_mk (st := s_check_path) l3 c3 k3
  have b3 := F3.binds (ps := ["path"]) fun _ _ _ _ _ _ us hl => match us, hl with | [_], _ => rfl
  have F4 := fun_mk (st := s_parent) l4 c4 k4
  have b4 := F4.binds (ps := ["path"]) fun _ _ _ _ _ _ us hl => match us, hl with | [_], _ => rfl
  have F5 := fun_mk (st := s_in_order) l5 c5 k5
  have b5 := F5.binds (ps := ["paths"]) fun _ _ _ _ _ _ us hl => match us, hl with | [_], _ => rfl
  have F6 := fun_mk (st := s_split_path) l6 c6 k6
  have b6 := F6.binds (ps := ["path"]) fun _ _ _ _ _ _ us hl => match us, hl with | [_], _ => rfl
  have F7 := fun_mk (st := s_order_key) l7 c7 k7
  have b7 := F7.binds (ps := ["path"]) fun _ _ _ _ _ _ us hl => match us, hl with | [_], _ => rfl
  have F8 := fun_mk (st := s_beginnings) l8 c8 k8
  have b8 := F8.binds (ps := ["path"]) fun _ _ _ _ _ _ us hl => match us, hl with | [_], _ => rfl
  have F9 := fun_mk (st := s_is_content) l9 c9 k9
  have b9 := F9.binds (ps := ["thing"]) fun _ _ _ _ _ _ us hl => match us, hl with | [_], _ => rfl
  have F10 := fun_mk (st := s_is_target) l10 c10 k10
  have b10 := F10.binds (ps := ["thing"]) fun _ _ _ _ _ _ us hl => match us, hl with | [_], _ => rfl
  have F11 := fun_mk (st := s_is_place) l11 c11 k11
  have b11 := F11.binds (ps := ["thing"]) fun _ _ _ _ _ _ us hl => match us, hl with | [_], _ => rfl
  have F12 := fun_mk (st := s_is_item) l12 c12 k12
  have b12 := F12.binds (ps := ["thing"]) fun _ _ _ _ _ _ us hl => match us, hl with | [_], _ => rfl
  have F13 := fun_mk (st := s_check_entries) l13 c13 k13
  have b13 := F13.binds (ps := ["entries"]) fun _ _ _ _ _ _ us hl => match us, hl with | [_], _ => rfl
  have F14 := fun_mk (st := s_lies_below_leaf) l14 c14 k14
  have b14 := F14.binds (ps := ["entries", "path"]) fun _ _ _ _ _ _ us hl => match us, hl with | [_, _], _ => rfl
  have F15 := fun_mk (st := s_with_parents) l15 c15 k15
  have b15 := F15.binds (ps := ["entries"]) fun _ _ _ _ _ _ us hl => match us, hl with | [_], _ => rfl
  have F16 := fun_mk (st := s_content_of) l16 c16 k16
  have b16 := F16.binds (ps := ["word"]) fun _ _ _ _ _ _ us hl => match us, hl with | [_], _ => rfl
  have F17 := fun_mk (st := s_target_of) l17 c17 k17
  have b17 := F17.binds (ps := ["word"]) fun _ _ _ _ _ _ us hl => match us, hl with | [_], _ => rfl
  have F18 := fun_mk (st := s_entry_of) l18 c18 k18
  have b18 := F18.binds (ps := ["row"]) fun _ _ _ _ _ _ us hl => match us, hl with | [_], _ => rfl
  have F19 := fun_mk (st := s_entries_of) l19 c19 k19
  have b19 := F19.binds (ps := ["text"]) fun _ _ _ _ _ _ us hl => match us, hl with | [_], _ => rfl
  have F20 := fun_mk (st := s_continues) l20 c20 k20
  have b20 := F20.binds (ps := ["entries", "last", "path"]) fun _ _ _ _ _ _ us hl => match us, hl with | [_, _, _], _ => rfl
  have F21 := fun_mk (st := s_row_of) l21 c21 k21
  have b21 := F21.binds (ps := ["path", "item"]) fun _ _ _ _ _ _ us hl => match us, hl with | [_, _], _ => rfl
  have F22 := fun_mk (st := s_written_path) l22 c22 k22
  have b22 := F22.binds (ps := ["path"]) fun _ _ _ _ _ _ us hl => match us, hl with | [_], _ => rfl
  have F23 := fun_mk (st := s__law_bag) l23 c23 k23
  have b23 := F23.binds (ps := ["_law_script", "_law_at"]) fun _ _ _ _ _ _ us hl => match us, hl with | [_, _], _ => rfl
  have F24 := fun_mk (st := s__law_take) l24 c24 k24
  have b24 := F24.binds (ps := ["_law_bag_here", "_law_many"]) fun _ _ _ _ _ _ us hl => match us, hl with | [_, _], _ => rfl
  have F25 := fun_mk (st := s__law_pick) l25 c25 k25
  have b25 := F25.binds (ps := ["_law_bag_here", "_law_some"]) fun _ _ _ _ _ _ us hl => match us, hl with | [_, _], _ => rfl
  have F26 := fun_mk (st := s__law_pool) l26 c26 k26
  have b26 := F26.binds (ps := ["_law_bag_here"]) fun _ _ _ _ _ _ us hl => match us, hl with | [_], _ => rfl
  have F27 := fun_mk (st := s__law_path) l27 c27 k27
  have b27 := F27.binds (ps := ["_law_bag_here", "_law_pool_here", "_law_most"]) fun _ _ _ _ _ _ us hl => match us, hl with | [_, _, _], _ => rfl
  have F28 := fun_mk (st := s__law_starts) l28 c28 k28
  have b28 := F28.binds (ps := ["_law_path_here"]) fun _ _ _ _ _ _ us hl => match us, hl with | [_], _ => rfl
  have F29 := fun_mk (st := s__law_added) l29 c29 k29
  have b29 := F29.binds (ps := ["_law_entries_here", "_law_path_here", "_law_item_here"]) fun _ _ _ _ _ _ us hl => match us, hl with | [_, _, _], _ => rfl
  have F30 := fun_mk (st := s__law_key) l30 c30 k30
  have b30 := F30.binds (ps := ["_law_path_here"]) fun _ _ _ _ _ _ us hl => match us, hl with | [_], _ => rfl
  have F31 := fun_mk (st := s__law_row) l31 c31 k31
  have b31 := F31.binds (ps := ["_law_path_here", "_law_item_here"]) fun _ _ _ _ _ _ us hl => match us, hl with | [_, _], _ => rfl
  have F32 := fun_mk (st := s__law_text) l32 c32 k32
  have b32 := F32.binds (ps := ["_law_entries_here"]) fun _ _ _ _ _ _ us hl => match us, hl with | [_], _ => rfl
  have F33 := fun_mk (st := s__law_item) l33 c33 k33
  have b33 := F33.binds (ps := ["_law_bag_here", "_law_pool_here"]) fun _ _ _ _ _ _ us hl => match us, hl with | [_, _], _ => rfl
  have F34 := fun_mk (st := s__law_entries) l34 c34 k34
  have b34 := F34.binds (ps := ["_law_bag_here", "_law_pool_here"]) fun _ _ _ _ _ _ us hl => match us, hl with | [_, _], _ => rfl
  have F35 := fun_mk (st := s_law) l35 c35 k35
  have b35 := F35.binds (ps := ["_law_script"]) fun _ _ _ _ _ _ us hl => match us, hl with | [_], _ => rfl
  have FL := fun_mk (st := s_str) lLn cLn kLn
  have bL := FL.binds (ps := ["self"]) fun _ _ _ _ _ _ us hl => match us, hl with | [_], _ => rfl
  have FF := fun_mk (st := s_from) lF cF kF
  have bF := FF.binds (ps := ["cls", "text"]) fun _ _ _ _ _ _ us hl => match us, hl with | [_, _], _ => rfl
  have HL := fun_mk (st := s_len) qLl qLc qLk
  have hLb := HL.binds (ps := ["self"]) fun _ _ _ _ _ _ us hl => match us, hl with | [_], _ => rfl
  have HE := fun_mk (st := s_eq) qEl qEc qEk
  have hEb := HE.binds (ps := ["self", "other"]) fun _ _ _ _ _ _ us hl => match us, hl with | [_, _], _ => rfl
  have HG := fun_mk (st := s_items) qGl qGc qGk
  have hGb := HG.binds (ps := ["self"]) fun _ _ _ _ _ _ us hl => match us, hl with | [_], _ => rfl
  have FI : FunD K "__init__" "Package.__init__" (defArgs s_init) (defBody s_init) (defScope s_init) [.non] [] fI _ :=
    ⟨⟨_, _, _, _, _, _, _, _, _, _, rfl, lI, cI, Or.inr ⟨by simp, TD, _, [.none], nT, rfl, lT, rfl, .cons rfl .nil⟩, Or.inl rfl⟩, kI⟩
  obtain ⟨ds2, hds2, bI2⟩ := FI.binds1 (ps := ["self", "entries"]) 2 1 (by simp) rfl (fun T kV doc pm an cdv ct us its h1 h2 => match us, its, h1, h2 with | [_, _], [_], _, _ => ⟨_, rfl, rfl⟩)
  cases hds2
  obtain ⟨ds, hds, bI⟩ := FI.binds1 (ps := ["self", "entries"]) 1 0 (by simp) rfl (fun T kV doc pm an cdv ct us its h1 h2 => match us, its, h1, h2 with | [_], [_], _, _ => ⟨_, rfl, rfl⟩)
  refine ⟨_, fun s u => .of_eq (fd := PySem.W.fnOf "law" "law" (defArgs s_law) (defBody s_law) (defScope s_law) .none kV35 dc35 pm35 an35 cd35 ct35) rfl, fun base _ _ => ?_⟩
  have d1 : DefAt P w K mg base "is_name" _ f1 _ _ _ := ⟨ok_is_name F1 T, PySem.W.mg_of X G a1, k1, b1⟩
  have d2 : DefAt P w K mg base "is_path" _ f2 _ _ _ := ⟨ok_is_path F2 T d1, PySem.W.mg_of X G a2, k2, b2⟩
  have d3 : DefAt P w K mg base "check_path" _ f3 _ _ _ := ⟨ok_check_path F3 d2, PySem.W.mg_of X G a3, k3, b3⟩
  have d6 : DefAt P w K mg base "split_path" _ f6 _ _ _ := ⟨ok_split_path F6, PySem.W.mg_of X G a6, k6, b6⟩
  have d4 : DefAt P w K mg base "parent" _ f4 _ _ _ := ⟨ok_parent F4 d3, PySem.W.mg_of X G a4, k4, b4⟩
  have d7 : DefAt P w K mg base "order_key" _ f7 _ _ _ := ⟨ok_order_key F7 T d6, PySem.W.mg_of X G a7, k7, b7⟩
  have d5 : DefAt P w K mg base "in_order" _ f5 _ _ _ := ⟨ok_in_order F5 T d7, PySem.W.mg_of X G a5, k5, b5⟩
  have d8 : DefAt P w K mg base "beginnings" _ f8 _ _ _ := ⟨ok_beginnings F8 T d6, PySem.W.mg_of X G a8, k8, b8⟩
  have dx0 : DefAt P w K mg base "is_integer" _ x0f _ _ _ := ⟨ok_is_integer x0F T, PySem.W.mg_of X G x0a, x0k, x0b⟩
  have d9 : DefAt P w K mg base "is_content" _ f9 _ _ _ := ⟨ok_is_content F9 T NU dx0, PySem.W.mg_of X G a9, k9, b9⟩
  have d10 : DefAt P w K mg base "is_target" _ f10 _ _ _ := ⟨ok_is_target F10 T NU d2 d6, PySem.W.mg_of X G a10, k10, b10⟩
  have d11 : DefAt P w K mg base "is_place" _ f11 _ _ _ := ⟨ok_is_place F11 T NU d2 d6, PySem.W.mg_of X G a11, k11, b11⟩
  have d12 : DefAt P w K mg base "is_item" _ f12 _ _ _ := ⟨ok_is_item F12 d9 d10, PySem.W.mg_of X G a12, k12, b12⟩
  have d14 : DefAt P w K mg base "lies_below_leaf" _ f14 _ _ _ := ⟨ok_lies F14 T.n_any d8, PySem.W.mg_of X G a14, k14, b14⟩
  have d13 : DefAt P w K mg base "check_entries" _ f13 _ _ _ := ⟨ok_check_entries F13 T d5 d11 d12 d14, PySem.W.mg_of X G a13, k13, b13⟩
  have d15 : DefAt P w K mg base "with_parents" _ f15 _ _ _ := ⟨ok_with_parents F15 T d5 d8, PySem.W.mg_of X G a15, k15, b15⟩
  have d16 : DefAt P w K mg base "content_of" _ f16 _ _ _ := ⟨ok_content_of F16 T NU, PySem.W.mg_of X G a16, k16, b16⟩
  have d17 : DefAt P w K mg base "target_of" _ f17 _ _ _ := ⟨ok_target_of F17 d10, PySem.W.mg_of X G a17, k17, b17⟩
  have d18 : DefAt P w K mg base "entry_of" _ f18 _ _ _ := ⟨ok_entry_of F18 T d11 d16 d17, PySem.W.mg_of X G a18, k18, b18⟩
  have d20 : DefAt P w K mg base "continues" _ f20 _ _ _ := ⟨ok_continues F20 d7 d4, PySem.W.mg_of X G a20, k20, b20⟩
  have FE := ok_entries_of (P := P) (w := w) (base := base) F19 T low d18 d20
  have MI : Mk K CK fI := ⟨mkK, aI, iI, kcK⟩
  have dx1 : DefAt P w K mg base "solid_entries" _ x1f _ _ _ := ⟨ok_solid x1F T d8, PySem.W.mg_of X G x1a, x1k, x1b⟩
  have dx2 : DefAt P w K mg base "names_within" _ x2f _ _ _ := ⟨ok_within x2F T, PySem.W.mg_of X G x2a, x2k, x2b⟩
  have TTk : TokTxt K mg CTk := ⟨⟨tm, ti, tk⟩, PySem.W.mg_of X G ta⟩
  have NTb : NoteTxt P w K mg base CNb fNb _ := ⟨⟨nm, ni, nf, nk⟩, PySem.W.mg_of X G na, ok_ninit FNb ⟨npg, nhd, npo, nsa⟩ nrw, bNb⟩
  have OI := ok_init (P := P) (w := w) (base := base) FI T PT many d13 d15 dx1 dx2 TTk NTb
  have OF := ok_from (P := P) (w := w) (base := base) (ds := []) FF MI OI bI2 FE (PySem.W.mg_of X G a19) k19 b19
  have d22 : DefAt P w K mg base "written_path" _ f22 _ _ _ := ⟨ok_written F22, PySem.W.mg_of X G a22, k22, b22⟩
  have d21 : DefAt P w K mg base "row_of" _ f21 _ _ _ := ⟨ok_row_of F21 T d22, PySem.W.mg_of X G a21, k21, b21⟩
  have PI : PkIs K CK := ⟨cl, haK, hnN, htN, hmK, kCK⟩
  have G91 : Pk91 P w K mg base CK CM CT (.type "type") pF gF gN uE uL uG fI _ _ _ _ _ ds := ⟨PySem.W.mg_of X G aK, ⟨rdK, gaK⟩, ⟨aF, ⟨_, rF⟩, fF⟩, LF.FnOk.toR OF bF, ok_str FL PT d21, bL, aLn, iLn, ok_eq HE T PT PI, hEb, qEa, qEi, qNe, qOe, ok_len HL T PT, hLb, qLa, qLi, ok_items HG PT, ⟨qGa, qGi, qGk⟩, hGb, cl, MI, OI, bI2, bI, hds⟩
  have d23 : DefAt P w K mg base "_law_bag" _ f23 _ _ _ := ⟨ok_bag F23 T, PySem.W.mg_of X G a23, k23, b23⟩
  have d24 : DefAt P w K mg base "_law_take" _ f24 _ _ _ := ⟨ok_take F24 T, PySem.W.mg_of X G a24, k24, b24⟩
  have d25 : DefAt P w K mg base "_law_pick" _ f25 _ _ _ := ⟨ok_pick F25 T d24, PySem.W.mg_of X G a25, k25, b25⟩
  have d26 : DefAt P w K mg base "_law_pool" _ f26 _ _ _ := ⟨ok_pool F26 d25, PySem.W.mg_of X G a26, k26, b26⟩
  have d27 : DefAt P w K mg base "_law_path" _ f27 _ _ _ := ⟨ok_path F27 T d24 d25, PySem.W.mg_of X G a27, k27, b27⟩
  have d28 : DefAt P w K mg base "_law_starts" _ f28 _ _ _ := ⟨ok_starts F28 T, PySem.W.mg_of X G a28, k28, b28⟩
  have d29 : DefAt P w K mg base "_law_added" _ f29 _ _ _ := ⟨ok_added F29 T d28, PySem.W.mg_of X G a29, k29, b29⟩
  have d33 : DefAt P w K mg base "_law_item" _ f33 _ _ _ := ⟨ok_item F33 d25 d27, PySem.W.mg_of X G a33, k33, b33⟩
  have d34 : DefAt P w K mg base "_law_entries" _ f34 _ _ _ := ⟨ok_entries F34 T d24 d25 d27 d33 d28 d29, PySem.W.mg_of X G a34, k34, b34⟩
  have d30 : DefAt P w K mg base "_law_key" _ f30 _ _ _ := ⟨ok_lkey F30 T, PySem.W.mg_of X G a30, k30, b30⟩
  have d31 : DefAt P w K mg base "_law_row" _ f31 _ _ _ := ⟨ok_lrow F31 T, PySem.W.mg_of X G a31, k31, b31⟩
  have d32 : DefAt P w K mg base "_law_text" _ f32 _ _ _ := ⟨ok_text F32 T d30 d31, PySem.W.mg_of X G a32, k32, b32⟩
  exact ok_law F35 T d23 d26 d34 d32 G91
theorem walk {l : PySem.W.OpenLaw} {q : Program} {loose : List Str} {XP : (Str → Option Value) → Heap → Prop} {YP : World → Heap → Prop} {d : DefRec} {K : Params → PySem.W.Frag} (hn : l.most = some 63) (hdf : d.params.defaults = [])
    (hY : ∀ (w : World) (h : Heap), YP w h → (K w.params).In h)
    (F : ∀ (w : World) (mg : Str → Option Value) (fa : Addr) (h : Heap), (K w.params).In h → h.Ns mainGlobals mg → mg d.name = some (.ref fa) →
      ∃ fd : FuncData, (∀ (s : Shared) (u : Value), BindsTo s fd ⟨[u], []⟩ [("_law_script", u)]) ∧ ∀ base : Heap, (K w.params).In base → base.Ns mainGlobals mg → FnOk l.prog w (K w.params) mg base CX0 13 fa fd ["_law_script"] (spLaw (K w.params))) :
    PySem.W.WalkO q loose XP YP l.row.toRowW d [] (fun f vs => PySem.call f vs) :=
  walk_ofK (n := 63) (k := 13) (x := "_law_script") (sp := spLaw) (CX := CX0) hn (by decide) hdf ⟨rfl, by decide, by decide⟩ hY F (fun K H a ns hl _ hS => ⟨a, ns, rfl, hS, hl, fun _ => rfl⟩) (fun _ _ _ _ h => h)
end K6

open PySem PySem.W PyProof.Rows in
set_option maxRecDepth 100000 in
set_option maxHeartbeats 0 in
theorem PySem.Challenge.cw_linkfarms_k91_texts_of_packages_holds : PySem.Challenge.rw_linkfarms_k91_texts_of_packages.Holds := by
  w_on; o_law; k_head; (case hw => w_witness2)
  k_fill
  refine K6.walk (l := PySem.Challenge.rw_linkfarms_k91_texts_of_packages) rfl rfl (fun w h Y => PySem.W.kIn_of Y) ?F
  case F =>
    intro w mg fa h KX G hmg
    refine' K6.all_mk KX G hmg ?e0a ?e0x ?e0sa ?e0ga ?e0gg ?e0nb ?e0i ?e0t ?e0l ?e0c ?e0k ?e0e ?e0ty ?e0hd ?e0ic ?e0ss ?e1a ?e1x ?e1sa ?e1ga ?e1gg ?e1nb ?e1i ?e1t ?e1l ?e1c ?e1k ?e1e ?e1ty ?e1hd ?e1ic ?e1ss ?zLon ?zMN ?zMT ?zMD ?zGC ?zDG ?z_isinstance ?z_str ?z_len ?z_all ?z_any ?z_tuple ?z_list ?z_dict ?z_sorted ?z_range ?z_abs ?z_int ?z_bool ?z_repr ?z_max ?z_min ?z_ValueError ?z_OverflowError ?a1 ?l1 ?c1 ?k1 ?a2 ?l2 ?c2 ?k2 ?a3 ?l3 ?c3 ?k3 ?a4 ?l4 ?c4 ?k4 ?a5 ?l5 ?c5 ?k5 ?a6 ?l6 ?c6 ?k6 ?a7 ?l7 ?c7 ?k7 ?a8 ?l8 ?c8 ?k8 ?a9 ?l9 ?c9 ?k9 ?a10 ?l10 ?c10 ?k10 ?a11 ?l11 ?c11 ?k11 ?a12 ?l12 ?c12 ?k12 ?a13 ?l13 ?c13 ?k13 ?a14 ?l14 ?c14 ?k14 ?a15 ?l15 ?c15 ?k15 ?a16 ?l16 ?c16 ?k16 ?a17 ?l17 ?c17 ?k17 ?a18 ?l18 ?c18 ?k18 ?a19 ?l19 ?c19 ?k19 ?a20 ?l20 ?c20 ?k20 ?a21 ?l21 ?c21 ?k21 ?a22 ?l22 ?c22 ?k22 ?a23 ?l23 ?c23 ?k23 ?a24 ?l24 ?c24 ?k24 ?a25 ?l25 ?c25 ?k25 ?a26 ?l26 ?c26 ?k26 ?a27 ?l27 ?c27 ?k27 ?a28 ?l28 ?c28 ?k28 ?a29 ?l29 ?c29 ?k29 ?a30 ?l30 ?c30 ?k30 ?a31 ?l31 ?c31 ?k31 ?a32 ?l32 ?c32 ?k32 ?a33 ?l33 ?c33 ?k33 ?a34 ?l34 ?c34 ?k34 ?a35 ?l35 ?c35 ?k35 ?aK ?pg ?hd ?po ?saK ?mkK ?kcK ?nE ?aL ?gL ?aI ?iI ?lI ?cI ?kI ?lT ?aLn ?iLn ?lLn ?cLn ?kLn ?rdK ?gaK ?aF ?rF ?fF ?lF ?cF ?kF ?qLa ?qLi ?qLl ?qLc ?qLk ?qEa ?qEi ?qEl ?qEc ?qEk ?qGa ?qGi ?qGl ?qGc ?qGk ?qNe ?qOe ?hnN ?htN ?haK ?hmK ?kCK ?x0a ?x0l ?x0c ?x0k ?x1a ?x1l ?x1c ?x1k ?x2a ?x2l ?x2c ?x2k ?naS ?naR ?naT ?naN ?ta ?tm ?ti ?tk ?na ?nm ?ni ?nf ?nk ?nl ?nc ?nkf ?npg ?nhd ?npo ?nsa ?nrw
    (case e0a => k_is)
    (case e0x => k_is)
    (case e0sa => k_is)
    (case e0ga => k_is)
    (case e0gg => k_is)
    (case e0nb => k_is)
    (case e0i => k_is)
    (case e0t => k_is)
    (case e0l => k_is)
    (case e0c => k_is)
    (case e0k => k_is)
    (case e0e => k_is)
    (case e0ty => k_is)
    (case e0hd => k_is)
    (case e0ic => k_is)
    (case e0ss => first | rfl | k_is)
    (case e1a => k_is)
    (case e1x => k_is)
    (case e1sa => k_is)
    (case e1ga => k_is)
    (case e1gg => k_is)
    (case e1nb => k_is)
    (case e1i => k_is)
    (case e1t => k_is)
    (case e1l => k_is)
    (case e1c => k_is)
    (case e1k => k_is)
    (case e1e => k_is)
    (case e1ty => k_is)
    (case e1hd => k_is)
    (case e1ic => k_is)
    (case e1ss => first | rfl | k_is)
    (case zLon => k_is)
    (case zMN => k_is)
    (case zMT => k_is)
    (case zMD => k_is)
    (case zGC => k_is)
    (case zDG => k_is)
    (case z_isinstance => k_is)
    (case z_str => k_is)
    (case z_len => k_is)
    (case z_all => k_is)
    (case z_any => k_is)
    (case z_tuple => k_is)
    (case z_list => k_is)
    (case z_dict => k_is)
    (case z_sorted => k_is)
    (case z_range => k_is)
    (case z_abs => k_is)
    (case z_int => k_is)
    (case z_bool => k_is)
    (case z_repr => k_is)
    (case z_max => k_is)
    (case z_min => k_is)
    (case z_ValueError => k_is)
    (case z_OverflowError => k_is)
    (case a1 => k_is)
    (case l1 => k_is)
    (case c1 => k_is)
    (case k1 => k_is)
    (case a2 => k_is)
    (case l2 => k_is)
    (case c2 => k_is)
    (case k2 => k_is)
    (case a3 => k_is)
    (case l3 => k_is)
    (case c3 => k_is)
    (case k3 => k_is)
    (case a4 => k_is)
    (case l4 => k_is)
    (case c4 => k_is)
    (case k4 => k_is)
    (case a5 => k_is)
    (case l5 => k_is)
    (case c5 => k_is)
    (case k5 => k_is)
    (case a6 => k_is)
    (case l6 => k_is)
    (case c6 => k_is)
    (case k6 => k_is)
    (case a7 => k_is)
    (case l7 => k_is)
    (case c7 => k_is)
    (case k7 => k_is)
    (case a8 => k_is)
    (case l8 => k_is)
    (case c8 => k_is)
    (case k8 => k_is)
    (case a9 => k_is)
    (case l9 => k_is)
    (case c9 => k_is)
    (case k9 => k_is)
    (case a10 => k_is)
    (case l10 => k_is)
    (case c10 => k_is)
    (case k10 => k_is)
    (case a11 => k_is)
    (case l11 => k_is)
    (case c11 => k_is)
    (case k11 => k_is)
    (case a12 => k_is)
    (case l12 => k_is)
    (case c12 => k_is)
    (case k12 => k_is)
    (case a13 => k_is)
    (case l13 => k_is)
    (case c13 => k_is)
    (case k13 => k_is)
    (case a14 => k_is)
    (case l14 => k_is)
    (case c14 => k_is)
    (case k14 => k_is)
    (case a15 => k_is)
    (case l15 => k_is)
    (case c15 => k_is)
    (case k15 => k_is)
    (case a16 => k_is)
    (case l16 => k_is)
    (case c16 => k_is)
    (case k16 => k_is)
    (case a17 => k_is)
    (case l17 => k_is)
    (case c17 => k_is)
    (case k17 => k_is)
    (case a18 => k_is)
    (case l18 => k_is)
    (case c18 => k_is)
    (case k18 => k_is)
    (case a19 => k_is)
    (case l19 => k_is)
    (case c19 => k_is)
    (case k19 => k_is)
    (case a20 => k_is)
    (case l20 => k_is)
    (case c20 => k_is)
    (case k20 => k_is)
    (case a21 => k_is)
    (case l21 => k_is)
    (case c21 => k_is)
    (case k21 => k_is)
    (case a22 => k_is)
    (case l22 => k_is)
    (case c22 => k_is)
    (case k22 => k_is)
    (case a23 => k_is)
    (case l23 => k_is)
    (case c23 => k_is)
    (case k23 => k_is)
    (case a24 => k_is)
    (case l24 => k_is)
    (case c24 => k_is)
    (case k24 => k_is)
    (case a25 => k_is)
    (case l25 => k_is)
    (case c25 => k_is)
    (case k25 => k_is)
    (case a26 => k_is)
    (case l26 => k_is)
    (case c26 => k_is)
    (case k26 => k_is)
    (case a27 => k_is)
    (case l27 => k_is)
    (case c27 => k_is)
    (case k27 => k_is)
    (case a28 => k_is)
    (case l28 => k_is)
    (case c28 => k_is)
    (case k28 => k_is)
    (case a29 => k_is)
    (case l29 => k_is)
    (case c29 => k_is)
    (case k29 => k_is)
    (case a30 => k_is)
    (case l30 => k_is)
    (case c30 => k_is)
    (case k30 => k_is)
    (case a31 => k_is)
    (case l31 => k_is)
    (case c31 => k_is)
    (case k31 => k_is)
    (case a32 => k_is)
    (case l32 => k_is)
    (case c32 => k_is)
    (case k32 => k_is)
    (case a33 => k_is)
    (case l33 => k_is)
    (case c33 => k_is)
    (case k33 => k_is)
    (case a34 => k_is)
    (case l34 => k_is)
    (case c34 => k_is)
    (case k34 => k_is)
    (case a35 => k_is)
    (case l35 => k_is)
    (case c35 => k_is)
    (case k35 => k_is)
    (case aK => k_is)
    (case pg => k_is)
    (case hd => k_is)
    (case po => k_is)
    (case saK => k_is)
    (case mkK => k_is)
    (case kcK => k_is)
    (case nE => k_is)
    (case aL => k_is)
    (case gL => first | k_is | rfl)
    (case aI => k_is)
    (case iI => k_is)
    (case lI => k_is)
    (case cI => k_is)
    (case kI => k_is)
    (case lT => k_is)
    (case aLn => k_is)
    (case iLn => k_is)
    (case lLn => k_is)
    (case cLn => k_is)
    (case kLn => k_is)
    (case rdK => first | rfl | k_is)
    (case gaK => k_is)
    (case aF => first | rfl | k_is)
    (case rF => k_is)
    (case fF => k_is)
    (case lF => k_is)
    (case cF => k_is)
    (case kF => k_is)
    (case qLa => k_is)
    (case qLi => k_is)
    (case qLl => k_is)
    (case qLc => k_is)
    (case qLk => k_is)
    (case qEa => k_is)
    (case qEi => k_is)
    (case qEl => k_is)
    (case qEc => k_is)
    (case qEk => k_is)
    (case qGa => k_is)
    (case qGi => k_is)
    (case qGl => k_is)
    (case qGc => k_is)
    (case qGk => k_is)
    (case qNe => k_is)
    (case qOe => first | rfl | k_is)
    (case hnN => k_is)
    (case htN => k_is)
    (case haK => k_is)
    (case hmK => k_is)
    (case kCK => first | rfl | k_is)
    (case x0a => k_is)
    (case x0l => k_is)
    (case x0c => k_is)
    (case x0k => k_is)
    (case x1a => k_is)
    (case x1l => k_is)
    (case x1c => k_is)
    (case x1k => k_is)
    (case x2a => k_is)
    (case x2l => k_is)
    (case x2c => k_is)
    (case x2k => k_is)
    (case naS => k_is)
    (case naR => k_is)
    (case naT => k_is)
    (case naN => k_is)
    (case ta => k_is)
    (case tm => k_is)
    (case ti => k_is)
    (case tk => k_is)
    (case na => k_is)
    (case nm => k_is)
    (case ni => k_is)
    (case nf => k_is)
    (case nk => k_is)
    (case nl => k_is)
    (case nc => k_is)
    (case nkf => k_is)
    (case npg => k_is)
    (case nhd => k_is)
    (case npo => k_is)
    (case nsa => k_is)
    (case nrw => k_is)
#print axioms PySem.Challenge.cw_linkfarms_k91_texts_of_packages_holds

