import PyProof.Rows.All
import Wide.All
import OpenK.AllK
import Wide.FinOn
import HandS.ForMost
import HandS.IsInst
import HandS.Flow
import HandS.Conv
import HandS.Deep
import HandS.TupAny
import HandS.Walk
import HandS.Zip
import HandS.Codes
import PyProof.ReprRoads
import PyProof.ReprLen
import KE.DataMinMax
import PyProof.ReprBulk
import PyProof.Draws
import PyProof.EnumMake
import HandS.NoneIn
import HandS.Style
import HandS.Star
import HandS.RevRange
import HandS.Wide
import PyProof.P3Eq
import HandS.SetFor
import PyProof.EqKinds
import HandS.WideBits
import HandS.TupMul
import HandS.Strs
import KE.SortCalls
import KE.KExcInit
import KE.KExcIs
import KE.KExcLine
import HandS.ExcInit
import HandS.ExcOwn
import HandS.WordsExc
import KE.KDictSum
import HandS.ExcValue
import HandS.TupSets
import HandS.TupLen
import PySem.Challenge.RW_aboutface_k20_whole_every_standing_twice
set_option Elab.async false
set_option linter.all false
set_option maxRecDepth 100000
/-! ### the ground: heaps, data, repr, defs that want no guard -/
namespace Af
open PySem PySem.Spec PyProof.Rows L2
/-! heaps -/
theorem same_new {H : Hp} {p : Addr} {o : HO} (h : H p = none) : Same H (upd H p o) := fun b x e => by
  rw [upd_ne (ne_of_none e h)]; exact e
/-- the heap without one place -/
def hid (H : Hp) (b : Addr) : Hp := fun a => if a = b then none else H a
theorem hid_at {H : Hp} {b : Addr} : hid H b b = none := if_pos rfl
theorem hid_ne {H : Hp} {a b : Addr} (h : a ≠ b) : hid H b a = H a := if_neg h
theorem hid_upd {H : Hp} {b : Addr} {o : HO} : hid (upd H b o) b = hid H b := by
  funext a; unfold hid; split
  · rfl
  · rename_i h; exact upd_ne h
theorem hid_new {H : Hp} {b p : Addr} {o : HO} (h : p ≠ b) : hid (upd H p o) b = upd (hid H b) p o := by
  funext a
  by_cases e : a = b
  · subst e; rw [hid_at, upd_ne h.symm, hid_at]
  · rw [hid_ne e]
    by_cases e2 : a = p
    · subst e2; rw [upd_same, upd_same]
    · rw [upd_ne e2, upd_ne e2, hid_ne e]
theorem hid_le {H : Hp} {b : Addr} : Same (hid H b) H := fun a o e => by
  by_cases h : a = b
  · subst h; rw [hid_at] at e; cases e
  · rw [hid_ne h] at e; exact e
theorem hid_mono {H H' : Hp} {b : Addr} (s : Same H H') : Same (hid H b) (hid H' b) := fun a o e => by
  by_cases h : a = b
  · subst h; rw [hid_at] at e; cases e
  · rw [hid_ne h] at e ⊢; exact s a o e
theorem hid_none {H : Hp} {b p : Addr} (h : H p = none) : hid H b p = none := by
  by_cases e : p = b
  · subst e; exact hid_at
  · rw [hid_ne e]; exact h
theorem hid_some {H : Hp} {b p : Addr} {o : HO} (h : hid H b p = some o) : p ≠ b ∧ H p = some o := by
  by_cases e : p = b
  · subst e; rw [hid_at] at h; cases h
  · rw [hid_ne e] at h; exact ⟨e, h⟩
/-! data -/
theorem sqt_mono {K : PySem.W.Frag} {H H' : Hp} {a : Addr} {xs : List V} (e : Same H H') (h : SqT K H a xs) : SqT K H' a xs := by
  rcases h with (h | ⟨o, h⟩) | h
  · exact .inl (.inl (e _ _ h))
  · exact .inl (.inr ⟨o, e _ _ h⟩)
  · exact .inr h
mutual
theorem dp_mono {K : PySem.W.Frag} {H H' : Hp} (e : Same H H') : ∀ (d : PyData) (v : V), Dp K H v d → Dp K H' v d
  | .none, _, h => by cases h; exact .non
  | .bool b, _, h => by cases h; exact .bl b
  | .int i, _, h => by cases h; exact .int i
  | .str x, _, h => by cases h; exact .str x
  | .list ds, _, h => by
    cases h with
    | lst hs ha => exact .lst (e.seq hs) (dps_mono e ds _ ha)
  | .tuple ds, _, h => by
    cases h with
    | tup hs ha => exact .tup (sqt_mono e hs) (dps_mono e ds _ ha)
  | .dict _, _, h => by cases h
theorem dps_mono {K : PySem.W.Frag} {H H' : Hp} (e : Same H H') : ∀ (ds : List PyData) (vs : List V), DpAll K H vs ds → DpAll K H' vs ds
  | [], _, h => by cases h; exact .nil
  | d :: ds, _, h => by
    cases h with
    | cons h1 h2 => exact .cons (dp_mono e d _ h1) (dps_mono e ds _ h2)
end
theorem dp_up {K : PySem.W.Frag} {H H' : Hp} {d : PyData} {v : V} (h : Dp K H v d) (e : Same H H') : Dp K H' v d := dp_mono e d v h
theorem dps_up {K : PySem.W.Frag} {H H' : Hp} {ds : List PyData} {vs : List V} (h : DpAll K H vs ds) (e : Same H H') : DpAll K H' vs ds := dps_mono e ds vs h
theorem dps_len {K : PySem.W.Frag} {H : Hp} : ∀ {vs : List V} {ds : List PyData}, DpAll K H vs ds → vs.length = ds.length
  | [], [], _ => rfl
  | [], _ :: _, h => by cases h
  | _ :: _, [], h => by cases h
  | _ :: _, _ :: _, h => by
    cases h with
    | cons _ h2 => exact congrArg (· + 1) (dps_len h2)
theorem dps_get {K : PySem.W.Frag} {H : Hp} : ∀ {vs : List V} {ds : List PyData} {i : Nat} {d : PyData}, DpAll K H vs ds → ds[i]? = some d → ∃ v, vs[i]? = some v ∧ Dp K H v d
  | [], [], _, _, _, e => by simp at e
  | [], _ :: _, _, _, h, _ => by cases h
  | _ :: _, [], _, _, h, _ => by cases h
  | v :: vs, x :: ds, 0, d, h, e => by
    cases h with
    | cons h1 _ => simp at e; subst e; exact ⟨v, rfl, h1⟩
  | v :: vs, x :: ds, i + 1, d, h, e => by
    cases h with
    | cons _ h2 => simpa using dps_get (i := i) h2 (by simpa using e)
theorem dps_get' {K : PySem.W.Frag} {H : Hp} {vs : List V} {ds : List PyData} {i : Nat} {v : V} (h : DpAll K H vs ds) (e : vs[i]? = some v) : ∃ d, ds[i]? = some d ∧ Dp K H v d := by
  have hi : i < vs.length := (List.getElem?_eq_some_iff.mp e).1
  have hd : i < ds.length := by rw [← dps_len h]; exact hi
  obtain ⟨w, e2, q⟩ := dps_get (i := i) h (List.getElem?_eq_getElem hd)
  rw [e] at e2; cases e2
  exact ⟨_, List.getElem?_eq_getElem hd, q⟩
theorem dps_app {K : PySem.W.Frag} {H : Hp} : ∀ {vs ws : List V} {ds es : List PyData}, DpAll K H vs ds → DpAll K H ws es → DpAll K H (vs ++ ws) (ds ++ es)
  | [], _, [], _, _, h => h
  | [], _, _ :: _, _, h, _ => by cases h
  | _ :: _, _, [], _, h, _ => by cases h
  | _ :: _, _, _ :: _, _, h, g => by
    cases h with
    | cons h1 h2 => exact .cons h1 (dps_app h2 g)
theorem dps_ints {K : PySem.W.Frag} {H : Hp} : ∀ ns : List Int, DpAll K H (ns.map V.int) (ns.map PyData.int)
  | [] => .nil
  | n :: ns => .cons (.int n) (dps_ints ns)
theorem dps_ints_inv {K : PySem.W.Frag} {H : Hp} : ∀ {ns : List Int} {vs : List V}, DpAll K H vs (ns.map PyData.int) → vs = ns.map V.int
  | [], [], _ => rfl
  | [], _ :: _, h => by cases h
  | _ :: _, [], h => by cases h
  | n :: ns, v :: vs, h => by
    cases h with
    | cons h1 h2 => cases h1; rw [dps_ints_inv h2]; rfl
/-- a list or a tuple of these -/
inductive SeqD : PyData → List PyData → Prop
  | l (ds : List PyData) : SeqD (.list ds) ds
  | t (ds : List PyData) : SeqD (.tuple ds) ds
def Sq (K : PySem.W.Frag) (H : Hp) (a : Addr) (xs : List V) : Prop := SqL K H a xs ∨ SqT K H a xs
theorem sq_mono {K : PySem.W.Frag} {H H' : Hp} {a : Addr} {xs : List V} (e : Same H H') (h : Sq K H a xs) : Sq K H' a xs := by
  rcases h with h | h
  · exact .inl (e.seq h)
  · exact .inr (sqt_mono e h)
theorem dp_seq {K : PySem.W.Frag} {H : Hp} {v : V} {d : PyData} {ds : List PyData} (h : Dp K H v d) (s : SeqD d ds) : ∃ a xs, v = .ref a ∧ Sq K H a xs ∧ DpAll K H xs ds := by
  cases s with
  | l =>
    cases h with
    | lst hs ha => exact ⟨_, _, rfl, .inl hs, ha⟩
  | t =>
    cases h with
    | tup hs ha => exact ⟨_, _, rfl, .inr hs, ha⟩
theorem dp_intv {K : PySem.W.Frag} {H : Hp} {v : V} {i : Int} (h : Dp K H v (.int i)) : v = .int i := by cases h; rfl
theorem ix_of {K : PySem.W.Frag} {H : Hp} {a : Addr} {xs : List V} {i : Int} {v : V} {Q : VK} (h : Sq K H a xs) (e : atI xs i = some v) (q : Q v H) : rIx K (.ref a) (.int i) H Q := by
  rcases h with h | h
  · exact .inl ⟨a, xs, i, v, rfl, rfl, h, e, q⟩
  · exact .inr (.inl ⟨a, xs, i, v, rfl, rfl, h, e, q⟩)
/-! repr of data -/
@[irreducible] def txt (d : PyData) : Str := d.shown
theorem txt_eq (d : PyData) : txt d = d.shown := by unfold txt; rfl
theorem call_reprD {X : Cx} (hG : X.A.guards = some []) (hu : X.A.units + 70 < cLine) :
    CallR X (.builtin "repr") (fun xs H Q => ∃ (a : Addr) (d : PyData), xs = [.ref a] ∧ Dp X.K H (.ref a) d ∧ d.showable = true ∧ d.hasDict = false ∧ d.depth ≤ 60 ∧ d.shown.length ≤ sizeLine ∧ Q (.str (txt d)) H) := by
  intro pins s σ H xs us Q I r h
  obtain ⟨a, d, rfl, hd, h1, h2, h3, h4, q⟩ := h
  rw [txt_eq] at q
  cases r with
  | cons ra rt =>
    cases rt
    obtain ⟨as, rd⟩ := Dp.reads I d (.ref a) _ hd ra
    cases ra
    exact repr_of_reads' rd h1 (PyData.noDict_hsm h2) hG (by omega) (fun _ _ e => e) (fun h' u tk hk => ⟨.str d.shown, H, I.kept hk, ⟨_, rfl⟩, q⟩) h4
end Af
/-! ### defs that are called where nothing is being shown by repr -/
namespace Af
open PySem PySem.Spec PyProof.Rows L2
structure FnG (P : Program) (w : World) (K : PySem.W.Frag) (mg : Str → Option Value) (base : Heap) (k : Nat) (f : Addr) (fd : FuncData) (ps : List Str) (sp : Sp) : Prop where
  len : ∀ vs H Q E, sp vs H Q E → vs.length = ps.length
  run : ∀ (A : Around) (fr : List Env) (s : Shared) (H : Hp) (ar : Args) (us : List Value) (vs : List V) (Q : VK) (E : XK), A.guards = some [] → Room k A → Env0 P w K mg base A fr s H →
    BindsTo s fd ar (ps.zip us) → Vals vs us → sp vs H Q E → codeAny (model P w) A (.call (.ref f) ar) (CR CX0 fr P w H s Q E) s
theorem FnG.of {P : Program} {w : World} {K : PySem.W.Frag} {mg : Str → Option Value} {base : Heap} {k : Nat} {f : Addr} {fd : FuncData} {ps : List Str} {sp : Sp} (F : FnOk P w K mg base CX0 k f fd ps sp) : FnG P w K mg base k f fd ps sp :=
  ⟨F.len, fun A fr s H ar us vs Q E _ hr he hb hv hs => F.run A fr s H ar us vs Q E hr he hb hv hs⟩
section
variable {P : Program} {w : World} {K : PySem.W.Frag} {mg : Str → Option Value} {base : Heap}
theorem fun_okG {x qual : Str} {st : Stmt} {f : Addr} {fd : FuncData} {N ps : List Str} {k : Nat} {sp : Sp} (F : Fun K x qual st f fd) (S : FnScope N ps (defScope st)) (len : ∀ vs H Q E, sp vs H Q E → vs.length = ps.length)
    (hbody : ∀ (cdv : Value) (A : Around) (fr : List Env) (s : Shared) (H : Hp) (vs : List V) (Q : VK) (E : XK), A.guards = some [] → Room k (A.deeper (envOfC qual (defScope st) s.heap.objs.size f cdv)) → sp vs H Q E →
      ∃ t, PSs (cxOf CX0 P w K mg base N qual (defScope st) f cdv A fr s H E).nox (defBody st) t ∧ t { nx := fun _ H' => Q .non H', rt := Q } (start N vs) H) : FnG P w K mg base (k + 1) f fd ps sp := by
  obtain ⟨oc, od, kV, doc, pm, an, cdv, ct, osl, rfl, lk, hcd⟩ := F.ex
  refine ⟨len, fun A fr s H ar us vs Q E hG hr e0 hb r hsp => ?_⟩
  have n1 := len _ _ _ _ hsp
  have kin : K.In s.heap := e0.mod.kin.keeps fun b o e => (e0.bs b o e).1
  have nol : s.heap.NoLimit := e0.mod.nolimit.keeps fun b o e => (e0.bs b o e).1
  have par : ∀ y ∈ ps.zip us, (defScope st).names.lookup y.1 = some .local ∨ ((defScope st).names.lookup y.1 = some .cell ∧ ((cellsFrom (s.heap.objs.size + 1) (defScope st).names []).lookup y.1).isSome = true) := by
    rintro ⟨nm, vl⟩ hm
    rcases S.par nm (List.of_mem_zip hm).1 with z | z
    · exact .inl z
    · exact .inr ⟨z, PySem.W.cellsFrom_some _ _ _ (.inl z)⟩
  refine codeAny_call_function hr.depth (kin _ _ lk) rfl S.co S.gen rfl (PySem.W.codeRec_of kin hcd) (hb _ _ _ _ ?_)
  refine wpAny_newFunctionEnv_cells S.kind par fun env hE s2 ic => ?_
  subst hE
  refine ⟨nol.keeps ic.toInCall.keep, codeAny_func ?_⟩
  obtain ⟨t, ht, hq⟩ := hbody cdv A fr s H vs Q E hG (hr.deeper _) hsp
  have J0 : Inv (cxOf CX0 P w K mg base N qual (defScope st) f cdv A fr s H E) [] (start N vs) H s2 := inv_start S hr.hd e0 n1 r ic
  refine wpAny_mono (ht.nox.run [] s2 (start N vs) H _ J0 hq) (fun fl s' hs => ?_) fun e s' hs => hs
  cases fl with
  | ret u =>
    obtain ⟨v, σ', H', J, rv, q⟩ := hs
    exact ⟨v, H', J.os, J.bare, J.base, J.hok, rv, q⟩
  | next =>
    obtain ⟨σ', H', J, q⟩ := hs
    exact ⟨V.non, H', J.os, J.bare, J.base, J.hok, rfl, q⟩
  | brk => obtain ⟨_, _, _, q⟩ := hs; exact q.elim
  | cont => obtain ⟨_, _, _, q⟩ := hs; exact q.elim
end
section
variable {X : Cx} {k : Nat} {f : Addr} {fd : FuncData} {ps : List Str} {sp : Sp} {x : Str} {p pos : Pos} {e : Expr} {es : List Expr} {t : TA}
theorem pe_guarded (F : FnG X.prog X.w X.K X.mg X.base k f fd ps sp) (hG : X.A.guards = some []) (hr : Room k X.A) (hg : Gl X x) (hm : X.mg x = some (.ref f)) (hk : PySem.W.keepIn X.K (.ref f) = true) (hb : Binds X.K fd ps [])
    (ha : PA X (e :: es) t) (hdb : (x == ("__debug__" : Str)) = false := by decide) (he : starEach (e :: es) X.env = (false, eval e X.env) :: starEach es X.env := by rfl) (hpl : (backTo pos (starEach es X.env)).any (·.1) = false := by rfl) :
    PE X (.Call (.Name x p) (e :: es) [] pos) (tCall sp [] E0 t) := by
  refine ⟨fun pn s σ H Q I h => wpAny_Call_Name_kw (ld_glob I hg hm ?_ hdb)⟩
  refine PySem.W.callWith_K (h₀ := X.base) I.ok.mod.kin hk (thn (ha.run pos pn s σ H _ I h) fun us s1 ⟨vs, H1, I1, r, q⟩ => ⟨I1.kIn, ?_⟩) he hpl
  have q' : sp (vs ++ []) H1 Q E0 := q
  rw [List.append_nil] at q'
  have n1 : (us ++ ([] : List Value)).length = ps.length := by rw [List.append_nil, ← r.length]; exact F.len _ _ _ _ q'
  have bnd := hb s1 us I1.kIn n1
  rw [List.append_nil] at bnd
  refine wpAny_call (codeAny_mono (F.run X.A X.stack s1 H1 ⟨us, []⟩ us vs Q E0 hG hr I1.env0 bnd r q') fun r s' hq => ?_)
  cases r with
  | error e => exact False.elim hq
  | ok fl =>
    cases fl with
    | ret u => exact I1.after hq
    | next => exact hq.elim
    | brk => exact hq.elim
    | cont => exact hq.elim
end
/-- the law's own call, where its def wants no guard -/
theorem law_callG {P : Program} {w : World} {K : PySem.W.Frag} {mg mb : Str → Option Value} {k : Nat} {fa a : Addr} {fd : FuncData} {x : Str} {sp : Sp} {s1 : Shared} {vs : List Value} {ns : List Int}
    (KX : K.In s1.heap) (hns : s1.heap.Ns mainGlobals mg) (hb : s1.heap.Ns builtinsNs mb) (hbb : ∀ x : Str, x ≠ "__name__" → mb x = bootBuiltins x) (hlim : s1.heap.NoLimit) (hg : s1.gens = #[])
    (ha : s1.heap.get? a = some { cls := .type "list", data := .seq vs.toArray }) (hi : IntsAre vs ns) (hl : ns.length ≤ sizeLine) (hr : Room k callerA)
    (F : ∀ base : Heap, K.In base → base.Ns mainGlobals mg → FnG P w K mg base k fa fd [x] sp) (hbind : ∀ (s : Shared) (u : Value), BindsTo s fd ⟨[u], []⟩ [(x, u)])
    (hsp : ∀ H : Hp, Only H → SqL K H a (ns.map V.int) → sp [.ref a] H (fun v _ => v = .bl true) fun _ _ _ => False) :
    codeAny (model P w) callerA (.call (.ref fa) ⟨[.ref a], []⟩) (fun r s' => r = .ok (.ret (.bool true)) ∧ OldK s1.heap s'.heap ∧ s'.os = s1.os ∧ AllBare s'.gens) s1 := by
  have rv := vals_ints hi
  have ln := hi.length
  have main : ∀ H : Hp, Only H → SqL K H a (ns.map V.int) → HOk P w H s1.heap → (∀ b, H b ≠ none → b = a) → (H a ≠ none → K.lookup a = none) →
      codeAny (model P w) callerA (.call (.ref fa) ⟨[.ref a], []⟩) (fun r s' => r = .ok (.ret (.bool true)) ∧ OldK s1.heap s'.heap ∧ s'.os = s1.os ∧ AllBare s'.gens) s1 := by
    intro H hO hS hok hA hK
    have nodict : ∀ {b : Addr} {o : Obj} {es : Array DictEntry} {ep : Nat}, s1.heap.get? b = some o → o.data = .dict es ep → H b = none := by
      intro b o es ep e d
      cases q : H b with
      | none => rfl
      | some u =>
        obtain rfl : b = a := hA b (by rw [q]; simp)
        rw [ha] at e; cases e
        exact absurd (show Data.seq vs.toArray _ = Data.dict es ep from d) (fun z => by cases z)
    have ns2 : ∀ {b : Addr} {m : Str → Option Value}, s1.heap.Ns b m → (hidT s1.heap H).Ns b m := by
      rintro b m ⟨o, es, ep, e, d, r⟩
      exact ⟨o, es, ep, hidT_get e (nodict e d), d, r⟩
    have kb : K.In (hidT s1.heap H) := fun b o e => hidT_get (KX b o e) (by
      cases q : H b with
      | none => rfl
      | some u =>
        obtain rfl : b = a := hA b (by rw [q]; simp)
        have z := hK (by rw [q]; simp)
        rw [z] at e; cases e)
    have md : Mod K mg (hidT s1.heap H) := ⟨kb, ns2 hns, ⟨mb, ns2 hb, hbb⟩, let ⟨mc, g1, g2⟩ := hlim; ⟨mc, ns2 g1, g2⟩⟩
    have ev : Env0 P w K mg (hidT s1.heap H) callerA [] s1 H :=
      ⟨rfl, md, fun b o e => of_hidT e, Nat.le_of_eq (hidT_size _ _), trivial, fun b z => absurd (show b ∈ ([] : List Addr) from z) (by simp), hok, .of_eq hg⟩
    have G := F _ kb (ns2 hns)
    refine codeAny_mono (G.run callerA [] s1 H ⟨[.ref a], []⟩ [.ref a] [.ref a] _ _ rfl hr ev (hbind s1 (.ref a)) (.cons rfl .nil) (hsp H hO hS)) fun r s' h => ?_
    cases r with
    | error e => exact False.elim h
    | ok fl =>
      cases fl with
      | next => exact h.elim
      | brk => exact h.elim
      | cont => exact h.elim
      | ret u =>
        obtain ⟨v, H', os, bare, un, hok', r', q⟩ := h
        obtain rfl : v = .bl true := q
        obtain rfl : u = Value.bool true := r'
        refine ⟨rfl, OldK.of_keep fun b o e => ?_, os, bare⟩
        cases q : H b with
        | none => exact un.keep b o e q (fun z => absurd (show b ∈ ([] : List Addr) from z) (by simp)) (by simp)
        | some u =>
          rcases hO b with z | ⟨ob, xs, z⟩
          · rw [q] at z; cases z
          · obtain ⟨e1, _⟩ := hok b _ z
            obtain ⟨e2, _⟩ := hok' b _ (un.frzs b ob _ z)
            rw [e] at e1; cases e1
            exact e2
  cases hk : K.lookup a with
  | some o =>
    have e := KX a o hk
    rw [ha] at e
    cases e
    exact main (fun _ => none) (fun _ => .inl rfl) (.inr ⟨_, vs.toArray, _, hk, rfl, rfl, rfl, by rw [List.size_toArray, ln]; exact hl, by simpa using rv⟩)
      (fun b u z => nomatch (show (none : Option HO) = some u from z)) (fun b z => absurd rfl z) fun z => absurd rfl z
  | none =>
    have hh : ∀ b : Addr, (if b = a then some (HO.frz { cls := .type "list", data := .seq vs.toArray } (.lst (ns.map V.int))) else none) ≠ none → b = a := fun b z => by
      by_cases hb : b = a
      · exact hb
      · rw [if_neg hb] at z; exact absurd rfl z
    refine main (fun b => if b = a then some (.frz { cls := .type "list", data := .seq vs.toArray } (.lst (ns.map V.int))) else none) (fun b => ?_) (.inl (.inr ⟨_, if_pos rfl⟩)) (fun b u z => ?_) hh fun _ => hk
    · by_cases hb : b = a
      · exact .inr ⟨_, _, if_pos hb⟩
      · exact .inl (if_neg hb)
    · have z' : (if b = a then some (HO.frz { cls := .type "list", data := .seq vs.toArray } (.lst (ns.map V.int))) else none) = some u := z
      have hb : b = a := hh b (by rw [z']; simp)
      subst hb
      rw [if_pos rfl] at z'
      cases z'
      exact ⟨ha, by rw [List.length_map]; exact hl, vs, _, rv, ha⟩
theorem walk_ofG {l : PySem.W.OpenLaw} {n k : Nat} {q : Program} {loose : List Str} {XP : (Str → Option Value) → Heap → Prop} {YP : World → Heap → Prop} {d : DefRec} {K : Params → PySem.W.Frag} {sp : PySem.W.Frag → Sp} {x : Str}
    (hn : l.most = some n) (hn2 : n ≤ sizeLine) (hdf : d.params.defaults = []) (hr : Room k callerA)
    (hY : ∀ (w : World) (h : Heap), YP w h → (K w.params).In h)
    (F : ∀ (w : World) (mg : Str → Option Value) (fa : Addr) (h : Heap), (K w.params).In h → h.Ns mainGlobals mg → mg d.name = some (.ref fa) →
      ∃ fd : FuncData, (∀ (s : Shared) (u : Value), BindsTo s fd ⟨[u], []⟩ [(x, u)]) ∧
        ∀ base : Heap, (K w.params).In base → base.Ns mainGlobals mg → FnG l.prog w (K w.params) mg base k fa fd [x] (sp (K w.params)))
    (hsp : ∀ (K : PySem.W.Frag) (H : Hp) (a : Addr) (ns : List Int), ns.length ≤ n → Only H → SqL K H a (ns.map V.int) → sp K [.ref a] H (fun v _ => v = .bl true) fun _ _ _ => False) :
    PySem.W.WalkO q loose XP YP l.row.toRowW d [] (fun f vs => PySem.call f vs) := by
  refine Att.attach_call hn hdf fun w s0 s1 mg mb fa o pm cd doc a vs ns G Y ho hd hcd hmg hobj hints hlen hg => ?_
  obtain ⟨fd, hb, hF⟩ := F w mg fa _ (hY w _ Y) G.T.g hmg
  exact law_callG (hY w _ Y) G.T.g G.T.b G.T.builtins G.T.nolimit hg hobj hints (Nat.le_trans hlen hn2) hr hF hb fun H hO hS => hsp (K w.params) H a ns hlen hO hS
end Af
/-! ### books, standings as data -/
namespace Af
open PySem PySem.Spec PyProof.Rows L2
def RowD (d : PyData) (ns : List Int) : Prop := SeqD d (ns.map PyData.int)
inductive RowsD : List PyData → List (List Int) → Prop
  | nil : RowsD [] []
  | cons {d : PyData} {ds : List PyData} {ns : List Int} {B : List (List Int)} : RowD d ns → RowsD ds B → RowsD (d :: ds) (ns :: B)
def BookD (d : PyData) (B : List (List Int)) : Prop := ∃ ds, SeqD d ds ∧ RowsD ds B
def rowT (ns : List Int) : PyData := .tuple (ns.map PyData.int)
def rowL (ns : List Int) : PyData := .list (ns.map PyData.int)
def bookT (B : List (List Int)) : PyData := .tuple (B.map rowT)
def bookL (B : List (List Int)) : PyData := .list (B.map rowL)
theorem rowT_row (ns : List Int) : RowD (rowT ns) ns := .t _
theorem rowL_row (ns : List Int) : RowD (rowL ns) ns := .l _
theorem rowsT : ∀ B : List (List Int), RowsD (B.map rowT) B
  | [] => .nil
  | r :: B => .cons (rowT_row r) (rowsT B)
theorem rowsL : ∀ B : List (List Int), RowsD (B.map rowL) B
  | [] => .nil
  | r :: B => .cons (rowL_row r) (rowsL B)
theorem bookT_book (B : List (List Int)) : BookD (bookT B) B := ⟨_, .t _, rowsT B⟩
theorem bookL_book (B : List (List Int)) : BookD (bookL B) B := ⟨_, .l _, rowsL B⟩
theorem rows_len : ∀ {ds : List PyData} {B : List (List Int)}, RowsD ds B → ds.length = B.length
  | [], [], _ => rfl
  | [], _ :: _, h => by cases h
  | _ :: _, [], h => by cases h
  | _ :: _, _ :: _, h => by
    cases h with
    | cons _ h => exact congrArg (· + 1) (rows_len h)
theorem rows_get : ∀ {ds : List PyData} {B : List (List Int)} {i : Nat} {ns : List Int}, RowsD ds B → B[i]? = some ns → ∃ d, ds[i]? = some d ∧ RowD d ns
  | [], [], _, _, _, e => by simp at e
  | [], _ :: _, _, _, h, _ => by cases h
  | _ :: _, [], _, _, h, _ => by cases h
  | d :: ds, r :: B, 0, ns, h, e => by
    cases h with
    | cons h1 _ => simp at e; subst e; exact ⟨d, rfl, h1⟩
  | d :: ds, r :: B, i + 1, ns, h, e => by
    cases h with
    | cons _ h2 => simpa using rows_get (i := i) h2 (by simpa using e)
section
variable {K : PySem.W.Frag} {H : Hp}
theorem row_at {v : V} {d : PyData} {ns : List Int} (h : Dp K H v d) (r : RowD d ns) : ∃ a, v = .ref a ∧ Sq K H a (ns.map V.int) := by
  obtain ⟨a, xs, rfl, hs, ha⟩ := dp_seq h r
  rw [dps_ints_inv ha] at hs
  exact ⟨a, rfl, hs⟩
theorem book_len {v : V} {d : PyData} {B : List (List Int)} (h : Dp K H v d) (r : BookD d B) : ∃ a xs, v = .ref a ∧ Sq K H a xs ∧ xs.length = B.length := by
  obtain ⟨ds, s, rs⟩ := r
  obtain ⟨a, xs, rfl, hs, ha⟩ := dp_seq h s
  exact ⟨a, xs, rfl, hs, (dps_len ha).trans (rows_len rs)⟩
theorem book_row {v : V} {d : PyData} {B : List (List Int)} {i : Nat} {ns : List Int} (h : Dp K H v d) (r : BookD d B) (e : B[i]? = some ns) :
    ∃ a xs ra, v = .ref a ∧ Sq K H a xs ∧ xs[i]? = some (.ref ra) ∧ Sq K H ra (ns.map V.int) := by
  obtain ⟨ds, s, rs⟩ := r
  obtain ⟨a, xs, rfl, hs, ha⟩ := dp_seq h s
  obtain ⟨dr, e1, r1⟩ := rows_get rs e
  obtain ⟨x, e2, h2⟩ := dps_get ha e1
  obtain ⟨ra, rfl, h3⟩ := row_at h2 r1
  exact ⟨a, xs, ra, rfl, hs, e2, h3⟩
end
/-- the length of climber c's ladder -/
def lenS (B : List (List Int)) (R : List Int) (c : Nat) : Option Int := (B[c + 1]?).bind fun row => (R[c]?).bind fun r => if 1 ≤ r then row[(r - 1).toNat]? else none
def lenAt (B : List (List Int)) (R : List Int) : Nat → Option Int
  | 0 => (B[0]?).bind fun row => row[0]?
  | c + 1 => lenS B R c
theorem lenAt_zero {B : List (List Int)} {R : List Int} {n : Int} (h : lenAt B R 0 = some n) : ∃ row, B[0]? = some row ∧ row[0]? = some n := by
  have h : ((B[0]?).bind fun row => row[0]?) = some n := h
  cases e : B[0]? with
  | none => rw [e] at h; cases h
  | some row => rw [e] at h; exact ⟨row, rfl, h⟩
theorem lenAt_succ {B : List (List Int)} {R : List Int} {c : Nat} {n : Int} (h : lenAt B R (c + 1) = some n) : ∃ row r, B[c + 1]? = some row ∧ R[c]? = some r ∧ 1 ≤ r ∧ row[(r - 1).toNat]? = some n := by
  have h : lenS B R c = some n := h
  unfold lenS at h
  cases e : B[c + 1]? with
  | none => rw [e] at h; cases h
  | some row =>
    rw [e] at h
    cases e2 : R[c]? with
    | none => rw [e2] at h; cases h
    | some r =>
      rw [e2] at h
      have h' : (if 1 ≤ r then row[(r - 1).toNat]? else none) = some n := h
      by_cases h1 : 1 ≤ r
      · rw [if_pos h1] at h'; exact ⟨row, r, rfl, rfl, h1, h'⟩
      · rw [if_neg h1] at h'; cases h'
theorem lenAt_mk {B : List (List Int)} {R : List Int} {c : Nat} {row : List Int} {r n : Int} (e1 : B[c + 1]? = some row) (e2 : R[c]? = some r) (h1 : 1 ≤ r) (e3 : row[(r - 1).toNat]? = some n) : lenAt B R (c + 1) = some n := by
  show lenS B R c = some n
  unfold lenS
  rw [e1, e2]
  show (if 1 ≤ r then row[(r - 1).toNat]? else none) = some n
  rw [if_pos h1]; exact e3
/-- it hangs on the rungs of the older ones alone -/
theorem lenAt_pre {B : List (List Int)} {R S : List Int} {c : Nat} (h : ∀ i, i < c → R[i]? = S[i]?) : lenAt B R c = lenAt B S c := by
  cases c with
  | zero => rfl
  | succ c =>
    show lenS B R c = lenS B S c
    unfold lenS; rw [h c (Nat.lt_succ_self c)]
/-! a box of the draws -/
def Box (H : Hp) (bx : Addr) (m : Nat) : Prop := ∃ a b c : Int, H bx = some (.lst [.int a, .int b, .int c]) ∧ 0 ≤ a ∧ 0 ≤ b ∧ b < 2 ^ 62 ∧ 0 ≤ c ∧ c ≤ m
theorem Box.le {H : Hp} {bx : Addr} {m n : Nat} (h : Box H bx m) (e : m ≤ n) : Box H bx n := by
  obtain ⟨a, b, c, h1, h2, h3, h4, h5, h6⟩ := h
  exact ⟨a, b, c, h1, h2, h3, h4, h5, by omega⟩
theorem Box.new {H : Hp} {bx p : Addr} {m : Nat} {o : HO} (h : Box H bx m) (np : H p = none) : Box (upd H p o) bx m := by
  obtain ⟨a, b, c, h1, h2⟩ := h
  exact ⟨a, b, c, by rw [upd_ne (ne_of_none h1 np)]; exact h1, h2⟩
theorem Box.up {H H' : Hp} {bx : Addr} {m : Nat} (h : Box H bx m) (s : Same H H') : Box H' bx m := by
  obtain ⟨a, b, c, h1, h2⟩ := h
  exact ⟨a, b, c, s _ _ h1, h2⟩
theorem Box.ne {H : Hp} {bx p : Addr} {m : Nat} (h : Box H bx m) (np : H p = none) : p ≠ bx := by
  obtain ⟨a, b, c, h1, _⟩ := h
  exact (ne_of_none h1 np).symm
theorem Box.neT {H : Hp} {bx p : Addr} {m : Nat} {xs : List V} (h : Box H bx m) (np : H p = some (.tup xs)) : p ≠ bx := by
  obtain ⟨a, b, c, h1, _⟩ := h
  intro e; subst e; rw [np] at h1; cases h1
/-! max of a tuple of ints -/
theorem depth_ints : ∀ ns : List Int, PyData.depthAll (ns.map PyData.int) = 0
  | [] => by simp [PyData.depthAll]
  | n :: ns => by simp [PyData.depthAll, PyData.depth, depth_ints ns]
theorem cr_maxT {X : Cx} (hc : X.calm = true) (hu : X.A.units + 64 < cLine) :
    CallR X (.builtin "max") (fun vs H Q => ∃ (a : Addr) (n : Int) (ns : List Int), vs = [.ref a] ∧ SqT X.K H a ((n :: ns).map V.int) ∧ Q (.int (ns.foldl max n)) H) := by
  intro pins s σ H vs us Q I r h
  obtain ⟨a, n, ns, rfl, hs, q⟩ := h
  obtain ⟨its, rv, ⟨o, ho, hc2, nn, hd⟩, _⟩ := I.tuple hs
  obtain ⟨as, rs⟩ := Dp.readsAll I ((n :: ns).map PyData.int) _ its (dps_ints (n :: ns)) rv
  rw [Vals.ref1 r]
  refine PySem.W.max_tuple_data (x := .int n) (xs := ns.map PyData.int) (vs := its.toArray) (I.ok.hd hc) ⟨o, ho, hc2, nn, hd⟩ (by simpa using rs) ?_ ?_ fun i v h' tk bs hi rr hk => ?_
  · refine ⟨fun x hx y hy => ?_, fun x hx => ?_⟩
    · obtain ⟨i, _, rfl⟩ := List.mem_map.mp (show x ∈ (n :: ns).map PyData.int from hx)
      obtain ⟨j, _, rfl⟩ := List.mem_map.mp (show y ∈ (n :: ns).map PyData.int from hy)
      simp only [PySem.W.alike]
    · obtain ⟨i, _, rfl⟩ := List.mem_map.mp (show x ∈ (n :: ns).map PyData.int from hx)
      exact fun z => by cases z
  · have e : PyData.depthAll ((n :: ns).map PyData.int) = 0 := depth_ints _
    have e2 : PyData.depthAll (.int n :: ns.map PyData.int) = 0 := e
    rw [e2]; omega
  · rw [PySem.W.maxD_ints] at rr
    cases rr
    exact ⟨.int _, H, I.kept hk, ⟨_, rfl⟩, q⟩
end Af
/-! ### built-in names, defs, calls -/
namespace Af
open PySem PySem.Spec PyProof.Rows L2
/-- the built-in names are still the built-in ones -/
structure Bl (mg : Str → Option Value) : Prop where
  len : mg "len" = none
  abs : mg "abs" = none
  int : mg "int" = none
  bool : mg "bool" = none
  str : mg "str" = none
  range : mg "range" = none
  list : mg "list" = none
  tuple : mg "tuple" = none
  isi : mg "isinstance" = none
  all : mg "all" = none
  zip : mg "zip" = none
  enum : mg "enumerate" = none
  max : mg "max" = none
  repr : mg "repr" = none
/-- a def of the top: where it stands, how it is bound -/
structure Df (K : PySem.W.Frag) (mg : Str → Option Value) (x : Str) (st : Stmt) (ps : List Str) (f : Addr) (fd : FuncData) : Prop where
  F : Fun K x x st f fd
  b : Binds K fd ps []
  g : mg x = some (.ref f)
section
variable {X : Cx} {k : Nat} {f : Addr} {fd : FuncData} {ps ks : List Str} {sp : Sp} {x : Str} {st : Stmt} {p pos : Pos} {e : Expr} {es : List Expr} {kws : List Keyword} {t tk : TA}
theorem pe_do (D : Df X.K X.mg x st ps f fd) (G : FnOk X.prog X.w X.K X.mg X.base CX0 k f fd ps sp) (hr : Room k X.A) (hg : Gl X x) (ha : PA X (e :: es) t) (hdb : (x == ("__debug__" : Str)) = false := by decide)
    (he : starEach (e :: es) X.env = (false, eval e X.env) :: starEach es X.env := by rfl) (hpl : (backTo pos (starEach es X.env)).any (·.1) = false := by rfl) : PE X (.Call (.Name x p) (e :: es) [] pos) (tCall sp [] E0 t) :=
  pe_call G hr hg D.g D.F.kp D.b .nil pass0 ha hdb he hpl
theorem pe_do0 (D : Df X.K X.mg x st ps f fd) (G : FnOk X.prog X.w X.K X.mg X.base CX0 k f fd ps sp) (hr : Room k X.A) (hg : Gl X x) (hdb : (x == ("__debug__" : Str)) = false := by decide) : PE X (.Call (.Name x p) [] [] pos) (tCall sp [] E0 tNil) :=
  pe_call0 G hr hg D.g D.F.kp D.b .nil pass0 hdb
/-- keywords alone, in the parameters' order turned round -/
def gR (us ws : List Value) : List Value := if us.isEmpty then ws.reverse else []
def gVR (us ws : List V) : List V := if us.isEmpty then ws.reverse else []
theorem vals_rev : ∀ {zs : List V} {ws : List Value}, Vals zs ws → Vals zs.reverse ws.reverse
  | _, _, .nil => .nil
  | _, _, .cons r t => by
    rw [List.reverse_cons, List.reverse_cons]
    exact (vals_rev t).append (.cons r .nil)
theorem kbinds {K : PySem.W.Frag} (F : Fun K x x st f fd) (hp : ps ≠ [])
    (h : ∀ (kV doc pm : Value) (an : Option Addr) (cdv ct : Value) (ws : List Value), ws.length = ps.length → bindArgs (PySem.W.fnOf x x (defArgs st) (defBody st) (defScope st) .none kV doc pm an cdv ct) ⟨[], ks.zip ws⟩ = pure (ps.zip ws.reverse)) : KBinds K fd ps ks gR gVR := by
  obtain ⟨oc, od, kV, doc, pm, an, cdv, ct, osl, rfl, lk, hcd⟩ := F.ex
  refine ⟨fun s us ws _ hl => ?_, fun {vs us zs ws} r1 r2 => ?_⟩
  · cases us with
    | nil =>
      have hl' : ws.length = ps.length := by
        have z : ws.reverse.length = ps.length := hl
        rw [List.length_reverse] at z; exact z
      exact .of_eq (h kV doc pm an cdv ct ws hl')
    | cons u us =>
      have z : ([] : List Value).length = ps.length := hl
      exact absurd (List.eq_nil_of_length_eq_zero z.symm) hp
  · cases r1 with
    | nil => exact vals_rev r2
    | cons _ _ => exact .nil
theorem pe_kw (D : Df X.K X.mg x st ps f fd) (G : FnOk X.prog X.w X.K X.mg X.base CX0 k f fd ps sp) (hr : Room k X.A) (hg : Gl X x) (hb : KBinds X.K fd ps ks gR gVR) (hkw : PK X kws tk)
    (hall : (backToKw pos (keywordEach kws X.env)).all (·.1.isSome) = true := by rfl) (hks : (backToKw pos (keywordEach kws X.env)).filterMap (·.1) = ks := by rfl) (hdb : (x == ("__debug__" : Str)) = false := by decide)
    (hpl : ((backTo pos (starEach [] X.env)).any (·.1) || (backToKw pos (keywordEach kws X.env)).any (·.1.isNone)) = false := by rfl) : PE X (.Call (.Name x p) [] kws pos) (tCallK sp gVR E0 tNil tk) := by
  refine ⟨fun pins s σ H Q I h => wpAny_Call_Name_kw (ld_glob I hg D.g ?_ hdb)⟩
  refine PySem.W.callWith_KW0 (h₀ := X.base) I.ok.mod.kin D.F.kp hall (thn (hkw.run pos pins s σ H _ I h) fun ws s2 ⟨zs, H2, I2, rz, q2⟩ => ⟨I2.kIn, ?_⟩) hpl
  rw [hks]
  exact run_fnk (us := []) (vs := []) G hr hb pass0 I2 .nil rz q2
end
theorem bLen : bootBuiltins "len" = some (.builtin "len") := by decide +kernel
theorem bAbs : bootBuiltins "abs" = some (.builtin "abs") := by decide +kernel
theorem bInt : bootBuiltins "int" = some (.type "int") := by decide +kernel
theorem bStr : bootBuiltins "str" = some (.type "str") := by decide +kernel
theorem bBool : bootBuiltins "bool" = some (.type "bool") := by decide +kernel
theorem bList : bootBuiltins "list" = some (.type "list") := by decide +kernel
theorem bTuple : bootBuiltins "tuple" = some (.type "tuple") := by decide +kernel
theorem bIsi : bootBuiltins "isinstance" = some (.builtin "isinstance") := by decide +kernel
theorem bAll : bootBuiltins "all" = some (.builtin "all") := by decide +kernel
theorem bMax : bootBuiltins "max" = some (.builtin "max") := by decide +kernel
theorem bRepr : bootBuiltins "repr" = some (.builtin "repr") := by decide +kernel
end Af
/-! ### isinstance, sizes of data -/
namespace Af
open PySem PySem.Spec PyProof.Rows L2
def tyN : PyData → String
  | .none => "NoneType"
  | .bool _ => "bool"
  | .int _ => "int"
  | .str _ => "str"
  | .list _ => "list"
  | .tuple _ => "tuple"
  | .dict _ => "dict"
section
variable {K : PySem.W.Frag} {H : Hp}
theorem tyx_list {a : Addr} {xs : List V} (h : SqL K H a xs) : TyX K H (.ref a) (.type "list") := by
  rcases h with (h | ⟨o, h⟩) | ⟨o, _, _, h, c, _⟩
  · exact .base (.lst h)
  · exact .base (.frz h)
  · exact .kList h c
theorem tyx_tup {a : Addr} {xs : List V} (h : SqT K H a xs) : TyX K H (.ref a) (.type "tuple") := by
  rcases h with (h | ⟨o, h⟩) | ⟨o, _, _, h, c, _⟩
  · exact .base (.tup h)
  · exact .fTuple h
  · exact .kTuple h c
theorem tyx_of {v : V} {d : PyData} (h : Dp K H v d) : TyX K H v (.type (tyN d)) := by
  cases h with
  | non => exact .base .non
  | bl b => exact .base (.bl b)
  | int i => exact .base (.int i)
  | str x => exact .base (.str x)
  | lst h _ => exact tyx_list h
  | tup h _ => exact tyx_tup h
theorem kit2 {a b1 b2 : String} {r1 r2 : Bool} (h1 : kitB a b1 = some r1) (h2 : kitB a b2 = some r2) : PySem.W.kitAny K (.type a) [.type b1, .type b2] = some (r1 || r2) := by
  refine kitAny_cons (kit_ty h1) (fun e => kitAny_cons (kit_ty h2) (fun e2 => ?_) fun e2 => ?_) fun e => ?_
  · rw [e, e2]; exact kitAny_nil
  · rw [e, e2]; rfl
  · rw [e]; rfl
end
/-- isinstance of data against a built-in class of the six -/
def isD (d : PyData) (T : String) : Bool := (tyN d == T) || (tyN d == "bool" && T == "int")
def six : List String := ["NoneType", "bool", "int", "str", "list", "tuple"]
theorem kit_six : ∀ a ∈ six, ∀ b ∈ ["bool", "int", "str", "list", "tuple"], kitB a b = some ((a == b) || (a == "bool" && b == "int")) := by decide +kernel
theorem tyN_six {K : PySem.W.Frag} {H : Hp} {v : V} {d : PyData} (h : Dp K H v d) : tyN d ∈ six := by
  cases h <;> simp [tyN, six]
theorem kit_is {K : PySem.W.Frag} {H : Hp} {v : V} {d : PyData} {T : String} (h : Dp K H v d) (hT : T ∈ ["bool", "int", "str", "list", "tuple"]) : kitB (tyN d) T = some (isD d T) := kit_six _ (tyN_six h) T hT
def five : List String := ["bool", "int", "str", "list", "tuple"]
theorem call_isD {X : Cx} : CallR X (.builtin "isinstance") (fun xs H Q => ∃ (v : V) (c : String) (d : PyData), xs = [v, .ty c] ∧ c ∈ five ∧ Dp X.K H v d ∧ Q (.bl (isD d c)) H) := by
  intro pins s σ H xs us Q I r h
  obtain ⟨v, c, d, rfl, hc, hd, q⟩ := h
  exact call_isi pins s σ H _ us Q I r ⟨v, .ty c, _, _, _, rfl, .ty c, tyx_of hd, kit_ty (kit_is hd hc), q⟩
theorem call_isD2 {X : Cx} : CallR X (.builtin "isinstance") (fun xs H Q => ∃ (v : V) (tp : Addr) (c1 c2 : String) (d : PyData), xs = [v, .ref tp] ∧ H tp = some (.tup [.ty c1, .ty c2]) ∧ c1 ∈ five ∧ c2 ∈ five ∧ Dp X.K H v d ∧ Q (.bl (isD d c1 || isD d c2)) H) := by
  intro pins s σ H xs us Q I r h
  obtain ⟨v, tp, c1, c2, d, rfl, ht, h1, h2, hd, q⟩ := h
  exact call_isiT pins s σ H _ us Q I r ⟨v, tp, _, _, _, _, rfl, ht, .cons (.ty c1) (.cons (.ty c2) .nil), tyx_of hd, kit2 (kit_is hd h1) (kit_is hd h2), q⟩
/-- sizes -/
theorem bulk_len : ∀ ds : List PyData, ds.length ≤ PyData.bulkAll ds
  | [] => by simp
  | d :: ds => by have := bulk_len ds; simp only [PyData.bulkAll, List.length_cons]; omega
theorem bulk_mem : ∀ {ds : List PyData} {d : PyData}, d ∈ ds → d.bulk + 1 ≤ PyData.bulkAll ds
  | [], _, h => by cases h
  | x :: ds, d, h => by
    simp only [PyData.bulkAll]
    rcases List.mem_cons.mp h with rfl | h
    · omega
    · have := bulk_mem h; omega
theorem depth_mem : ∀ {ds : List PyData} {d : PyData}, d ∈ ds → d.depth ≤ PyData.depthAll ds
  | [], _, h => by cases h
  | x :: ds, d, h => by
    simp only [PyData.depthAll]
    rcases List.mem_cons.mp h with rfl | h
    · omega
    · have := depth_mem h; omega
end Af
/-! ### a list or a tuple, walked; what is new -/
namespace Af
open PySem PySem.Spec PyProof.Rows L2
def SqB (K : PySem.W.Frag) : Bool → Hp → Addr → List V → Prop
  | true, H, a, xs => SqL K H a xs
  | false, H, a, xs => SqT K H a xs
theorem SqB.up {K : PySem.W.Frag} {H H' : Hp} {a : Addr} {xs : List V} {b : Bool} (h : SqB K b H a xs) (s : Same H H') : SqB K b H' a xs := by
  cases b with
  | true => exact s.seq h
  | false => exact sqt_mono s h
theorem SqB.sq {K : PySem.W.Frag} {H : Hp} {a : Addr} {xs : List V} {b : Bool} (h : SqB K b H a xs) : Sq K H a xs := by
  cases b with
  | true => exact .inl h
  | false => exact .inr h
theorem Sq.kind {K : PySem.W.Frag} {H : Hp} {a : Addr} {xs : List V} (h : Sq K H a xs) : ∃ b, SqB K b H a xs := by
  rcases h with h | h
  · exact ⟨true, h⟩
  · exact ⟨false, h⟩
def iSeq (K : PySem.W.Frag) (tl : TE) : TI := fun σ H R => tl σ H fun x H1 => ∃ (a : Addr) (xs : List V) (b : Bool), x = .ref a ∧ SqB K b H1 a xs ∧ ∀ J, Walk J xs.length (fun H => SqB K b H a xs) (YAt xs) → R J H1
theorem pi_seq {X : Cx} {tg l : Expr} {tl : TE} (hl : PE X l tl) : PI X tg l (iSeq X.K tl) := by
  refine ⟨fun pins s σ H R I h => thn (hl.run pins s σ H _ I h) fun v s1 ⟨x, H1, I1, r1, q1⟩ => ?_⟩
  obtain ⟨a, xs, b, rfl, hq, q⟩ := q1
  cases r1
  have fr : ∀ c ∈ [s1.heap.objs.size], FpOk X pins H1 c := fun c hc => by
    obtain rfl : c = s1.heap.objs.size := by simpa using hc
    exact I1.fpOk (Nat.le_refl _) (I1.hok.fresh (Nat.le_refl _))
  cases b with
  | true =>
    obtain ⟨its, rv, pl, _⟩ := I1.list (show SqL X.K H1 a xs from hq)
    exact wpAny_pyIter_list pl.isList ⟨s1.heap.objs.size, [s1.heap.objs.size], _, _, H1, rfl, I1.kept (t' := s1.toks) fun b o e => Heap.get?_push_of_some _ e, turn_list a _, ⟨_, Heap.get?_push_size _ rfl, rfl, rfl⟩, fr, q _ walk_list⟩
  | false =>
    obtain ⟨its, rv, pl, _⟩ := I1.tuple (show SqT X.K H1 a xs from hq)
    exact wpAny_pyIter_tuple (show s1.heap.IsTuple a its.toArray from pl) ⟨s1.heap.objs.size, [s1.heap.objs.size], _, _, H1, rfl, I1.kept (t' := s1.toks) fun b o e => Heap.get?_push_of_some _ e, turn_tuple a _, ⟨_, Heap.get?_push_size _ rfl, rfl, rfl⟩, fr, q _ walk_tup⟩
/-- what was laid since H -/
def fresh (H H' : Hp) : Hp := fun a => match H a with
  | none => H' a
  | some _ => none
theorem fresh_at {H H' : Hp} {a : Addr} (h : H a = none) : fresh H H' a = H' a := by unfold fresh; rw [h]
theorem fresh_inv {H H' : Hp} {a : Addr} {o : HO} (h : fresh H H' a = some o) : H a = none ∧ H' a = some o := by
  unfold fresh at h
  cases e : H a with
  | none => rw [e] at h; exact ⟨rfl, h⟩
  | some x => rw [e] at h; cases h
theorem fresh_le {H H' : Hp} : Same (fresh H H') H' := fun a o e => (fresh_inv e).2
theorem fresh_up {H H1 H2 : Hp} (s : Same H1 H2) : Same (fresh H H1) (fresh H H2) := fun a o e => by
  obtain ⟨h1, h2⟩ := fresh_inv e
  rw [fresh_at h1]; exact s _ _ h2
theorem fresh_down {H0 H H1 : Hp} (s : Same H0 H) : Same (fresh H H1) (fresh H0 H1) := fun a o e => by
  obtain ⟨h1, h2⟩ := fresh_inv e
  rw [fresh_at (s.free h1)]; exact h2
theorem fresh_hid {H H' : Hp} {z : Addr} (hz : H z ≠ none) : Same (fresh H H') (hid H' z) := fun a o e => by
  obtain ⟨h1, h2⟩ := fresh_inv e
  rw [hid_ne (fun q => hz (by rw [← q]; exact h1))]; exact h2
/-- data that was made since H -/
def NewD (K : PySem.W.Frag) (H H' : Hp) (v : V) (d : PyData) : Prop := Dp K (fresh H H') v d
def NewDs (K : PySem.W.Frag) (H H' : Hp) (vs : List V) (ds : List PyData) : Prop := DpAll K (fresh H H') vs ds
section
variable {K : PySem.W.Frag} {H0 H H1 H2 : Hp} {v : V} {d : PyData} {vs : List V} {ds : List PyData}
theorem NewD.up (h : NewD K H H1 v d) (s : Same H1 H2) : NewD K H H2 v d := dp_up h (fresh_up s)
theorem NewD.down (h : NewD K H H1 v d) (s : Same H0 H) : NewD K H0 H1 v d := dp_up h (fresh_down s)
theorem NewD.dp (h : NewD K H H1 v d) : Dp K H1 v d := dp_up h fresh_le
theorem NewD.hid {z : Addr} (h : NewD K H H1 v d) (hz : H z ≠ none) : Dp K (hid H1 z) v d := dp_up h (fresh_hid hz)
theorem NewDs.up (h : NewDs K H H1 vs ds) (s : Same H1 H2) : NewDs K H H2 vs ds := dps_up h (fresh_up s)
theorem NewDs.len (h : NewDs K H H1 vs ds) : vs.length = ds.length := dps_len h
theorem new_ints (ns : List Int) : NewDs K H H1 (ns.map V.int) (ns.map PyData.int) := dps_ints ns
theorem new_lst {p : Addr} (hp : H p = none) (e : H1 p = some (.lst vs)) (h : NewDs K H H1 vs ds) : NewD K H H1 (.ref p) (.list ds) := .lst (SqL.of (by rw [fresh_at hp]; exact e)) h
theorem new_tup {p : Addr} (hp : H p = none) (e : H1 p = some (.tup vs)) (h : NewDs K H H1 vs ds) : NewD K H H1 (.ref p) (.tuple ds) := .tup (.inl (.inl (by rw [fresh_at hp]; exact e))) h
/-- one more item of a list that grows at D -/
theorem acc_step {D : Addr} {o : HO} (h : DpAll K (hid (fresh H H1) D) vs ds) (hD : H1 D ≠ none) (s0 : Same H H1) (s1 : Same H1 H2) (g : NewD K H1 H2 v d) : DpAll K (hid (fresh H (upd H2 D o)) D) (vs ++ [v]) (ds ++ [d]) := by
  have k1 : Same (hid (fresh H H1) D) (hid (fresh H (upd H2 D o)) D) := fun a x e => by
    obtain ⟨n1, e1⟩ := hid_some e
    obtain ⟨e2, e3⟩ := fresh_inv e1
    rw [hid_ne n1, fresh_at e2, upd_ne n1]; exact s1 _ _ e3
  have k2 : Same (fresh H1 H2) (hid (fresh H (upd H2 D o)) D) := fun a x e => by
    obtain ⟨e2, e3⟩ := fresh_inv e
    have n1 : a ≠ D := fun q => hD (by rw [← q]; exact e2)
    rw [hid_ne n1, fresh_at (s0.free e2), upd_ne n1]; exact e3
  exact dps_app (dps_up h k1) (.cons (dp_up g k2) .nil)
theorem acc_done {D : Addr} (h : DpAll K (hid (fresh H H1) D) vs ds) : NewDs K H H1 vs ds := dps_up h hid_le
end
/-! lists in the place of tuples, at any depth -/
mutual
def lsD : PyData → PyData
  | .list ds => .list (lsDs ds)
  | .tuple ds => .list (lsDs ds)
  | .none => .none
  | .bool b => .bool b
  | .int i => .int i
  | .str x => .str x
  | .dict kvs => .dict kvs
def lsDs : List PyData → List PyData
  | [] => []
  | d :: ds => lsD d :: lsDs ds
end
theorem lsDs_len : ∀ ds : List PyData, (lsDs ds).length = ds.length
  | [] => by simp [lsDs]
  | d :: ds => by simp [lsDs, lsDs_len ds]
theorem lsDs_take : ∀ (ds : List PyData) (i : Nat) (d : PyData), ds[i]? = some d → (lsDs ds).take (i + 1) = (lsDs ds).take i ++ [lsD d]
  | [], _, _, e => by simp at e
  | x :: ds, 0, d, e => by simp at e; subst e; simp [lsDs]
  | x :: ds, i + 1, d, e => by
    have := lsDs_take ds i d (by simpa using e)
    simp only [lsDs, List.take_succ_cons]
    rw [this]; rfl
theorem lsDs_ints : ∀ ns : List Int, lsDs (ns.map PyData.int) = ns.map PyData.int
  | [] => by simp [lsDs]
  | n :: ns => by simp [lsDs, lsD, lsDs_ints ns]
theorem lsD_row (ns : List Int) : lsD (rowT ns) = rowL ns := by simp only [rowT, rowL, lsD, lsDs_ints]
theorem lsDs_rows : ∀ B : List (List Int), lsDs (B.map rowT) = B.map rowL
  | [] => by simp [lsDs]
  | r :: B => by simp [lsDs, lsD_row, lsDs_rows B]
theorem lsD_book (B : List (List Int)) : lsD (bookT B) = bookL B := by simp only [bookT, bookL, lsD, lsDs_rows]
end Af
/-! ### good books, standings -/
namespace Af
open PySem PySem.Spec PyProof.Rows L2
theorem foldl_max_ge : ∀ (ns : List Int) (n : Int), n ≤ ns.foldl max n ∧ ∀ x ∈ ns, x ≤ ns.foldl max n
  | [], n => ⟨Int.le_refl _, fun _ h => by cases h⟩
  | m :: ns, n => by
    obtain ⟨h1, h2⟩ := foldl_max_ge ns (max n m)
    refine ⟨Int.le_trans (Int.le_max_left n m) h1, fun x hx => ?_⟩
    rcases List.mem_cons.mp hx with rfl | hx
    · exact Int.le_trans (Int.le_max_right n x) h1
    · exact h2 x hx
theorem foldl_max_le {b : Int} : ∀ (ns : List Int) (n : Int), n ≤ b → (∀ x ∈ ns, x ≤ b) → ns.foldl max n ≤ b
  | [], n, h, _ => h
  | m :: ns, n, h, g => foldl_max_le ns (max n m) (Int.max_le.mpr ⟨h, g m List.mem_cons_self⟩) fun x hx => g x (List.mem_cons_of_mem _ hx)
/-- a book whose ladders have at most hi rungs -/
structure GoodB (B : List (List Int)) (hi : Int) : Prop where
  first : ∃ n, B[0]? = some [n]
  wide : ∀ (k : Nat) (n : Int) (ns r : List Int), B[k]? = some (n :: ns) → B[k + 1]? = some r → (r.length : Int) = ns.foldl max n
  pos : ∀ r ∈ B, ∀ x ∈ r, 1 ≤ x ∧ x ≤ hi
  full : ∀ r ∈ B, r ≠ []
def StandsTo (B : List (List Int)) (R : List Int) (k : Nat) : Prop := ∀ c, c < k → ∃ n r, lenAt B R c = some n ∧ R[c]? = some r ∧ 1 ≤ r ∧ r ≤ n
structure Stands (B : List (List Int)) (R : List Int) : Prop where
  len : R.length = B.length
  all : StandsTo B R B.length
theorem len_ex {B : List (List Int)} {hi : Int} {R : List Int} {k : Nat} (G : GoodB B hi) (hk : k < B.length) (S : StandsTo B R k) : ∃ n, lenAt B R k = some n ∧ 1 ≤ n ∧ n ≤ hi := by
  cases k with
  | zero =>
    obtain ⟨n, e⟩ := G.first
    refine ⟨n, ?_, G.pos [n] (List.mem_of_getElem? e) n List.mem_cons_self⟩
    show ((B[0]?).bind fun row => row[0]?) = some n
    rw [e]; rfl
  | succ k =>
    obtain ⟨m, r, e1, e2, r1, r2⟩ := S k (Nat.lt_succ_self k)
    have hk0 : k < B.length := by omega
    obtain ⟨row, e3⟩ : ∃ row, B[k]? = some row := ⟨_, List.getElem?_eq_getElem hk0⟩
    obtain ⟨row2, e4⟩ : ∃ row, B[k + 1]? = some row := ⟨_, List.getElem?_eq_getElem hk⟩
    have hm : m ∈ row := by
      cases k with
      | zero =>
        obtain ⟨rw0, g1, g2⟩ := lenAt_zero e1
        rw [e3] at g1; cases g1
        exact List.mem_of_getElem? g2
      | succ k =>
        obtain ⟨rw0, _, g1, _, _, g2⟩ := lenAt_succ e1
        rw [e3] at g1; cases g1
        exact List.mem_of_getElem? g2
    cases row with
    | nil => cases hm
    | cons n ns =>
      have hw := G.wide k n ns row2 e3 e4
      have hle : m ≤ ns.foldl max n := by
        rcases List.mem_cons.mp hm with rfl | hm
        · exact (foldl_max_ge ns m).1
        · exact (foldl_max_ge ns n).2 m hm
      have hlt : (r - 1).toNat < row2.length := by omega
      have e5 : row2[(r - 1).toNat]? = some row2[(r - 1).toNat] := List.getElem?_eq_getElem hlt
      exact ⟨_, lenAt_mk e4 e2 r1 e5, G.pos row2 (List.mem_of_getElem? e4) _ (List.mem_of_getElem? e5)⟩
/-- the lengths of all ladders -/
def lensL (B : List (List Int)) (R : List Int) : List Int := (List.range B.length).map fun c => (lenAt B R c).getD 0
theorem lensL_len (B : List (List Int)) (R : List Int) : (lensL B R).length = B.length := by unfold lensL; rw [List.length_map, List.length_range]
theorem lensL_get {B : List (List Int)} {R : List Int} {c : Nat} (h : c < B.length) : (lensL B R)[c]? = some ((lenAt B R c).getD 0) := by
  unfold lensL
  rw [List.getElem?_map, List.getElem?_range h]; rfl
theorem stand_len {B : List (List Int)} {R : List Int} (S : Stands B R) {c : Nat} (h : c < B.length) : lenAt B R c = some ((lenAt B R c).getD 0) := by
  obtain ⟨n, r, e, _⟩ := S.all c h
  rw [e]; rfl
theorem getD_of {o : Option Int} {n : Int} (h : o = some n) : o.getD 0 = n := by rw [h]; rfl
theorem getElem?_app {R : List Int} {x : Int} {c : Nat} (h : c < R.length) : (R ++ [x])[c]? = R[c]? := List.getElem?_append_left h
theorem stands_snoc {B : List (List Int)} {R : List Int} {n x : Int} (S : StandsTo B R R.length) (e : lenAt B R R.length = some n) (h1 : 1 ≤ x) (h2 : x ≤ n) : StandsTo B (R ++ [x]) (R.length + 1) := by
  intro c hc
  by_cases h : c < R.length
  · obtain ⟨m, r, e1, e2, e3⟩ := S c h
    refine ⟨m, r, ?_, ?_, e3⟩
    · rw [← e1]; exact lenAt_pre fun i hi => getElem?_app (by omega)
    · rw [getElem?_app h]; exact e2
  · have hc' : c = R.length := by omega
    subst hc'
    refine ⟨n, x, ?_, by simp, h1, h2⟩
    rw [← e]; exact lenAt_pre fun i hi => getElem?_app hi
theorem good_one {n hi : Int} (h1 : 1 ≤ n) (h2 : n ≤ hi) : GoodB [[n]] hi :=
  ⟨⟨n, rfl⟩, fun k m ns r e1 e2 => by cases k <;> simp at e2, fun r hr x hx => by
    obtain rfl : r = [n] := by simpa using hr
    obtain rfl : x = n := by simpa using hx
    exact ⟨h1, h2⟩, fun r hr => by
    obtain rfl : r = [n] := by simpa using hr
    exact fun z => nomatch z⟩
theorem good_snoc {B : List (List Int)} {hi n : Int} {ns row : List Int} (G : GoodB (B ++ [n :: ns]) hi) (hl : (row.length : Int) = ns.foldl max n) (hp : ∀ x ∈ row, 1 ≤ x ∧ x ≤ hi) : GoodB (B ++ [n :: ns] ++ [row]) hi := by
  have n1 : 1 ≤ n := (G.pos (n :: ns) (by simp) n List.mem_cons_self).1
  have m1 := (foldl_max_ge ns n).1
  refine ⟨?_, fun k m ms r e1 e2 => ?_, fun r hr x hx => ?_, fun r hr => ?_⟩
  · obtain ⟨z, e⟩ := G.first
    exact ⟨z, by rw [List.getElem?_append_left (by simp)]; exact e⟩
  · by_cases h : k + 1 < (B ++ [n :: ns]).length
    · rw [List.getElem?_append_left (by omega)] at e1
      rw [List.getElem?_append_left h] at e2
      exact G.wide k m ms r e1 e2
    · have hk : k + 1 < (B ++ [n :: ns] ++ [row]).length := (List.getElem?_eq_some_iff.mp e2).1
      simp only [List.length_append, List.length_cons, List.length_nil] at h hk
      have ek : k = B.length := by omega
      subst ek
      have e1' : (B ++ [n :: ns] ++ [row])[B.length]? = some (n :: ns) := by simp
      have e2' : (B ++ [n :: ns] ++ [row])[B.length + 1]? = some row := by simp
      rw [e1'] at e1; rw [e2'] at e2
      cases e1; cases e2
      exact hl
  · rcases List.mem_append.mp hr with h | h
    · exact G.pos r h x hx
    · obtain rfl : r = row := by simpa using h
      exact hp x hx
  · rcases List.mem_append.mp hr with h | h
    · exact G.full r h
    · obtain rfl : r = row := by simpa using h
      intro z; subst z; simp at hl; omega
/-! heaps with a box -/
theorem hid_eq {H H' : Hp} {b a : Addr} (h : hid H' b = hid H b) (ha : a ≠ b) : H' a = H a := by
  have := congrFun h a
  rwa [hid_ne ha, hid_ne ha] at this
theorem hid_eq_same {H H' : Hp} {b : Addr} (h : hid H' b = hid H b) : Same (hid H b) (hid H' b) := by rw [h]; exact Same.refl _
end Af
/-! ### small data: it can be shown -/
namespace Af
open PySem PySem.Spec PyProof.Rows L2
structure Sml (d : PyData) : Prop where
  shw : d.showable = true
  nod : d.hasDict = false
  shrt : d.leavesShort 13 = true
  lay : d.canLay0 = true
theorem sml_int {i : Int} (h : i.natAbs ≤ 1000000) : Sml (.int i) := by
  refine ⟨?_, by simp only [PyData.hasDict], ?_, by simp only [PyData.canLay0]⟩
  · simp only [PyData.showable]
    refine decide_eq_true ?_
    by_cases z : i.natAbs = 0
    · rw [z]; decide
    · have h1 : i.natAbs.log2 < 20 := (Nat.log2_lt z).mpr (by omega)
      omega
  · have h1 := int_text_length_le10 (a := i) (k := 7) (by decide) (by omega)
    simp only [PyData.leavesShort]
    refine decide_eq_true ?_
    show (Str.ofString (toString i)).length ≤ 13
    rw [PySem.ofString_length]; omega
theorem sml_bool (b : Bool) : Sml (.bool b) := ⟨by simp only [PyData.showable], by simp only [PyData.hasDict], by simp only [PyData.leavesShort], by simp only [PyData.canLay0]⟩
theorem sml_none : Sml .none := ⟨by simp only [PyData.showable], by simp only [PyData.hasDict], by simp only [PyData.leavesShort], by simp only [PyData.canLay0]⟩
theorem sml_all : ∀ {ds : List PyData}, (∀ d ∈ ds, Sml d) → PyData.showableAll ds = true ∧ PyData.hasDictAll ds = false ∧ PyData.leavesShortAll 13 ds = true ∧ PyData.canLayAll0 ds = true
  | [], _ => by simp [PyData.showableAll, PyData.hasDictAll, PyData.leavesShortAll, PyData.canLayAll0]
  | d :: ds, h => by
    have h1 := h d List.mem_cons_self
    have h2 := sml_all (ds := ds) fun x hx => h x (List.mem_cons_of_mem _ hx)
    simp [PyData.showableAll, PyData.hasDictAll, PyData.leavesShortAll, PyData.canLayAll0, h1.shw, h1.nod, h1.shrt, h1.lay, h2.1, h2.2.1, h2.2.2.1, h2.2.2.2]
theorem sml_list {ds : List PyData} (h : ∀ d ∈ ds, Sml d) : Sml (.list ds) := by
  have q := sml_all h
  exact ⟨by simp only [PyData.showable]; exact q.1, by simp only [PyData.hasDict]; exact q.2.1, by simp only [PyData.leavesShort]; exact q.2.2.1, by simp only [PyData.canLay0]; exact q.2.2.2⟩
theorem sml_tup {ds : List PyData} (h : ∀ d ∈ ds, Sml d) : Sml (.tuple ds) := by
  have q := sml_all h
  exact ⟨by simp only [PyData.showable]; exact q.1, by simp only [PyData.hasDict]; exact q.2.1, by simp only [PyData.leavesShort]; exact q.2.2.1, by simp only [PyData.canLay0]; exact q.2.2.2⟩
theorem Sml.fits {d : PyData} (S : Sml d) (h : d.bulk ≤ 1000000) : d.shown.length ≤ sizeLine := by
  have h1 := PyData.shown_le_bulk 13 (by decide) d S.shrt
  have h2 := sizeLine_eq
  omega
theorem sml_row {ns : List Int} (h : ∀ x ∈ ns, x.natAbs ≤ 1000000) : Sml (rowT ns) := sml_tup fun d hd => by
  obtain ⟨x, hx, rfl⟩ := List.mem_map.mp hd
  exact sml_int (h x hx)
theorem bulk_ints : ∀ ns : List Int, PyData.bulkAll (ns.map PyData.int) = ns.length
  | [] => by simp [PyData.bulkAll]
  | n :: ns => by simp [PyData.bulkAll, PyData.bulk, bulk_ints ns]; omega
theorem bulk_row (ns : List Int) : (rowT ns).bulk = ns.length := by simp only [rowT, PyData.bulk, bulk_ints]
theorem bulk_rowL (ns : List Int) : (rowL ns).bulk = ns.length := by simp only [rowL, PyData.bulk, bulk_ints]
theorem depth_row (ns : List Int) : (rowT ns).depth = 1 := by simp only [rowT, PyData.depth, depth_ints]
theorem depth_rowL (ns : List Int) : (rowL ns).depth = 1 := by simp only [rowL, PyData.depth, depth_ints]
theorem bulk_rows {m : Nat} : ∀ (B : List (List Int)), (∀ r ∈ B, r.length ≤ m) → PyData.bulkAll (B.map rowT) ≤ B.length * (m + 1)
  | [], _ => by simp [PyData.bulkAll]
  | r :: B, h => by
    have h1 := bulk_rows B fun x hx => h x (List.mem_cons_of_mem _ hx)
    have h2 := h r List.mem_cons_self
    simp only [List.map_cons, PyData.bulkAll, bulk_row, List.length_cons]
    have e : (B.length + 1) * (m + 1) = B.length * (m + 1) + (m + 1) := Nat.succ_mul _ _
    omega
theorem depth_rows : ∀ (B : List (List Int)), PyData.depthAll (B.map rowT) ≤ 1
  | [] => by simp [PyData.depthAll]
  | r :: B => by
    have h1 := depth_rows B
    simp only [List.map_cons, PyData.depthAll, depth_row]
    omega
theorem depth_book (B : List (List Int)) : (bookT B).depth ≤ 2 := by
  have := depth_rows B
  simp only [bookT, PyData.depth]; omega
theorem good_rows {B : List (List Int)} {hi : Nat} (G : GoodB B hi) (h1 : 1 ≤ hi) : ∀ r ∈ B, r.length ≤ hi := by
  intro r hr
  obtain ⟨k, hk, e⟩ := List.getElem_of_mem hr
  have e' : B[k]? = some r := by rw [List.getElem?_eq_getElem hk, e]
  cases k with
  | zero =>
    obtain ⟨n, e2⟩ := G.first
    rw [e'] at e2; cases e2
    exact h1
  | succ k =>
    have hk0 : k < B.length := by omega
    have e3 : B[k]? = some B[k] := List.getElem?_eq_getElem hk0
    have hm : B[k] ∈ B := List.getElem_mem hk0
    cases z : B[k] with
    | nil => exact absurd z (G.full _ hm)
    | cons n ns =>
      rw [z] at e3 hm
      have hw := G.wide k n ns r e3 e'
      have p1 := G.pos _ hm
      have := foldl_max_le ns n (p1 n List.mem_cons_self).2 fun x hx => (p1 x (List.mem_cons_of_mem _ hx)).2
      omega
theorem bulk_book {B : List (List Int)} {hi : Nat} (G : GoodB B hi) (h1 : 1 ≤ hi) (h2 : hi ≤ 100) (h3 : B.length ≤ 100) : (bookT B).bulk ≤ 11000 := by
  have h := bulk_rows B (good_rows G h1)
  simp only [bookT, PyData.bulk]
  have : B.length * (hi + 1) ≤ 100 * 101 := Nat.mul_le_mul h3 (by omega)
  omega
theorem sml_book {B : List (List Int)} {hi : Nat} (G : GoodB B hi) (h2 : hi ≤ 1000) : Sml (bookT B) := sml_tup fun d hd => by
  obtain ⟨r, hr, rfl⟩ := List.mem_map.mp hd
  exact sml_row fun x hx => by have := G.pos r hr x hx; omega
theorem stands_mem {B : List (List Int)} {hi : Int} {R : List Int} (G : GoodB B hi) (S : Stands B R) : ∀ x ∈ R, 1 ≤ x ∧ x ≤ hi := by
  intro x hx
  obtain ⟨c, hc, e⟩ := List.getElem_of_mem hx
  have hc' : c < B.length := by rw [← S.len]; exact hc
  obtain ⟨n, r, e1, e2, r1, r2⟩ := S.all c hc'
  rw [List.getElem?_eq_getElem hc, e] at e2
  cases e2
  obtain ⟨n', e3, _, e4⟩ := len_ex G hc' (fun i hi => S.all i (by omega))
  rw [e1] at e3; cases e3
  exact ⟨r1, by omega⟩
theorem sml_stand {B : List (List Int)} {hi : Int} {R : List Int} (G : GoodB B hi) (h : hi ≤ 1000) (S : Stands B R) : Sml (rowT R) := sml_row fun x hx => by
  have := stands_mem G S x hx; omega
/-- small enough for _law_same, _law_lists -/
structure Sz (d : PyData) : Prop where
  dep : d.depth < 10
  blk : d.bulk ≤ 1000000
/-- small enough for repr -/
structure Fit (d : PyData) : Prop where
  shw : d.showable = true
  nod : d.hasDict = false
  dep : d.depth ≤ 60
  len : d.shown.length ≤ sizeLine
theorem fit_of {d : PyData} (S : Sml d) (z : Sz d) : Fit d := ⟨S.shw, S.nod, by have := z.dep; omega, S.fits z.blk⟩
theorem sz_row {ns : List Int} (h : ns.length ≤ 1000) : Sz (rowT ns) := ⟨by rw [depth_row]; decide, by rw [bulk_row]; omega⟩
theorem sz_rowL {ns : List Int} (h : ns.length ≤ 1000) : Sz (rowL ns) := ⟨by rw [depth_rowL]; decide, by rw [bulk_rowL]; omega⟩
theorem sz_book {B : List (List Int)} {hi : Nat} (G : GoodB B hi) (h1 : 1 ≤ hi) (h2 : hi ≤ 100) (h3 : B.length ≤ 100) : Sz (bookT B) :=
  ⟨by have := depth_book B; omega, by have := bulk_book G h1 h2 h3; omega⟩
end Af
/-! ### enumerate of a tuple -/
namespace Af
open PySem PySem.Spec PyProof.Rows L2
theorem draws_tup {prog : Program} {w : World} {A : Around} (hh : A.handled = none) (it l : Addr) (hne : l ≠ it) (items : Array Value) :
    Draws prog w A it [it, l] items.size (fun i v => items[i]? = some v) (fun i h => h.IsTupleIter it l i ∧ h.IsTuple l items) where
  live := fun _ _ st => let ⟨o, ho, _⟩ := st.1; ⟨o, ho⟩
  frame := fun _ _ _ st hk => by
    obtain ⟨⟨o, ho, r⟩, ⟨o2, ho2, r2⟩⟩ := st
    exact ⟨⟨o, hk it (by simp) o ho, r⟩, ⟨o2, hk l (by simp) o2 ho2, r2⟩⟩
  item := fun i s Q E hi st hQ => RZ.nextOf_tuple_item st.1 st.2 (x := items[i]) (by simp [hi]) fun h' hit' hs' => hQ _ h' s.toks (by simp [hi]) ⟨hit', st.2.extBut hs'.extBut hne⟩ hs'
  done := fun s Q E st hE => RZ.nextOf_tuple_end hh st.1 st.2 (by simp) hE
set_option maxHeartbeats 1000000 in
theorem meets_enum_tup (l : Addr) (items : Array Value) (n : Nat) (dct : Option Addr) (sl : Array (Option Value)) :
    Meets (Builtin.«enumerate.__new__» ⟨[.type "enumerate", .ref l], []⟩) (fun _ R s => s.heap.get? l = some { cls := .type "tuple", dict := dct, data := .seq items n, slots := sl } ∧
      R (.ok (.ret (.ref (s.heap.push { cls := .type "tuple_iterator", data := .fields #[.ref l, .int 0 0] }).objs.size)))
        { s with heap := (s.heap.push { cls := .type "tuple_iterator", data := .fields #[.ref l, .int 0 0] }).push { cls := .type "enumerate", data := .fields #[.none, .bool false, .ref s.heap.objs.size, rawInt 0, .none, .none] } }) :=
  .of_wp fun prog w A R s h => by
    obtain ⟨hp, g, d, tk, os⟩ := s
    obtain ⟨hl, h⟩ := h
    have sbe := sub_enumerate
    have hT : Heap.IsTuple (Shared.heap ⟨hp, g, d, tk, os⟩) l items := ⟨_, hl, rfl, n, rfl⟩
    wp_walk using AutoSeq1.wpAny_loadPart' hl
    refine wpAny_stack_any fun st => wpAny_pure ?_
    split
    · rename_i c _ _ _ _ _
      cases (c == Value.type "enumerate")
      · wp_walk using AutoSeq1.wpAny_loadPart' hl, wpAny_pyIter_tuple hT
        exact ⟨_, rfl, h⟩
      · wp_walk using AutoSeq1.wpAny_loadPart' hl, wpAny_pyIter_tuple hT
        exact ⟨_, rfl, h⟩
    · wp_walk using AutoSeq1.wpAny_loadPart' hl, wpAny_pyIter_tuple hT
      exact ⟨_, rfl, h⟩
theorem call_enum_tup {prog : Program} {w : World} {A : Around} {E : Value → Shared → Prop} {s : Shared} {l : Addr} {items : Array Value} {Q : Value → Shared → Prop} (hL : s.heap.IsTuple l items)
    (h : ∀ h', IsEnum h' (s.heap.objs.size + 1) s.heap.objs.size 0 .none → h'.IsTupleIter s.heap.objs.size l 0 → h'.objs.size = s.heap.objs.size + 2 →
      (∀ b o, s.heap.get? b = some o → h'.get? b = some o) → Q (.ref (s.heap.objs.size + 1)) { s with heap := h' }) :
    wpAny (model prog w) A (call (.type "enumerate") [.ref l]) Q E s := by
  obtain ⟨⟨c, dct, dt, sl⟩, hl, hc, n, hd⟩ := hL
  replace hc : c = .type "tuple" := hc
  replace hd : dt = .seq items n := hd
  subst hc hd
  refine callType_new F.called_enumerate (by decide) (F.typeCall_enumerate_1 _) (F.newCall_enumerate_1 _) (fun obj => F.args_object_init_2 obj _) F.entry_enumerate_new (meets_enum_tup l items n dct sl) ⟨hl, ?_⟩
  have hz : (s.heap.push { cls := .type "tuple_iterator", data := .fields #[.ref l, .int 0 0] }).objs.size = s.heap.objs.size + 1 := Heap.size_push ..
  show _ ∧ _
  rw [hz]
  have he : IsEnum ((s.heap.push { cls := .type "tuple_iterator", data := .fields #[.ref l, .int 0 0] }).push { cls := .type "enumerate", data := .fields #[.none, .bool false, .ref s.heap.objs.size, rawInt 0, .none, .none] }) (s.heap.objs.size + 1) s.heap.objs.size 0 .none := by
    have z := Heap.get?_push_size (s.heap.push { cls := .type "tuple_iterator", data := .fields #[.ref l, .int 0 0] }) (o := { cls := .type "enumerate", data := .fields #[.none, .bool false, .ref s.heap.objs.size, rawInt 0, .none, .none] }) rfl
    rw [hz] at z; exact z
  exact ⟨⟨_, he, rfl⟩, h _ he ⟨_, Heap.get?_push_of_some _ (Heap.get?_push_size _ rfl), rfl, rfl⟩ (by rw [Heap.size_push, hz]) fun b o x => Heap.get?_push_of_some _ (Heap.get?_push_of_some _ x)⟩
/-- the tuple at a, each item in a new pair with its place -/
def ItT (K : PySem.W.Frag) (a : Addr) : It :=
  ⟨fun i H => ∃ (xs : List V) (x : V), SqT K H a xs ∧ xs[i]? = some x, fun i H v H' => ∃ Tq x, v = .ref Tq ∧ H Tq = none ∧ H' = upd H Tq (.tup [.int (i : Nat), x]) ∧ ∀ xs, SqT K H a xs → xs[i]? = some x, fun i H => ∃ xs : List V, SqT K H a xs ∧ xs.length = i⟩
theorem turn_enumT {P : Program} {w : World} {K : PySem.W.Frag} {elts : List Expr} {kk : Nat} {tpos : Pos} (a e it : Addr) (hae : a ≠ e) (hai : a ≠ it) :
    Turn P w K (.Tuple elts kk tpos) (ItT K a) [e, it] e (fun i h => (∃ old, IsEnum h e it ((i : Nat) : Int) old) ∧ h.IsTupleIter it a i ∧ e ≠ it) where
  mem := by simp
  obj := fun i h st b hb => by
    obtain ⟨⟨old, he⟩, ⟨o, ho, hc, hd⟩, _⟩ := st
    rcases (show b = e ∨ b = it by simpa using hb) with z | z
    · rw [z]; exact ⟨_, he, fun v q => nomatch q⟩
    · rw [z]; exact ⟨o, ho, fun v q => by rw [hd] at q; cases q⟩
  keep := fun i h h' st k => by
    obtain ⟨⟨old, he⟩, ⟨o, ho, r⟩, hne⟩ := st
    exact ⟨⟨old, k e (by simp) _ he⟩, ⟨o, k it (by simp) o ho, r⟩, hne⟩
  item := by
    intro X hP hw hK hc i pins s σ H E I hf st hg
    subst hP hw hK
    obtain ⟨⟨old, he⟩, hit, hne⟩ := st
    obtain ⟨xs, x, hq, hx⟩ := hg
    obtain ⟨its, rv, pt, _⟩ := I.tuple hq
    obtain ⟨u, hu, ru⟩ := rv.get hx
    have hel : e < s.heap.objs.size := Heap.lt_size he
    have hil : it < s.heap.objs.size := by obtain ⟨_, q, _⟩ := hit; exact Heap.lt_size q
    have hlt : i < its.toArray.size := by simpa using (List.getElem?_eq_some_iff.mp hu).1
    refine wpAny_pyNext_enum_itemD (draws_tup (A := X.A.in1) (I.ok.hd hc) it a hai its.toArray) he ⟨hit, pt⟩ hlt hne (by simp [hae.symm, hne]) fun x' h' tk hx' ho hst' hT hsz hk => ?_
    have ex : x' = u := by
      have z : its[i]? = some x' := by simpa using hx'
      rw [hu] at z; exact (Option.some.inj z).symm
    subst ex
    refine ⟨_, rfl, wpAny_letOwnedTupleGo_enum (s := { s with heap := h', toks := tk + 1 }) ho fun h2 he' sb => ?_⟩
    have hT2 : h2.get? s.heap.objs.size = some { cls := .type "tuple", data := .seq #[.int i tk, x'] } := (sb.2 _ (Nat.ne_of_gt hel)).trans hT
    have new : ObjOk X.prog X.w (upd H s.heap.objs.size (.tup [.int (i : Nat), x])) h2 s.heap.objs.size (.tup [.int (i : Nat), x]) :=
      ⟨by show 2 ≤ sizeLine; decide, [.int i tk, x'], .cons ⟨_, rfl⟩ (.cons ru .nil), ⟨_, hT2, rfl, _, rfl⟩⟩
    have I1 : Inv X pins σ (upd H s.heap.objs.size (.tup [.int (i : Nat), x])) { s with heap := h2, toks := tk + 1 } :=
      I.turnedNew (ch := [e, it]) (fun b ob hb q => (sb.2 b (fun z => hb (by simp [z]))).trans (hk b ob (fun z => hb (by simp [z])) (fun z => hb (by simp [z])) q)) hf (Nat.le_refl _) new
    refine ⟨.ref s.heap.objs.size, _, I1, rfl, ⟨_, x, rfl, I.hok.fresh (Nat.le_refl _), rfl, fun ys hy => by rw [I.tuple_inj hy hq]; exact hx⟩, ⟨⟨x', ?_⟩, ?_, hne⟩, fun b hb => ?_⟩
    · have e1 : ((i + 1 : Nat) : Int) = (i : Int) + 1 := by omega
      rw [e1]; exact he'
    · obtain ⟨⟨o, ho', r⟩, _⟩ := hst'
      exact ⟨o, (sb.2 it (Ne.symm hne)).trans ho', r⟩
    · have hb' : b < s.heap.objs.size := by
        rcases (show b = e ∨ b = it by simpa using hb) with z | z
        · rw [z]; exact hel
        · rw [z]; exact hil
      rw [upd_ne (Nat.ne_of_lt hb')]
      exact (hf b hb).1
  done := by
    intro X hP hw hK hc i pins s σ H E I hf st hg
    subst hP hw hK
    obtain ⟨⟨old, he⟩, hit, hne⟩ := st
    obtain ⟨xs, hq, hx⟩ := hg
    obtain ⟨its, rv, pt, _⟩ := I.tuple hq
    obtain ⟨f0, f1, f2, f3, f4, f5⟩ := hf it (by simp)
    have hl := rv.length
    have ei : i = its.toArray.size := by simp; omega
    rw [ei] at hit
    exact wpAny_pyNext_enum_endD (draws_tup (A := X.A.in1) (I.ok.hd hc) it a hai its.toArray) he ⟨hit, pt⟩ fun h' eb => ⟨rfl, I.turned (t' := s.toks) (fun b o hb q => eb b o hb q) f0 f1 f3 f4 f5⟩
  self := fun A i s Q E st h => let ⟨⟨_, he⟩, _⟩ := st; wpAny_pyIter_enum he h
def iEnumT (K : PySem.W.Frag) (ta : TA) : TI := fun σ H R => ta σ H fun vs H1 => ∃ a xs, vs = [.ref a] ∧ SqT K H1 a xs ∧ R (ItT K a) H1
theorem pi_enumT {X : Cx} {e : Expr} {ta : TA} {p pos tpos : Pos} {elts : List Expr} {kk : Nat} (hg : Gl X "enumerate") (hm : X.mg "enumerate" = none) (ha : PA X [e] ta) (hs : starEach [e] X.env = [(false, eval e X.env)] := by rfl) :
    PI X (.Tuple elts kk tpos) (.Call (.Name "enumerate" p) [e] [] pos) (iEnumT X.K ta) := by
  refine ⟨fun pins s σ H R I h => Call_ (ld_blt I hg hm boot_enumerate (PyProof.Rows.callWith_type1 (thn (ha.run pos pins s σ H _ I h) fun us s1 ⟨vs, H1, I1, r1, q1⟩ => ?_) hs rfl))⟩
  obtain ⟨a, xs, rfl, hq, q⟩ := q1
  cases r1 with
  | cons r rr =>
    cases rr
    cases r
    obtain ⟨its, rv, pt, _⟩ := I1.tuple hq
    obtain ⟨oa, hoa, _⟩ := id pt
    have hal := Heap.lt_size hoa
    refine call_enum_tup (show s1.heap.IsTuple a its.toArray from pt) fun h' he hit hsz hk => wpAny_pyIter_enum he ?_
    have I2 : Inv X pins σ H1 { s1 with heap := h' } := I1.kept (t' := s1.toks) hk
    refine ⟨s1.heap.objs.size + 1, [s1.heap.objs.size + 1, s1.heap.objs.size], _, _, H1, rfl, I2, turn_enumT a (s1.heap.objs.size + 1) s1.heap.objs.size (Nat.ne_of_lt (Nat.lt_succ_of_lt hal)) (Nat.ne_of_lt hal), ⟨⟨.none, he⟩, hit, Nat.succ_ne_self _⟩, fun b hb => ?_, q⟩
    have hle : s1.heap.objs.size ≤ b := by
      rcases (show b = s1.heap.objs.size + 1 ∨ b = s1.heap.objs.size by simpa using hb) with z | z
      · rw [z]; exact Nat.le_add_right _ _
      · rw [z]; exact Nat.le_refl _
    exact I1.fpOk hle (I1.hok.fresh hle)
theorem walk_enumT {K : PySem.W.Frag} {a : Addr} {xs : List V} : Walk (ItT K a) xs.length (fun H => SqT K H a xs) (YPair (fun i => some (.int (i : Nat))) (fun i => xs[i]?)) := by
  refine ⟨fun i _ hi q => ⟨xs, xs[i], q, by simp [hi]⟩, fun _ q => ⟨xs, q, rfl⟩, fun i H v H' _ q y => ?_⟩
  obtain ⟨Tq, x, h1, h2, h3, h4⟩ := y
  exact ⟨Tq, .int (i : Nat), x, h1, h2, h3, rfl, h4 xs q⟩
end Af
/-! ### states; who is blocked, who goes -/
namespace Af
open PySem PySem.Spec PyProof.Rows L2
def StateD (d : PyData) (R F : List Int) : Prop := ∃ sd fd, SeqD d [sd, fd] ∧ RowD sd R ∧ RowD fd F
def stateT (R F : List Int) : PyData := .tuple [rowT R, rowT F]
def stateL (R F : List Int) : PyData := .list [rowL R, rowL F]
theorem stateT_state (R F : List Int) : StateD (stateT R F) R F := ⟨_, _, .t _, rowT_row R, rowT_row F⟩
theorem stateL_state (R F : List Int) : StateD (stateL R F) R F := ⟨_, _, .l _, rowL_row R, rowL_row F⟩
theorem lsD_state (R F : List Int) : lsD (stateT R F) = stateL R F := by simp only [stateT, stateL, lsD, lsDs, lsD_row]
/-- a, b = a list or a tuple of two -/
def gSeq (K : PySem.W.Frag) (n : Nat) (t : TGs) : TG := fun v σ H Q => ∃ a xs, v = .ref a ∧ Sq K H a xs ∧ xs.length = n ∧ t xs σ H Q
theorem pg_seq {X : Cx} {es : List Expr} {k : Nat} {pos : Pos} {t : TGs} {n : Nat} (hc : X.calm = true) (h : PGs X es t)
    (hn : (assignEach es X.env).length = n := by rfl) (hst : (assignEach es X.env).findIdx? (·.1) = none := by rfl) : PG X (.Tuple es k pos) (gSeq X.K n t) := by
  refine ⟨fun pins s σ H v u Q I r hw => ?_⟩
  obtain ⟨a, xs, e1, hq, hl, hw⟩ := hw
  rcases hq with hq | hq
  · exact (pg_unl hc h hn hst).run pins s σ H v u Q I r ⟨a, xs, e1, hq, hl, hw⟩
  · exact (pg_tup hc h hn hst).run pins s σ H v u Q I r ⟨a, xs, e1, hq, hl, hw⟩
theorem state_at {K : PySem.W.Frag} {H : Hp} {v : V} {d : PyData} {R F : List Int} (h : Dp K H v d) (s : StateD d R F) : ∃ a r f sd fd, v = .ref a ∧ Sq K H a [r, f] ∧ Dp K H r sd ∧ RowD sd R ∧ Dp K H f fd ∧ RowD fd F := by
  obtain ⟨sd, fd, hs, h1, h2⟩ := s
  obtain ⟨a, xs, rfl, hq, ha⟩ := dp_seq h hs
  cases ha with
  | cons p1 ha =>
    cases ha with
    | cons p2 ha =>
      cases ha
      exact ⟨a, _, _, sd, fd, rfl, hq, p1, h1, p2, h2⟩
theorem state_tup {K : PySem.W.Frag} {H : Hp} {v : V} {R F : List Int} (h : Dp K H v (stateT R F)) : ∃ a ra fa, v = .ref a ∧ SqT K H a [.ref ra, .ref fa] ∧ SqT K H ra (R.map V.int) ∧ SqT K H fa (F.map V.int) := by
  cases h with
  | tup h1 h2 =>
    cases h2 with
    | cons p1 h2 =>
      cases h2 with
      | cons p2 h2 =>
        cases h2
        cases p1 with
        | tup g1 g2 =>
          cases p2 with
          | tup k1 k2 =>
            rw [dps_ints_inv g2] at g1
            rw [dps_ints_inv k2] at k1
            exact ⟨_, _, _, rfl, h1, g1, k1⟩
def endR (l f : Int) : Int := if f = 1 then l else 1
def isBl (B : List (List Int)) (R F : List Int) (c : Nat) : Bool := decide (R[c]?.getD 0 = endR ((lenAt B R c).getD 0) (F[c]?.getD 0))
def castL (cs : List Nat) : List Int := cs.map fun c : Nat => (c : Int)
def blockedN (B : List (List Int)) (R F : List Int) (n : Nat) : List Nat := (List.range n).filter (isBl B R F)
def freeN (B : List (List Int)) (R F : List Int) (n : Nat) : List Nat := (List.range n).filter fun c => !isBl B R F c
def moverO (B : List (List Int)) (R F : List Int) : Option Nat := (freeN B R F B.length).getLast?
def movV : Option Nat → V
  | none => .non
  | some c => .int c
def movD : Option Nat → PyData
  | none => .none
  | some c => .int c
theorem mov_dp {K : PySem.W.Frag} {H : Hp} (o : Option Nat) : Dp K H (movV o) (movD o) := by
  cases o with
  | none => exact .non
  | some c => exact .int c
theorem blockedN_succ (B : List (List Int)) (R F : List Int) (n : Nat) : blockedN B R F (n + 1) = blockedN B R F n ++ (if isBl B R F n = true then [n] else []) := by
  unfold blockedN
  rw [List.range_succ, List.filter_append, List.filter_cons, List.filter_nil]
theorem freeN_succ (B : List (List Int)) (R F : List Int) (n : Nat) : freeN B R F (n + 1) = freeN B R F n ++ (if isBl B R F n = true then [] else [n]) := by
  unfold freeN
  rw [List.range_succ, List.filter_append, List.filter_cons, List.filter_nil]
  cases isBl B R F n <;> rfl
theorem blockedN_len (B : List (List Int)) (R F : List Int) (n : Nat) : (blockedN B R F n).length ≤ n := by
  have := List.length_filter_le (isBl B R F) (List.range n)
  rw [List.length_range] at this; exact this
theorem freeN_len (B : List (List Int)) (R F : List Int) (n : Nat) : (freeN B R F n).length ≤ n := by
  have := List.length_filter_le (fun c => !isBl B R F c) (List.range n)
  rw [List.length_range] at this; exact this
theorem mem_blockedN {B : List (List Int)} {R F : List Int} {n c : Nat} : c ∈ blockedN B R F n ↔ c < n ∧ isBl B R F c = true := by
  unfold blockedN; rw [List.mem_filter, List.mem_range]
theorem mem_freeN {B : List (List Int)} {R F : List Int} {n c : Nat} : c ∈ freeN B R F n ↔ c < n ∧ isBl B R F c = false := by
  unfold freeN; rw [List.mem_filter, List.mem_range]; simp
theorem castL_len (cs : List Nat) : (castL cs).length = cs.length := by unfold castL; rw [List.length_map]
theorem castL_app (cs ds : List Nat) : castL (cs ++ ds) = castL cs ++ castL ds := by unfold castL; rw [List.map_append]
theorem inV_cast (cs : List Nat) (c : Nat) : inV (.int c) ((castL cs).map V.int) = decide (c ∈ cs) := by
  unfold inV castL
  rw [List.map_map, Bool.eq_iff_iff, List.any_eq_true, decide_eq_true_iff]
  constructor
  · rintro ⟨x, hx, e⟩
    obtain ⟨d, hd, rfl⟩ := List.mem_map.mp hx
    have e' : ((d : Int) == (c : Int)) = true := e
    have : d = c := by have := beq_iff_eq.mp e'; omega
    exact this ▸ hd
  · intro h
    exact ⟨.int c, List.mem_map.mpr ⟨c, h, rfl⟩, by show ((c : Int) == (c : Int)) = true; exact beq_self_eq_true _⟩
theorem flat_cast (cs : List Nat) : ((castL cs).map V.int).all flatV = true := by
  rw [List.all_eq_true]
  intro x hx
  obtain ⟨i, _, rfl⟩ := List.mem_map.mp hx
  rfl
theorem in_blocked {B : List (List Int)} {R F : List Int} {n c : Nat} (h : c < n) : decide (c ∈ blockedN B R F n) = isBl B R F c := by
  rw [Bool.eq_iff_iff, decide_eq_true_iff, mem_blockedN]
  exact ⟨fun z => z.2, fun z => ⟨h, z⟩⟩
/-- faces -/
def FacesOk (F : List Int) : Prop := ∀ f ∈ F, f = 1 ∨ f = -1
/-- one beat -/
def goB (B : List (List Int)) (F : List Int) : Nat → List Int → List Int
  | 0, R => R
  | n + 1, R => goB B F n (R ++ [endR ((lenAt B R R.length).getD 0) (F[R.length]?.getD 0)])
def beatO (B : List (List Int)) (R F : List Int) : Option Nat → List Int × List Int
  | none => (R, F.map fun f => -f)
  | some g => (goB B F (B.length - (g + 1)) (R.take g ++ [R[g]?.getD 0 + F[g]?.getD 0]), F.take (g + 1) ++ (F.drop (g + 1)).map fun f => -f)
def beatM (B : List (List Int)) (S : List Int × List Int) : List Int × List Int := beatO B S.1 S.2 (moverO B S.1 S.2)
theorem sz_state {R F : List Int} (h1 : R.length ≤ 1000) (h2 : F.length ≤ 1000) : Sz (stateT R F) :=
  ⟨by simp only [PyData.depth, PyData.depthAll, stateT, depth_row]; omega, by simp only [PyData.bulk, PyData.bulkAll, stateT, bulk_row]; omega⟩
theorem sml_faces {F : List Int} (h : FacesOk F) : Sml (rowT F) := sml_row fun x hx => by
  rcases h x hx with rfl | rfl <;> decide
theorem sml_state {B : List (List Int)} {hi : Int} {R F : List Int} (G : GoodB B hi) (h : hi ≤ 1000) (S : Stands B R) (hF : FacesOk F) : Sml (stateT R F) := sml_tup fun d hd => by
  rcases List.mem_cons.mp hd with rfl | hd
  · exact sml_stand G h S
  · obtain rfl : d = rowT F := by simpa using hd
    exact sml_faces hF
theorem fit_pair {B : List (List Int)} {hi : Nat} {R F : List Int} (G : GoodB B hi) (h1 : 1 ≤ hi) (h2 : hi ≤ 100) (h3 : B.length ≤ 100) (S : Stands B R) (hF : FacesOk F) (hl : F.length = B.length) : Fit (.list [bookT B, stateT R F]) := by
  have e := S.len
  refine fit_of (sml_list fun d hd => ?_) ⟨?_, ?_⟩
  · rcases List.mem_cons.mp hd with rfl | hd
    · exact sml_book G (by omega)
    · obtain rfl : d = stateT R F := by simpa using hd
      exact sml_state G (by omega) S hF
  · have := depth_book B
    simp only [PyData.depth, PyData.depthAll, stateT, depth_row]; omega
  · have := bulk_book G h1 h2 h3
    simp only [PyData.bulk, PyData.bulkAll, stateT, bulk_row]; omega
theorem sz_list2 {x y : PyData} (h1 : x.depth ≤ 8) (h2 : y.depth ≤ 8) (h3 : x.bulk ≤ 100000) (h4 : y.bulk ≤ 100000) : Sz (.list [x, y]) :=
  ⟨by simp only [PyData.depth, PyData.depthAll]; omega, by simp only [PyData.bulk, PyData.bulkAll]; omega⟩
theorem sz_list3 {x y z : PyData} (h1 : x.depth ≤ 8) (h2 : y.depth ≤ 8) (g : z.depth ≤ 8) (h3 : x.bulk ≤ 100000) (h4 : y.bulk ≤ 100000) (g2 : z.bulk ≤ 100000) : Sz (.list [x, y, z]) :=
  ⟨by simp only [PyData.depth, PyData.depthAll]; omega, by simp only [PyData.bulk, PyData.bulkAll]; omega⟩
theorem mov_sz (o : Option Nat) : (movD o).depth ≤ 8 ∧ (movD o).bulk ≤ 100000 := by cases o <;> simp [movD, PyData.depth, PyData.bulk]
end Af
/-! ### beats: the mathematics -/
namespace Af
open PySem PySem.Spec PyProof.Rows L2
theorem goB_len (B : List (List Int)) (F : List Int) : ∀ (n : Nat) (R : List Int), (goB B F n R).length = R.length + n
  | 0, R => rfl
  | n + 1, R => by
    show (goB B F n _).length = _
    rw [goB_len B F n, List.length_append, List.length_singleton]; omega
theorem goB_snoc (B : List (List Int)) (F : List Int) : ∀ (n : Nat) (R : List Int), goB B F (n + 1) R = goB B F n R ++ [endR ((lenAt B (goB B F n R) (goB B F n R).length).getD 0) (F[(goB B F n R).length]?.getD 0)]
  | 0, R => rfl
  | n + 1, R => goB_snoc B F n (R ++ [endR ((lenAt B R R.length).getD 0) (F[R.length]?.getD 0)])
theorem goB_pre (B : List (List Int)) (F : List Int) : ∀ (n : Nat) (R : List Int) (i : Nat), i < R.length → (goB B F n R)[i]? = R[i]?
  | 0, R, i, _ => rfl
  | n + 1, R, i, h => by
    show (goB B F n _)[i]? = _
    rw [goB_pre B F n _ i (by rw [List.length_append]; omega), List.getElem?_append_left h]
theorem goB_get (B : List (List Int)) (F : List Int) : ∀ (n : Nat) (R : List Int) (i : Nat), R.length ≤ i → i < R.length + n → (goB B F n R)[i]? = some (endR ((lenAt B (goB B F n R) i).getD 0) (F[i]?.getD 0))
  | 0, R, i, h1, h2 => by omega
  | n + 1, R, i, h1, h2 => by
    rw [goB_snoc]
    have hl := goB_len B F n R
    by_cases h : i < R.length + n
    · rw [List.getElem?_append_left (by omega), goB_get B F n R i h1 h]
      rw [lenAt_pre (R := goB B F n R ++ _) (S := goB B F n R) fun j hj => List.getElem?_append_left (by omega)]
    · have e : i = (goB B F n R).length := by omega
      rw [lenAt_pre (R := goB B F n R ++ _) (S := goB B F n R) fun j hj => List.getElem?_append_left (by omega)]
      rw [e, List.getElem?_append_right (Nat.le_refl _), Nat.sub_self]; rfl
theorem endR_mem {n f : Int} (h : 1 ≤ n) : 1 ≤ endR n f ∧ endR n f ≤ n := by unfold endR; split <;> omega
theorem goB_stands {B : List (List Int)} {hi : Int} {F : List Int} (G : GoodB B hi) : ∀ (n : Nat) (R : List Int), R.length + n ≤ B.length → StandsTo B R R.length → StandsTo B (goB B F n R) (R.length + n)
  | 0, R, _, h => h
  | n + 1, R, hl, h => by
    obtain ⟨m, e, m1, m2⟩ := len_ex G (by omega) h
    have q := stands_snoc (x := endR m (F[R.length]?.getD 0)) h e (endR_mem m1).1 (endR_mem m1).2
    have e2 : goB B F (n + 1) R = goB B F n (R ++ [endR m (F[R.length]?.getD 0)]) := by
      show goB B F n (R ++ [endR ((lenAt B R R.length).getD 0) (F[R.length]?.getD 0)]) = _
      rw [e]; rfl
    have z := goB_stands (F := F) G n (R ++ [endR m (F[R.length]?.getD 0)]) (by rw [List.length_append, List.length_singleton]; omega) (by rw [List.length_append, List.length_singleton]; exact q)
    rw [e2]
    rw [List.length_append, List.length_singleton] at z
    rw [show R.length + (n + 1) = R.length + 1 + n by omega]; exact z
/-! who goes -/
def movN (B : List (List Int)) (R F : List Int) (n : Nat) : Option Nat := (freeN B R F n).getLast?
theorem movN_succ (B : List (List Int)) (R F : List Int) (n : Nat) : movN B R F (n + 1) = if isBl B R F n = true then movN B R F n else some n := by
  unfold movN
  rw [freeN_succ]
  split
  · rw [List.append_nil]
  · rw [List.getLast?_append]; rfl
theorem movN_none {B : List (List Int)} {R F : List Int} : ∀ {n : Nat}, movN B R F n = none → ∀ c, c < n → isBl B R F c = true
  | 0, _, c, h => absurd h (Nat.not_lt_zero c)
  | n + 1, e, c, h => by
    rw [movN_succ] at e
    by_cases hb : isBl B R F n = true
    · rw [if_pos hb] at e
      by_cases hc : c = n
      · rw [hc]; exact hb
      · exact movN_none e c (by omega)
    · rw [if_neg hb] at e; cases e
theorem movN_some {B : List (List Int)} {R F : List Int} : ∀ {n g : Nat}, movN B R F n = some g → g < n ∧ isBl B R F g = false ∧ ∀ c, g < c → c < n → isBl B R F c = true
  | 0, g, e => by cases e
  | n + 1, g, e => by
    rw [movN_succ] at e
    by_cases hb : isBl B R F n = true
    · rw [if_pos hb] at e
      obtain ⟨h1, h2, h3⟩ := movN_some e
      refine ⟨by omega, h2, fun c c1 c2 => ?_⟩
      by_cases hc : c = n
      · rw [hc]; exact hb
      · exact h3 c c1 (by omega)
    · rw [if_neg hb] at e
      cases e
      exact ⟨by omega, by simpa using hb, fun c c1 c2 => by omega⟩
theorem movN_all {B : List (List Int)} {R F : List Int} : ∀ {n : Nat}, (∀ c, c < n → isBl B R F c = true) → movN B R F n = none
  | 0, _ => rfl
  | n + 1, h => by
    rw [movN_succ, if_pos (h n (by omega))]
    exact movN_all fun c hc => h c (by omega)
theorem movN_is {B : List (List Int)} {R F : List Int} {g : Nat} : ∀ {n : Nat}, g < n → isBl B R F g = false → (∀ c, g < c → c < n → isBl B R F c = true) → movN B R F n = some g
  | 0, h, _, _ => absurd h (Nat.not_lt_zero g)
  | n + 1, h1, h2, h3 => by
    rw [movN_succ]
    by_cases hg : g = n
    · subst hg; rw [if_neg (by rw [h2]; exact Bool.false_ne_true)]
    · rw [if_pos (h3 n (by omega) (by omega))]
      exact movN_is (by omega) h2 fun c c1 c2 => h3 c c1 (by omega)
theorem isBl_iff {B : List (List Int)} {R F : List Int} {c : Nat} {n r f : Int} (e1 : lenAt B R c = some n) (e2 : R[c]? = some r) (e3 : F[c]? = some f) : (isBl B R F c = true) ↔ r = endR n f := by
  unfold isBl
  rw [e1, e2, e3, decide_eq_true_iff]; rfl
/-! one beat -/
def negL (F : List Int) : List Int := F.map fun f => -f
theorem negL_len (F : List Int) : (negL F).length = F.length := by unfold negL; rw [List.length_map]
theorem negL_ok {F : List Int} (h : FacesOk F) : FacesOk (negL F) := fun x hx => by
  obtain ⟨f, hf, rfl⟩ := List.mem_map.mp hx
  rcases h f hf with rfl | rfl
  · exact .inr rfl
  · exact .inl rfl
theorem negL_neg (F : List Int) : negL (negL F) = F := by
  unfold negL
  rw [List.map_map]
  have : ((fun f : Int => -f) ∘ fun f : Int => -f) = id := by funext x; simp
  rw [this, List.map_id]
theorem negL_get (F : List Int) (c : Nat) : (negL F)[c]? = (F[c]?).map fun f => -f := by unfold negL; rw [List.getElem?_map]
/-- a good state -/
structure Ok (B : List (List Int)) (S : List Int × List Int) : Prop where
  st : Stands B S.1
  fl : S.2.length = B.length
  fo : FacesOk S.2
def negS (S : List Int × List Int) : List Int × List Int := (S.1, negL S.2)
theorem negS_neg (S : List Int × List Int) : negS (negS S) = S := by unfold negS; rw [negL_neg]
theorem Ok.neg {B : List (List Int)} {S : List Int × List Int} (h : Ok B S) : Ok B (negS S) := ⟨h.st, by show (negL S.2).length = _; rw [negL_len]; exact h.fl, negL_ok h.fo⟩
theorem mover_new {B : List (List Int)} {hi : Int} {R F : List Int} {g : Nat} (G : GoodB B hi) (h : Ok B (R, F)) (hg : moverO B R F = some g) :
    ∃ n r f, g < B.length ∧ lenAt B R g = some n ∧ R[g]? = some r ∧ F[g]? = some f ∧ 1 ≤ r ∧ r ≤ n ∧ r ≠ endR n f ∧ (f = 1 ∨ f = -1) ∧ 1 ≤ r + f ∧ r + f ≤ n := by
  obtain ⟨h1, h2, h3⟩ := movN_some (n := B.length) hg
  obtain ⟨n, r, e1, e2, r1, r2⟩ := h.st.all g h1
  have hgF : g < F.length := by have := h.fl; simp only at this; omega
  have e3 : F[g]? = some F[g] := List.getElem?_eq_getElem hgF
  have hf := h.fo F[g] (List.getElem_mem hgF)
  have hne : r ≠ endR n F[g] := fun e => by
    have z := (isBl_iff (F := F) e1 e2 e3).mpr e
    rw [h2] at z; cases z
  refine ⟨n, r, F[g], h1, e1, e2, e3, r1, r2, hne, hf, ?_, ?_⟩ <;> unfold endR at hne <;> rcases hf with hf | hf <;> rw [hf] at hne ⊢ <;> simp at hne <;> omega
theorem take_stands {B : List (List Int)} {R : List Int} {g : Nat} {n v : Int} (S : Stands B R) (hg : g < B.length) (e : lenAt B R g = some n) (h1 : 1 ≤ v) (h2 : v ≤ n) : StandsTo B (R.take g ++ [v]) (g + 1) ∧ (R.take g ++ [v]).length = g + 1 := by
  have hl : (R.take g).length = g := by rw [List.length_take, S.len]; omega
  have hpre : ∀ i, i < g → (R.take g)[i]? = R[i]? := fun i hi => by rw [List.getElem?_take_of_lt hi]
  have hs : StandsTo B (R.take g) (R.take g).length := fun c hc => by
    rw [hl] at hc
    obtain ⟨m, r, e1, e2, e3⟩ := S.all c (by omega)
    exact ⟨m, r, by rw [lenAt_pre fun i hi => hpre i (by omega)]; exact e1, by rw [hpre c hc]; exact e2, e3⟩
  have z := stands_snoc (x := v) hs (by rw [hl, lenAt_pre hpre]; exact e) h1 h2
  rw [hl] at z
  exact ⟨z, by rw [List.length_append, hl]; rfl⟩
theorem beat_ok {B : List (List Int)} {hi : Int} {S : List Int × List Int} (G : GoodB B hi) (h : Ok B S) : Ok B (beatM B S) := by
  obtain ⟨R, F⟩ := S
  unfold beatM
  cases hm : moverO B R F with
  | none => exact ⟨h.st, by show (F.map _).length = _; rw [List.length_map]; exact h.fl, negL_ok h.fo⟩
  | some g =>
    obtain ⟨n, r, f, hg, e1, e2, e3, r1, r2, hne, hf, v1, v2⟩ := mover_new G h hm
    obtain ⟨s1, s2⟩ := take_stands (v := r + f) h.st hg e1 v1 v2
    have hfl : F.length = B.length := h.fl
    have z := goB_stands (F := F) G (B.length - (g + 1)) (R.take g ++ [r + f]) (by rw [s2]; omega) (by rw [s2]; exact s1)
    have zl := goB_len B F (B.length - (g + 1)) (R.take g ++ [r + f])
    rw [s2] at z zl
    have eb : (beatO B R F (some g)).1 = goB B F (B.length - (g + 1)) (R.take g ++ [r + f]) := by
      show goB B F _ (R.take g ++ [R[g]?.getD 0 + F[g]?.getD 0]) = _
      rw [e2, e3]; rfl
    refine ⟨⟨?_, ?_⟩, ?_, fun x hx => ?_⟩
    · show (beatO B R F (some g)).1.length = _
      rw [eb, zl]; omega
    · show StandsTo B (beatO B R F (some g)).1 _
      rw [eb]
      rw [show g + 1 + (B.length - (g + 1)) = B.length by omega] at z; exact z
    · show (F.take (g + 1) ++ (F.drop (g + 1)).map fun f => -f).length = _
      rw [List.length_append, List.length_map, List.length_take, List.length_drop]; omega
    · rcases List.mem_append.mp (show x ∈ F.take (g + 1) ++ (F.drop (g + 1)).map fun f => -f from hx) with hx | hx
      · exact h.fo x (List.mem_of_mem_take hx)
      · exact negL_ok (F := F.drop (g + 1)) (fun y hy => h.fo y (List.mem_of_mem_drop hy)) x hx
theorem goB_back {B : List (List Int)} {R F : List Int} : ∀ (n k : Nat), k + n ≤ R.length → (∀ c, k ≤ c → c < k + n → R[c]? = some (endR ((lenAt B R c).getD 0) (F[c]?.getD 0))) → goB B F n (R.take k) = R.take (k + n)
  | 0, k, _, _ => rfl
  | n + 1, k, hl, h => by
    have hk : (R.take k).length = k := by rw [List.length_take]; omega
    have e : endR ((lenAt B (R.take k) (R.take k).length).getD 0) (F[(R.take k).length]?.getD 0) = endR ((lenAt B R k).getD 0) (F[k]?.getD 0) := by
      rw [hk, lenAt_pre fun i hi => List.getElem?_take_of_lt hi]
    show goB B F n (R.take k ++ [_]) = _
    rw [e]
    have e2 := h k (Nat.le_refl _) (by omega)
    have e3 : R.take k ++ [endR ((lenAt B R k).getD 0) (F[k]?.getD 0)] = R.take (k + 1) := by
      rw [List.take_add_one, e2]; rfl
    rw [e3, goB_back n (k + 1) (by omega) fun c c1 c2 => h c (by omega) (by omega)]
    rw [show k + 1 + n = k + (n + 1) by omega]
theorem beat_rev {B : List (List Int)} {hi : Int} {S : List Int × List Int} (G : GoodB B hi) (h : Ok B S) : beatM B (negS (beatM B S)) = negS S := by
  obtain ⟨R, F⟩ := S
  have hfl : F.length = B.length := h.fl
  have hRl : R.length = B.length := h.st.len
  cases hm : moverO B R F with
  | none =>
    have e : beatM B (R, F) = (R, negL F) := by unfold beatM; rw [show moverO B (R, F).1 (R, F).2 = none from hm]; rfl
    rw [e, show negS (R, negL F) = (R, F) from by unfold negS; rw [negL_neg], e]; rfl
  | some g =>
    obtain ⟨n, r, f, hg, e1, e2, e3, r1, r2, hne, hf, v1, v2⟩ := mover_new G h hm
    obtain ⟨_, _, hbl⟩ := movN_some (n := B.length) hm
    obtain ⟨s1, s2⟩ := take_stands (v := r + f) h.st hg e1 v1 v2
    let R' := goB B F (B.length - (g + 1)) (R.take g ++ [r + f])
    let F' := F.take (g + 1) ++ (F.drop (g + 1)).map fun f => -f
    have eT : beatM B (R, F) = (R', F') := by
      unfold beatM
      rw [show moverO B (R, F).1 (R, F).2 = some g from hm]
      show (goB B F _ (R.take g ++ [R[g]?.getD 0 + F[g]?.getD 0]), _) = _
      rw [e2, e3]; rfl
    have hR'l : R'.length = B.length := by
      have := goB_len B F (B.length - (g + 1)) (R.take g ++ [r + f])
      rw [s2] at this
      show (goB _ _ _ _).length = _
      omega
    have preR : ∀ i, i < g → R'[i]? = R[i]? := fun i hi => by
      show (goB _ _ _ _)[i]? = _
      rw [goB_pre B F _ _ i (by rw [s2]; omega), List.getElem?_append_left (by rw [List.length_take]; omega), List.getElem?_take_of_lt hi]
    have atR : R'[g]? = some (r + f) := by
      show (goB _ _ _ _)[g]? = _
      rw [goB_pre B F _ _ g (by rw [s2]; omega), List.getElem?_append_right (by rw [List.length_take]; omega), List.length_take]
      rw [show g - min g R.length = 0 by omega]; rfl
    have lenG : lenAt B R' g = some n := by rw [lenAt_pre preR]; exact e1
    have postR : ∀ c, g < c → c < B.length → R'[c]? = some (endR ((lenAt B R' c).getD 0) (F[c]?.getD 0)) := fun c c1 c2 =>
      goB_get B F _ _ c (by rw [s2]; omega) (by rw [s2]; omega)
    have NFpre : ∀ c, c ≤ g → (negL F')[c]? = (F[c]?).map fun f => -f := fun c hc => by
      rw [negL_get]
      show ((F.take (g + 1) ++ _)[c]?).map _ = _
      rw [List.getElem?_append_left (by rw [List.length_take]; omega), List.getElem?_take_of_lt (by omega)]
    have NFpost : ∀ c, g < c → (negL F')[c]? = F[c]? := fun c hc => by
      rw [negL_get]
      show ((F.take (g + 1) ++ (F.drop (g + 1)).map fun f => -f)[c]?).map _ = _
      by_cases hcl : c < F.length
      · rw [List.getElem?_append_right (by rw [List.length_take]; omega), List.length_take, List.getElem?_map, List.getElem?_drop]
        rw [show g + 1 + (c - min (g + 1) F.length) = c by omega, List.getElem?_eq_getElem hcl]
        simp
      · rw [List.getElem?_eq_none (by rw [List.length_append, List.length_map, List.length_take, List.length_drop]; omega), List.getElem?_eq_none (by omega)]; rfl
    have hm2 : moverO B R' (negL F') = some g := by
      refine movN_is (n := B.length) hg ?_ fun c c1 c2 => ?_
      · have z := isBl_iff (F := negL F') lenG atR (by rw [NFpre g (Nat.le_refl _), e3]; rfl)
        cases hb : isBl B R' (negL F') g with
        | false => rfl
        | true =>
          have z2 := z.mp hb
          unfold endR at z2 hne
          rcases hf with hf | hf <;> rw [hf] at z2 hne <;> simp at z2 hne <;> omega
      · unfold isBl
        rw [postR c c1 c2, NFpost c c1]
        exact decide_eq_true rfl
    have back : goB B (negL F') (B.length - (g + 1)) (R.take (g + 1)) = R := by
      rw [goB_back (B.length - (g + 1)) (g + 1) (by omega) fun c c1 c2 => ?_]
      · rw [show g + 1 + (B.length - (g + 1)) = R.length by omega, List.take_length]
      · have hb := hbl c (by omega) (by omega)
        obtain ⟨n2, r3, g1, g2, _, _⟩ := h.st.all c (by omega)
        have g3 : F[c]? = some F[c] := List.getElem?_eq_getElem (by omega)
        have z := (isBl_iff (F := F) g1 g2 g3).mp hb
        have g1' : lenAt B R c = some n2 := g1
        have g2' : R[c]? = some r3 := g2
        rw [NFpost c (by omega), g1', g2', g3, z]; rfl
    rw [eT]
    unfold beatM
    show beatO B R' (negL F') (moverO B R' (negL F')) = _
    rw [hm2]
    show (goB B (negL F') (B.length - (g + 1)) (R'.take g ++ [R'[g]?.getD 0 + (negL F')[g]?.getD 0]), (negL F').take (g + 1) ++ ((negL F').drop (g + 1)).map fun f => -f) = (R, negL F)
    have t1 : R'.take g ++ [R'[g]?.getD 0 + (negL F')[g]?.getD 0] = R.take (g + 1) := by
      rw [atR, NFpre g (Nat.le_refl _), e3, List.take_add_one, e2]
      have t0 : R'.take g = R.take g := by
        apply List.ext_getElem?
        intro i
        by_cases hi : i < g
        · rw [List.getElem?_take_of_lt hi, List.getElem?_take_of_lt hi, preR i hi]
        · rw [List.getElem?_eq_none (by rw [List.length_take]; omega), List.getElem?_eq_none (by rw [List.length_take]; omega)]
      rw [t0]
      show R.take g ++ [(r + f) + (-f)] = R.take g ++ [r]
      rw [show r + f + -f = r by omega]
    rw [t1, back]
    congr 1
    apply List.ext_getElem?
    intro i
    have hNl : (negL F').length = B.length := by
      rw [negL_len]
      show (F.take (g + 1) ++ (F.drop (g + 1)).map fun f => -f).length = _
      rw [List.length_append, List.length_map, List.length_take, List.length_drop]; omega
    by_cases hi : i ≤ g
    · rw [List.getElem?_append_left (by rw [List.length_take]; omega), List.getElem?_take_of_lt (by omega), NFpre i hi, negL_get]
    · rw [List.getElem?_append_right (by rw [List.length_take]; omega), List.length_take, List.getElem?_map, List.getElem?_drop]
      rw [show g + 1 + (i - min (g + 1) (negL F').length) = i by omega, NFpost i (by omega), negL_get F i]
/-! beats along -/
def alongL (B : List (List Int)) : Nat → List Int × List Int → List (List Int × List Int)
  | 0, S => [S]
  | n + 1, S => alongL B n S ++ [beatM B ((alongL B n S).getLast?.getD S)]
def itB (B : List (List Int)) : Nat → List Int × List Int → List Int × List Int
  | 0, S => S
  | n + 1, S => beatM B (itB B n S)
theorem alongL_len (B : List (List Int)) : ∀ (n : Nat) (S : List Int × List Int), (alongL B n S).length = n + 1
  | 0, _ => rfl
  | n + 1, S => by
    show (alongL B n S ++ [_]).length = _
    rw [List.length_append, alongL_len B n S]; rfl
theorem alongL_last (B : List (List Int)) : ∀ (n : Nat) (S : List Int × List Int), (alongL B n S).getLast? = some (itB B n S)
  | 0, _ => rfl
  | n + 1, S => by
    show (alongL B n S ++ [_]).getLast? = _
    rw [List.getLast?_append, alongL_last B n S]; rfl
theorem alongL_succ (B : List (List Int)) (n : Nat) (S : List Int × List Int) : alongL B (n + 1) S = alongL B n S ++ [beatM B (itB B n S)] := by
  show alongL B n S ++ [beatM B ((alongL B n S).getLast?.getD S)] = _
  rw [alongL_last]; rfl
theorem itB_ok {B : List (List Int)} {hi : Int} (G : GoodB B hi) : ∀ (n : Nat) {S : List Int × List Int}, Ok B S → Ok B (itB B n S)
  | 0, _, h => h
  | n + 1, _, h => beat_ok G (itB_ok G n h)
def stD (S : List Int × List Int) : PyData := stateT S.1 S.2
end Af
namespace Af
open PySem PySem.Spec PyProof.Rows L2
theorem st_sz {B : List (List Int)} {S : List Int × List Int} (h : Ok B S) (hl : B.length ≤ 1000) : (stD S).depth ≤ 8 ∧ (stD S).bulk ≤ 100000 := by
  have h1 := h.st.len
  have h2 := h.fl
  refine ⟨?_, ?_⟩
  · simp only [stD, stateT, PyData.depth, PyData.depthAll, depth_row]; omega
  · simp only [stD, stateT, PyData.bulk, PyData.bulkAll, bulk_row]; omega
theorem st_zz {B : List (List Int)} {S : List Int × List Int} (h : Ok B S) (hl : B.length ≤ 1000) : Sz (stD S) := by
  have := st_sz h hl
  exact ⟨by omega, by omega⟩
theorem st_three {B : List (List Int)} {S1 S2 S3 : List Int × List Int} (h1 : Ok B S1) (h2 : Ok B S2) (h3 : Ok B S3) (hl : B.length ≤ 1000) : Sz (.list [stD S1, stD S2, stD S3]) :=
  sz_list3 (st_sz h1 hl).1 (st_sz h2 hl).1 (st_sz h3 hl).1 (st_sz h1 hl).2 (st_sz h2 hl).2 (st_sz h3 hl).2
theorem st_two {B : List (List Int)} {S1 S2 : List Int × List Int} (h1 : Ok B S1) (h2 : Ok B S2) (hl : B.length ≤ 1000) : Sz (.list [stD S1, stD S2]) :=
  sz_list2 (st_sz h1 hl).1 (st_sz h2 hl).1 (st_sz h1 hl).2 (st_sz h2 hl).2
theorem eqv_ints : ∀ ns : List Int, PyData.eqvAll (ns.map PyData.int) (ns.map PyData.int) = true
  | [] => by simp [PyData.eqvAll]
  | n :: ns => by simp [PyData.eqvAll, PyData.eqv, eqv_ints ns]
theorem eqv_state (R F : List Int) : PyData.eqv (stateT R F) (stateT R F) = true := by
  simp [stateT, rowT, PyData.eqv, PyData.eqvAll, eqv_ints]
theorem shaped_state (R F : List Int) : SeqAt.shaped (stateT R F) = true := by
  have h1 : (stateT R F).canLay0 = true := by
    have a : ∀ ns : List Int, PyData.canLayAll0 (ns.map PyData.int) = true := fun ns => by
      induction ns with
      | nil => simp [PyData.canLayAll0]
      | cons n ns ih => simp [PyData.canLayAll0, PyData.canLay0, ih]
    simp [stateT, rowT, PyData.canLay0, PyData.canLayAll0, a]
  have h2 : (stateT R F).depth ≤ 64 := by simp only [stateT, PyData.depth, PyData.depthAll, depth_row]; omega
  show ((stateT R F).canLay0 && decide ((stateT R F).depth ≤ 64)) = true
  rw [h1, decide_eq_true h2]; rfl
end Af
/-! ### clocks: the mathematics -/
namespace Af
def sumN (f : Nat → Int) : Nat → Int
  | 0 => 0
  | n + 1 => sumN f n + f n
theorem sumN_congr {f g : Nat → Int} : ∀ n, (∀ i, i < n → f i = g i) → sumN f n = sumN g n
  | 0, _ => rfl
  | n + 1, h => by
    show sumN f n + f n = sumN g n + g n
    rw [sumN_congr n fun i hi => h i (by omega), h n (by omega)]
theorem sumN_le {f : Nat → Int} {m : Nat} : ∀ {n : Nat}, m ≤ n → (∀ i, m ≤ i → i < n → 0 ≤ f i) → sumN f m ≤ sumN f n
  | 0, h, _ => by have : m = 0 := by omega
                  subst this; exact Int.le_refl _
  | n + 1, h, g => by
    by_cases e : m = n + 1
    · subst e; exact Int.le_refl _
    · have h1 := sumN_le (n := n) (by omega) fun i h1 h2 => g i h1 (by omega)
      have h2 := g n (by omega) (by omega)
      show _ ≤ sumN f n + f n
      omega
theorem sumN_tele {p q : Nat → Int} {a : Nat} : ∀ {b : Nat}, a ≤ b → (∀ i, a ≤ i → i < b → p i = q i - q (i + 1)) → sumN p b = sumN p a + q a - q b
  | 0, h, _ => by have : a = 0 := by omega
                  subst this; omega
  | b + 1, h, g => by
    by_cases e : a = b + 1
    · subst e; omega
    · have h1 := sumN_tele (b := b) (by omega) fun i h1 h2 => g i h1 (by omega)
      have h2 := g b (by omega) (by omega)
      show sumN p b + p b = _
      omega
theorem sumN_zero {p : Nat → Int} {a b : Nat} (h : a ≤ b) (g : ∀ i, a ≤ i → i < b → p i = 0) : sumN p b = sumN p a := by
  have := sumN_tele (p := p) (q := fun _ => 0) h fun i h1 h2 => by rw [g i h1 h2]; rfl
  simpa using this
/-- the ways in which those on these tables can stand, the next older one on rung j + 1 -/
def cnt : List (List Int) → Nat → Int
  | [], _ => 1
  | t :: T, j => sumN (cnt T) (t[j]?.getD 0).toNat
/-- climber i on one of the first m rungs -/
def rowN (B : List (List Int)) (i m : Nat) : Int := sumN (cnt (B.drop (i + 1))) m
theorem rowN_succ (B : List (List Int)) (i m : Nat) : rowN B i (m + 1) = rowN B i m + cnt (B.drop (i + 1)) m := rfl
theorem rowN_zero (B : List (List Int)) (i : Nat) : rowN B i 0 = 0 := rfl
def totN (B : List (List Int)) (R : List Int) (i : Nat) : Int := rowN B i ((lenAt B R i).getD 0).toNat
/-- what is behind climber i -/
def pasN (B : List (List Int)) (i : Nat) (l r f : Int) : Int := if f = 1 then rowN B i (r - 1).toNat else rowN B i l.toNat - rowN B i r.toNat
def pas (B : List (List Int)) (R F : List Int) (i : Nat) : Int := pasN B i ((lenAt B R i).getD 0) (R[i]?.getD 0) (F[i]?.getD 0)
def clk (B : List (List Int)) (R F : List Int) : Int := sumN (pas B R F) B.length
structure OkP (P : List (List Int)) (R F : List Int) : Prop where
  st : StandsTo P R P.length
  fc : ∀ i, i < P.length → ∃ f, F[i]? = some f ∧ (f = 1 ∨ f = -1)
theorem drop_cons {B : List (List Int)} {i : Nat} {row : List Int} (e : B[i]? = some row) : B.drop i = row :: B.drop (i + 1) := by
  obtain ⟨h, rfl⟩ := List.getElem?_eq_some_iff.mp e
  exact List.drop_eq_getElem_cons h
theorem mem_wide {B : List (List Int)} {hi : Int} {k : Nat} {row : List Int} {n : Int} (G : GoodB B hi) (e : B[k]? = some row) (hn : n ∈ row) : 1 ≤ n ∧ ∀ row2, B[k + 1]? = some row2 → n.toNat ≤ row2.length := by
  refine ⟨(G.pos row (List.mem_of_getElem? e) n hn).1, fun row2 e2 => ?_⟩
  cases row with
  | nil => cases hn
  | cons m ms =>
    have hw := G.wide k m ms row2 e e2
    have hle : n ≤ ms.foldl max m := by
      rcases List.mem_cons.mp hn with rfl | hm
      · exact (foldl_max_ge ms n).1
      · exact (foldl_max_ge ms m).2 n hm
    omega
theorem sumN_pos {f : Nat → Int} : ∀ {n : Nat}, 1 ≤ n → (∀ i, i < n → 1 ≤ f i) → 1 ≤ sumN f n
  | 0, h, _ => by omega
  | n + 1, _, g => by
    have h1 := sumN_le (f := f) (m := 0) (n := n) (Nat.zero_le _) fun i _ hi => by have := g i (by omega); omega
    have h2 := g n (by omega)
    show 1 ≤ sumN f n + f n
    have : sumN f 0 = 0 := rfl
    omega
theorem cnt_pos {B : List (List Int)} {hi : Int} (G : GoodB B hi) : ∀ (d k : Nat), B.length - k = d → ∀ j, (∀ row, B[k]? = some row → j < row.length) → 1 ≤ cnt (B.drop k) j
  | 0, k, hd, j, _ => by
    rw [List.drop_eq_nil_of_le (by omega)]
    exact Int.le_refl _
  | d + 1, k, hd, j, hj => by
    have hk : k < B.length := by omega
    have e : B[k]? = some B[k] := List.getElem?_eq_getElem hk
    have hj' := hj _ e
    rw [drop_cons e]
    show 1 ≤ sumN (cnt (B.drop (k + 1))) (B[k][j]?.getD 0).toNat
    rw [List.getElem?_eq_getElem hj']
    obtain ⟨m1, m2⟩ := mem_wide G e (List.getElem_mem hj')
    refine sumN_pos (by show 1 ≤ (B[k][j]).toNat; omega) fun i hi => cnt_pos G d (k + 1) (by omega) i fun row2 e2 => ?_
    have := m2 row2 e2
    have hi' : i < (B[k][j]).toNat := hi
    omega
section
variable {P : List (List Int)} {hi : Int} {R F : List Int}
/-- a length is one of the table's -/
theorem len_mem {i : Nat} {n : Int} (e : lenAt P R i = some n) : ∃ row, P[i]? = some row ∧ n ∈ row := by
  cases i with
  | zero => obtain ⟨row, e1, e2⟩ := lenAt_zero e; exact ⟨row, e1, List.mem_of_getElem? e2⟩
  | succ i => obtain ⟨row, r, e1, _, _, e2⟩ := lenAt_succ e; exact ⟨row, e1, List.mem_of_getElem? e2⟩
theorem w_pos (G : GoodB P hi) {i : Nat} {n : Int} (e : lenAt P R i = some n) {j : Nat} (hj : j < n.toNat) : 1 ≤ cnt (P.drop (i + 1)) j := by
  obtain ⟨row, e1, e2⟩ := len_mem e
  obtain ⟨_, m2⟩ := mem_wide G e1 e2
  exact cnt_pos G _ (i + 1) rfl j fun row2 e3 => by have := m2 row2 e3; omega
theorem row_le (G : GoodB P hi) {i : Nat} {n : Int} (e : lenAt P R i = some n) {a b : Nat} (h1 : a ≤ b) (h2 : b ≤ n.toNat) : rowN P i a ≤ rowN P i b :=
  sumN_le h1 fun j _ hj => by have := w_pos G e (j := j) (by omega); omega
theorem tot_succ {i : Nat} {r n : Int} (e1 : lenAt P R (i + 1) = some n) (e2 : R[i]? = some r) : totN P R (i + 1) = cnt (P.drop (i + 1)) (r - 1).toNat := by
  obtain ⟨row, r', g1, g2, g3, g4⟩ := lenAt_succ e1
  rw [e2] at g2; cases g2
  unfold totN rowN
  rw [e1, drop_cons g1]
  show _ = sumN (cnt (P.drop (i + 1 + 1))) (row[(r - 1).toNat]?.getD 0).toNat
  rw [g4]
theorem tot_zero {n : Int} (e : P[0]? = some [n]) : totN P R 0 = cnt P 0 := by
  unfold totN rowN
  rw [show lenAt P R 0 = some n from by show ((P[0]?).bind fun row => row[0]?) = some n; rw [e]; rfl]
  have : P = [n] :: P.drop 1 := by have := drop_cons e; simpa using this
  rw [show cnt P 0 = cnt ([n] :: P.drop 1) 0 from by rw [← this]]
  rfl
/-- what is left from climber i on -/
def qN (P : List (List Int)) (R : List Int) (i : Nat) : Int := if i < P.length then totN P R i else 1
theorem q_succ (S : StandsTo P R P.length) {i : Nat} {r : Int} (hi : i < P.length) (e : R[i]? = some r) : qN P R (i + 1) = cnt (P.drop (i + 1)) (r - 1).toNat := by
  unfold qN
  by_cases h : i + 1 < P.length
  · rw [if_pos h]
    obtain ⟨n, _, e1, _⟩ := S (i + 1) h
    exact tot_succ e1 e
  · rw [if_neg h, List.drop_eq_nil_of_le (by omega)]; rfl
theorem pas_eq {i : Nat} {l r f : Int} (e1 : lenAt P R i = some l) (e2 : R[i]? = some r) (e3 : F[i]? = some f) : pas P R F i = pasN P i l r f := by unfold pas; rw [e1, e2, e3]; rfl
theorem pasN_bd (G : GoodB P hi) {i : Nat} {l r f : Int} (e1 : lenAt P R i = some l) (h1 : 1 ≤ r) (h2 : r ≤ l) : 0 ≤ pasN P i l r f ∧ pasN P i l r f + cnt (P.drop (i + 1)) (r - 1).toNat ≤ rowN P i l.toNat := by
  have er : rowN P i r.toNat = rowN P i (r - 1).toNat + cnt (P.drop (i + 1)) (r - 1).toNat := by
    rw [show r.toNat = (r - 1).toNat + 1 by omega]; rfl
  have a1 := row_le G e1 (a := 0) (b := (r - 1).toNat) (Nat.zero_le _) (by omega)
  have a2 := row_le G e1 (a := r.toNat) (b := l.toNat) (by omega) (Nat.le_refl _)
  have a0 : rowN P i 0 = 0 := rfl
  unfold pasN
  split <;> omega
theorem clk_bd (G : GoodB P hi) (h : OkP P R F) : ∀ (d k : Nat), k + d = P.length → 0 ≤ sumN (pas P R F) P.length - sumN (pas P R F) k ∧ sumN (pas P R F) P.length - sumN (pas P R F) k + 1 ≤ qN P R k
  | 0, k, hk => by
    have : k = P.length := by omega
    subst this
    unfold qN
    rw [if_neg (by omega)]; omega
  | d + 1, k, hk => by
    have ih := clk_bd G h d (k + 1) (by omega)
    have hkl : k < P.length := by omega
    obtain ⟨l, r, e1, e2, r1, r2⟩ := h.st k hkl
    obtain ⟨f, e3, _⟩ := h.fc k hkl
    have b := pasN_bd G (f := f) e1 r1 r2
    rw [← pas_eq e1 e2 e3] at b
    rw [q_succ h.st hkl e2] at ih
    have eq : qN P R k = rowN P k l.toNat := by unfold qN totN; rw [if_pos hkl, e1]; rfl
    have es : sumN (pas P R F) (k + 1) = sumN (pas P R F) k + pas P R F k := rfl
    omega
/-- blocked, all from a on -/
theorem pas_blocked (G : GoodB P hi) (h : OkP P R F) {i : Nat} (hi' : i < P.length) {l f : Int} (e1 : lenAt P R i = some l) (e3 : F[i]? = some f) (e2 : R[i]? = some (endR l f)) : pas P R F i = qN P R i - qN P R (i + 1) := by
  obtain ⟨l', r, g1, g2, r1, r2⟩ := h.st i hi'
  rw [e1] at g1; cases g1
  rw [q_succ h.st hi' e2, pas_eq e1 e2 e3]
  have eq : qN P R i = rowN P i l.toNat := by unfold qN totN; rw [if_pos hi', e1]; rfl
  rw [eq]
  unfold pasN endR
  by_cases hf : f = 1
  · rw [if_pos hf, if_pos hf, show l.toNat = (l - 1).toNat + 1 by omega, rowN_succ]; omega
  · rw [if_neg hf, if_neg hf]
    show _ - rowN P i 1 = _ - cnt (P.drop (i + 1)) 0
    rw [rowN_succ, rowN_zero]; omega
theorem clk_all (G : GoodB P hi) (h : OkP P R F) (hb : ∀ i, i < P.length → ∃ l f, lenAt P R i = some l ∧ F[i]? = some f ∧ R[i]? = some (endR l f)) : clk P R F = cnt P 0 - 1 := by
  have ht := sumN_tele (p := pas P R F) (q := qN P R) (a := 0) (b := P.length) (Nat.zero_le _) fun i _ hi => by
    obtain ⟨l, f, e1, e2, e3⟩ := hb i hi
    exact pas_blocked G h hi e1 e2 e3
  obtain ⟨n, e⟩ := G.first
  have h0 : 0 < P.length := (List.getElem?_eq_some_iff.mp e).1
  have e0 : qN P R 0 = cnt P 0 := by unfold qN; rw [if_pos h0, tot_zero e]
  have e1 : qN P R P.length = 1 := by unfold qN; rw [if_neg (by omega)]
  unfold clk
  rw [ht, e0, e1]
  have : sumN (pas P R F) 0 = 0 := rfl
  omega
theorem pas_away {i : Nat} {l f : Int} (e1 : lenAt P R i = some l) (hl : 1 ≤ l) (hf : f = 1 ∨ f = -1) (e3 : F[i]? = some (-f)) (e2 : R[i]? = some (endR l f)) : pas P R F i = 0 := by
  rw [pas_eq e1 e2 e3]
  unfold pasN endR
  rcases hf with rfl | rfl
  · rw [if_neg (by decide), if_pos rfl]; omega
  · rw [if_pos (by decide), if_neg (by decide)]; rfl
theorem clk_len (G : GoodB P hi) (h : OkP P R F) : 0 ≤ clk P R F ∧ clk P R F < cnt P 0 := by
  have b := clk_bd G h P.length 0 (by omega)
  obtain ⟨n, e⟩ := G.first
  have h0 : 0 < P.length := (List.getElem?_eq_some_iff.mp e).1
  have e0 : qN P R 0 = cnt P 0 := by unfold qN; rw [if_pos h0, tot_zero e]
  have : sumN (pas P R F) 0 = 0 := rfl
  unfold clk
  omega
theorem clk_go (G : GoodB P hi) (h : OkP P R F) {R' F' : List Int} {g : Nat} {l r f : Int} (hg : g < P.length) (pre : ∀ i, i < g → R'[i]? = R[i]? ∧ F'[i]? = F[i]?)
    (e1 : lenAt P R g = some l) (e2 : R[g]? = some r) (e3 : F[g]? = some f) (g2 : R'[g]? = some (r + f)) (g3 : F'[g]? = some f) (v1 : 1 ≤ r + f) (v2 : r + f ≤ l)
    (bl : ∀ i, g < i → i < P.length → ∃ n b, lenAt P R i = some n ∧ F[i]? = some b ∧ R[i]? = some (endR n b))
    (aw : ∀ i, g < i → i < P.length → ∃ n b, lenAt P R' i = some n ∧ 1 ≤ n ∧ (b = 1 ∨ b = -1) ∧ F'[i]? = some (-b) ∧ R'[i]? = some (endR n b)) : clk P R' F' = clk P R F + 1 := by
  have e1' : lenAt P R' g = some l := by rw [lenAt_pre fun i hi => (pre i hi).1]; exact e1
  have z1 : sumN (pas P R' F') P.length = sumN (pas P R' F') (g + 1) := sumN_zero (by omega) fun i h1 h2 => by
    obtain ⟨n, b, a1, a2, a3, a4, a5⟩ := aw i (by omega) h2
    exact pas_away a1 a2 a3 a4 a5
  have z2 : sumN (pas P R F) P.length = sumN (pas P R F) (g + 1) + qN P R (g + 1) - qN P R P.length := sumN_tele (by omega) fun i h1 h2 => by
    obtain ⟨n, b, a1, a2, a3⟩ := bl i (by omega) h2
    exact pas_blocked G h h2 a1 a2 a3
  have z3 : sumN (pas P R' F') g = sumN (pas P R F) g := sumN_congr g fun i hi => by
    unfold pas
    rw [(pre i hi).1, (pre i hi).2, lenAt_pre fun j hj => (pre j (by omega)).1]
  have z4 : qN P R P.length = 1 := by unfold qN; rw [if_neg (by omega)]
  rw [q_succ h.st hg e2, z4] at z2
  obtain ⟨l', r', k1, k2, r1, r2⟩ := h.st g hg
  rw [e1] at k1; cases k1
  rw [e2] at k2; cases k2
  have hf : f = 1 ∨ f = -1 := by
    obtain ⟨f', k3, k4⟩ := h.fc g hg
    rw [e3] at k3; cases k3; exact k4
  have z5 : pas P R' F' g = pas P R F g + cnt (P.drop (g + 1)) (r - 1).toNat := by
    rw [pas_eq e1 e2 e3, pas_eq e1' g2 g3]
    unfold pasN
    rcases hf with rfl | rfl
    · rw [if_pos rfl, if_pos rfl, show (r + 1 - 1).toNat = (r - 1).toNat + 1 by omega, rowN_succ]
    · rw [if_neg (by decide), if_neg (by decide), show r.toNat = (r - 1).toNat + 1 by omega, rowN_succ, show (r + -1).toNat = (r - 1).toNat by omega]; omega
  unfold clk
  rw [z1, z2]
  show sumN _ g + pas P R' F' g = sumN _ g + pas P R F g + _ - 1 + 1
  rw [z3, z5]; omega
/-- hangs on the first ones alone -/
theorem clk_pre {R' F' : List Int} (h : ∀ i, i < P.length → R'[i]? = R[i]? ∧ F'[i]? = F[i]?) : clk P R' F' = clk P R F := by
  unfold clk
  exact sumN_congr _ fun i hi => by
    unfold pas
    rw [(h i hi).1, (h i hi).2, lenAt_pre fun j hj => (h j (by omega)).1]
/-- one rung alone has so many behind it -/
theorem pas_inj (G : GoodB P hi) {i : Nat} {l f r s c : Int} (e1 : lenAt P R i = some l) (r1 : 1 ≤ r) (r2 : r ≤ l) (s1 : 1 ≤ s) (s2 : s ≤ l)
    (a1 : pasN P i l r f ≤ c) (a2 : c < pasN P i l r f + cnt (P.drop (i + 1)) (r - 1).toNat) (b1 : pasN P i l s f ≤ c) (b2 : c < pasN P i l s f + cnt (P.drop (i + 1)) (s - 1).toNat) : r = s := by
  have er : ∀ x : Int, 1 ≤ x → rowN P i x.toNat = rowN P i (x - 1).toNat + cnt (P.drop (i + 1)) (x - 1).toNat := fun x hx => by
    rw [show x.toNat = (x - 1).toNat + 1 by omega]; rfl
  have lt : ∀ x y : Int, 1 ≤ x → x < y → y ≤ l → rowN P i x.toNat ≤ rowN P i (y - 1).toNat := fun x y h1 h2 h3 => row_le G e1 (by omega) (by omega)
  have q1 := er r r1
  have q2 := er s s1
  unfold pasN at a1 a2 b1 b2
  by_cases h : r = s
  · exact h
  · by_cases h' : r < s
    · have q3 := lt r s r1 h' s2
      split at a1 <;> omega
    · have q3 := lt s r s1 (by omega) r2
      split at a1 <;> omega
end
end Af
/-! ### rounds: the mathematics -/
namespace Af
theorem lenAt_take {B : List (List Int)} {R : List Int} {k i : Nat} (h : i < k) : lenAt (B.take k) R i = lenAt B R i := by
  cases i with
  | zero =>
    show ((B.take k)[0]?).bind _ = (B[0]?).bind _
    rw [List.getElem?_take_of_lt h]
  | succ i =>
    show lenS _ _ _ = lenS _ _ _
    unfold lenS
    rw [List.getElem?_take_of_lt h]
theorem good_take {B : List (List Int)} {hi : Int} (G : GoodB B hi) {k : Nat} (hk : 1 ≤ k) : GoodB (B.take k) hi := by
  refine ⟨?_, fun i n ns r e1 e2 => ?_, fun r hr => G.pos r (List.mem_of_mem_take hr), fun r hr => G.full r (List.mem_of_mem_take hr)⟩
  · obtain ⟨n, e⟩ := G.first
    exact ⟨n, by rw [List.getElem?_take_of_lt (by omega)]; exact e⟩
  · have h2 : i + 1 < k := by
      have := (List.getElem?_eq_some_iff.mp e2).1
      rw [List.length_take] at this; omega
    rw [List.getElem?_take_of_lt (by omega)] at e1
    rw [List.getElem?_take_of_lt h2] at e2
    exact G.wide i n ns r e1 e2
theorem Ok.part {B : List (List Int)} {S : List Int × List Int} (h : Ok B S) (k : Nat) : OkP (B.take k) S.1 S.2 := by
  refine ⟨fun c hc => ?_, fun i hi => ?_⟩
  · rw [List.length_take] at hc
    obtain ⟨n, r, e1, e2⟩ := h.st.all c (by omega)
    exact ⟨n, r, by rw [lenAt_take (by omega)]; exact e1, e2⟩
  · rw [List.length_take] at hi
    have hl := h.fl
    have hi' : i < S.2.length := by omega
    exact ⟨S.2[i], List.getElem?_eq_getElem hi', h.fo _ (List.getElem_mem hi')⟩
theorem Ok.whole {B : List (List Int)} {S : List Int × List Int} (h : Ok B S) : OkP B S.1 S.2 := by
  have := h.part B.length
  rwa [List.take_length] at this
/-! one beat, seen climber by climber -/
structure Goes (B : List (List Int)) (R F R' F' : List Int) (g : Nat) (l r f : Int) : Prop where
  lt : g < B.length
  pre : ∀ i, i < g → R'[i]? = R[i]? ∧ F'[i]? = F[i]?
  e1 : lenAt B R g = some l
  e2 : R[g]? = some r
  e3 : F[g]? = some f
  g2 : R'[g]? = some (r + f)
  g3 : F'[g]? = some f
  v1 : 1 ≤ r + f
  v2 : r + f ≤ l
  bl : ∀ i, g < i → i < B.length → ∃ n b, lenAt B R i = some n ∧ F[i]? = some b ∧ R[i]? = some (endR n b)
  aw : ∀ i, g < i → i < B.length → ∃ n b, lenAt B R' i = some n ∧ 1 ≤ n ∧ (b = 1 ∨ b = -1) ∧ F[i]? = some b ∧ F'[i]? = some (-b) ∧ R'[i]? = some (endR n b)
theorem goes_of {B : List (List Int)} {hi : Int} {R F : List Int} {g : Nat} (G : GoodB B hi) (h : Ok B (R, F)) (hm : moverO B R F = some g) : ∃ l r f, Goes B R F (beatM B (R, F)).1 (beatM B (R, F)).2 g l r f := by
  have hfl : F.length = B.length := h.fl
  have hRl : R.length = B.length := h.st.len
  obtain ⟨n, r, f, hg, e1, e2, e3, r1, r2, hne, hf, v1, v2⟩ := mover_new G h hm
  obtain ⟨_, _, hbl⟩ := movN_some (n := B.length) hm
  obtain ⟨s1, s2⟩ := take_stands (v := r + f) h.st hg e1 v1 v2
  have hO := beat_ok G h
  have eT : beatM B (R, F) = (goB B F (B.length - (g + 1)) (R.take g ++ [r + f]), F.take (g + 1) ++ (F.drop (g + 1)).map fun f => -f) := by
    unfold beatM
    rw [show moverO B (R, F).1 (R, F).2 = some g from hm]
    show (goB B F _ (R.take g ++ [R[g]?.getD 0 + F[g]?.getD 0]), _) = _
    rw [e2, e3]; rfl
  rw [eT] at hO ⊢
  have Fpre : ∀ c, c ≤ g → (F.take (g + 1) ++ (F.drop (g + 1)).map fun f => -f)[c]? = F[c]? := fun c hc => by
    rw [List.getElem?_append_left (by rw [List.length_take]; omega), List.getElem?_take_of_lt (by omega)]
  have Fpost : ∀ c, g < c → c < B.length → (F.take (g + 1) ++ (F.drop (g + 1)).map fun f => -f)[c]? = (F[c]?).map fun f => -f := fun c hc hc2 => by
    rw [List.getElem?_append_right (by rw [List.length_take]; omega), List.length_take, List.getElem?_map, List.getElem?_drop]
    rw [show g + 1 + (c - min (g + 1) F.length) = c by omega]
  refine ⟨n, r, f, hg, fun i hi => ⟨?_, Fpre i (by omega)⟩, e1, e2, e3, ?_, ?_, v1, v2, fun c c1 c2 => ?_, fun c c1 c2 => ?_⟩
  · show (goB _ _ _ _)[i]? = _
    rw [goB_pre B F _ _ i (by rw [s2]; omega), List.getElem?_append_left (by rw [List.length_take]; omega), List.getElem?_take_of_lt hi]
  · show (goB _ _ _ _)[g]? = _
    rw [goB_pre B F _ _ g (by rw [s2]; omega), List.getElem?_append_right (by rw [List.length_take]; omega), List.length_take]
    rw [show g - min g R.length = 0 by omega]; rfl
  · show (F.take (g + 1) ++ _)[g]? = _
    rw [Fpre g (Nat.le_refl _)]; exact e3
  · have hb := hbl c c1 c2
    obtain ⟨n2, r3, g1, g2, _, _⟩ := h.st.all c c2
    have g3 : F[c]? = some F[c] := List.getElem?_eq_getElem (by omega)
    have z := (isBl_iff (F := F) g1 g2 g3).mp hb
    exact ⟨n2, _, g1, g3, by rw [← z]; exact g2⟩
  · have g3 : F[c]? = some F[c] := List.getElem?_eq_getElem (by omega)
    obtain ⟨n2, l1, l2, l3⟩ := len_ex G c2 (R := goB B F (B.length - (g + 1)) (R.take g ++ [r + f])) (fun i hi => hO.st.all i (by omega))
    refine ⟨n2, F[c], l1, l2, h.fo _ (List.getElem_mem _), g3, ?_, ?_⟩
    · show (F.take (g + 1) ++ _)[c]? = _
      rw [Fpost c c1 c2, g3]; rfl
    · show (goB _ _ _ _)[c]? = _
      rw [goB_get B F _ _ c (by rw [s2]; omega) (by rw [s2]; omega), l1, g3]; rfl
/-- the first k by themselves -/
theorem Goes.part {B : List (List Int)} {R F R' F' : List Int} {g : Nat} {l r f : Int} (h : Goes B R F R' F' g l r f) {k : Nat} (hk : g < k) : Goes (B.take k) R F R' F' g l r f := by
  have hl : (B.take k).length = min k B.length := List.length_take
  have hlt := h.lt
  refine ⟨by omega, h.pre, by rw [lenAt_take hk]; exact h.e1, h.e2, h.e3, h.g2, h.g3, h.v1, h.v2, fun i i1 i2 => ?_, fun i i1 i2 => ?_⟩
  · rw [lenAt_take (by omega)]; exact h.bl i i1 (by omega)
  · rw [lenAt_take (by omega)]; exact h.aw i i1 (by omega)
theorem Goes.clk {B : List (List Int)} {hi : Int} {R F R' F' : List Int} {g : Nat} {l r f : Int} (h : Goes B R F R' F' g l r f) (G : GoodB B hi) (o : OkP B R F) : clk B R' F' = clk B R F + 1 :=
  clk_go G o h.lt h.pre h.e1 h.e2 h.e3 h.g2 h.g3 h.v1 h.v2 h.bl fun i i1 i2 => by
    obtain ⟨n, b, a1, a2, a3, _, a4, a5⟩ := h.aw i i1 i2
    exact ⟨n, b, a1, a2, a3, a4, a5⟩
/-! signs -/
def flip (c f : Int) : Int := if c % 2 = 1 then -f else f
theorem flip_flip (c f : Int) : flip c (flip c f) = f := by unfold flip; split <;> omega
theorem flip_next (c f : Int) : flip (c + 1) (-f) = flip c f := by
  unfold flip
  by_cases h : c % 2 = 1
  · rw [if_pos h, if_neg (by omega)]
  · rw [if_neg h, if_pos (by omega)]; omega
theorem flip_inj {c f g : Int} (h : flip c f = flip c g) : f = g := by
  have := congrArg (flip c) h
  rwa [flip_flip, flip_flip] at this
theorem flip_ok {c f : Int} (h : f = 1 ∨ f = -1) : flip c f = 1 ∨ flip c f = -1 := by unfold flip; split <;> omega
def sgn (B : List (List Int)) (R F : List Int) (i : Nat) : Int := flip (clk (B.take (i + 1)) R F) (F[i + 1]?.getD 0)
def sg (B : List (List Int)) (R F : List Int) : List Int := (List.range (B.length - 1)).map (sgn B R F)
theorem sg_len (B : List (List Int)) (R F : List Int) : (sg B R F).length = B.length - 1 := by unfold sg; rw [List.length_map, List.length_range]
theorem sg_get {B : List (List Int)} {R F : List Int} {i : Nat} (h : i < B.length - 1) : (sg B R F)[i]? = some (sgn B R F i) := by
  unfold sg; rw [List.getElem?_map, List.getElem?_range h]; rfl
theorem sg_congr {B : List (List Int)} {R F R' F' : List Int} (h : ∀ i, i < B.length - 1 → sgn B R F i = sgn B R' F' i) : sg B R F = sg B R' F' := by
  unfold sg
  exact List.map_congr_left fun i hi => h i (List.mem_range.mp hi)
theorem sg_ok {B : List (List Int)} {S : List Int × List Int} (h : Ok B S) : FacesOk (sg B S.1 S.2) := fun x hx => by
  obtain ⟨i, hi, rfl⟩ := List.mem_map.mp hx
  have hi' := List.mem_range.mp hi
  have hfl := h.fl
  have h1 : i + 1 < S.2.length := by omega
  unfold sgn
  rw [List.getElem?_eq_getElem h1]
  exact flip_ok (h.fo _ (List.getElem_mem h1))
def up (S : List Int × List Int) : Prop := S.2[0]? = some 1
def upB (S : List Int × List Int) : List Int × List Int := if S.2[0]?.getD 0 = 1 then S else negS S
theorem upB_up {S : List Int × List Int} (h : up S) : upB S = S := by unfold upB; rw [show S.2[0]? = some 1 from h]; rfl
theorem face0 {B : List (List Int)} {hi : Int} {S : List Int × List Int} (G : GoodB B hi) (h : Ok B S) : S.2[0]? = some 1 ∨ S.2[0]? = some (-1) := by
  obtain ⟨n, e⟩ := G.first
  have h0 : 0 < B.length := (List.getElem?_eq_some_iff.mp e).1
  obtain ⟨f, e1, e2⟩ := h.whole.fc 0 h0
  rcases e2 with rfl | rfl
  · exact .inl e1
  · exact .inr e1
theorem neg_face0 {S : List Int × List Int} {f : Int} (h : S.2[0]? = some f) : (negS S).2[0]? = some (-f) := by
  show (negL S.2)[0]? = _
  rw [negL_get, h]; rfl
theorem upB_down {S : List Int × List Int} (h : S.2[0]? = some (-1)) : upB S = negS S := by unfold upB; rw [h]; rfl
theorem upB_ok {B : List (List Int)} {S : List Int × List Int} (h : Ok B S) : Ok B (upB S) := by
  unfold upB; split
  · exact h
  · exact h.neg
theorem upB_is {B : List (List Int)} {hi : Int} {S : List Int × List Int} (G : GoodB B hi) (h : Ok B S) : up (upB S) := by
  rcases face0 G h with e | e
  · rw [upB_up e]; exact e
  · rw [upB_down e]; exact neg_face0 e
theorem upB_neg {B : List (List Int)} {hi : Int} {S : List Int × List Int} (G : GoodB B hi) (h : Ok B S) : upB (negS S) = upB S := by
  rcases face0 G h with e | e
  · rw [upB_up e, upB_down (neg_face0 e), negS_neg]
  · rw [upB_down e, upB_up (neg_face0 e)]
def manyN (B : List (List Int)) : Int := cnt B 0
def signsM (B : List (List Int)) (S : List Int × List Int) : List Int := sg B (upB S).1 (upB S).2
def clockM (B : List (List Int)) (S : List Int × List Int) : Int := if S.2[0]?.getD 0 = 1 then clk B S.1 S.2 else 2 * manyN B - 1 - clk B (negS S).1 (negS S).2
theorem clock_up {B : List (List Int)} {S : List Int × List Int} (h : up S) : clockM B S = clk B S.1 S.2 := by unfold clockM; rw [show S.2[0]? = some 1 from h]; rfl
theorem clock_down {B : List (List Int)} {S : List Int × List Int} (h : S.2[0]? = some (-1)) : clockM B S = 2 * manyN B - 1 - clk B (negS S).1 (negS S).2 := by unfold clockM; rw [h]; rfl
section
variable {B : List (List Int)} {hi : Int} {S T : List Int × List Int}
theorem many_pos (G : GoodB B hi) : 1 ≤ manyN B := by
  have := cnt_pos G B.length 0 (by omega) 0 fun row e => by
    obtain ⟨n, e2⟩ := G.first
    rw [e] at e2; cases e2; exact Nat.one_pos
  simpa [manyN] using this
theorem clk_rg (G : GoodB B hi) (h : Ok B S) : 0 ≤ clk B S.1 S.2 ∧ clk B S.1 S.2 < manyN B := clk_len G h.whole
theorem clock_rg (G : GoodB B hi) (h : Ok B S) : 0 ≤ clockM B S ∧ clockM B S < 2 * manyN B := by
  have a := clk_rg G h
  have b := clk_rg G h.neg
  unfold clockM
  split <;> omega
theorem clock_neg (G : GoodB B hi) (h : Ok B S) : clockM B (negS S) = 2 * manyN B - 1 - clockM B S := by
  rcases face0 G h with e | e
  · rw [clock_up e, clock_down (neg_face0 e), negS_neg]
  · rw [clock_down e, clock_up (S := negS S) (neg_face0 e)]; omega
theorem signs_neg (G : GoodB B hi) (h : Ok B S) : signsM B (negS S) = signsM B S := by unfold signsM; rw [upB_neg G h]
/-- nobody can go -/
theorem stuck (h : Ok B S) (hm : moverO B S.1 S.2 = none) : ∀ i, i < B.length → ∃ l f, lenAt B S.1 i = some l ∧ S.2[i]? = some f ∧ S.1[i]? = some (endR l f) := fun i hi => by
  have hb := movN_none (n := B.length) hm i hi
  obtain ⟨l, r, e1, e2, _⟩ := h.st.all i hi
  obtain ⟨f, e3, _⟩ := h.whole.fc i hi
  exact ⟨l, f, e1, e3, by rw [← (isBl_iff (F := S.2) e1 e2 e3).mp hb]; exact e2⟩
theorem beat_stuck (hm : moverO B S.1 S.2 = none) : beatM B S = negS S := by unfold beatM; rw [hm]; rfl
theorem clk_stuck (G : GoodB B hi) (h : Ok B S) (hm : moverO B S.1 S.2 = none) : clk B S.1 S.2 = manyN B - 1 := clk_all G h.whole (stuck h hm)
theorem beat_face0 (G : GoodB B hi) (h : Ok B S) {g : Nat} (hm : moverO B S.1 S.2 = some g) : (beatM B S).2[0]? = S.2[0]? := by
  obtain ⟨l, r, f, q⟩ := goes_of G h hm
  by_cases h0 : g = 0
  · subst h0
    have a := q.g3
    have b := q.e3
    exact a.trans b.symm
  · exact (q.pre 0 (by omega)).2
theorem sg_beat (G : GoodB B hi) (h : Ok B S) {g : Nat} (hm : moverO B S.1 S.2 = some g) : sg B (beatM B S).1 (beatM B S).2 = sg B S.1 S.2 := by
  obtain ⟨l, r, f, q⟩ := goes_of G h hm
  refine sg_congr fun i hi => ?_
  unfold sgn
  by_cases c : i + 1 ≤ g
  · have ef : (beatM B S).2[i + 1]? = S.2[i + 1]? := by
      by_cases c2 : i + 1 = g
      · rw [c2]; exact q.g3.trans q.e3.symm
      · exact (q.pre (i + 1) (by omega)).2
    rw [ef, clk_pre (R := S.1) (F := S.2) fun j hj => q.pre j (by rw [List.length_take] at hj; omega)]
  · have z := (q.part (k := i + 1) (by omega)).clk (good_take G (by omega)) (h.part (i + 1))
    obtain ⟨n, b, _, _, _, a4, a5, _⟩ := q.aw (i + 1) (by omega) (by omega)
    rw [show clk (B.take (i + 1)) (beatM B S).1 (beatM B S).2 = _ from z, show (beatM B S).2[i + 1]? = _ from a5, show S.2[i + 1]? = _ from a4]
    exact flip_next _ _
theorem up_or (G : GoodB B hi) (h : Ok B S) : up S ∨ up (negS S) := by
  rcases face0 G h with e | e
  · exact .inl e
  · exact .inr (neg_face0 e)
theorem clock_beat (G : GoodB B hi) (h : Ok B S) : clockM B (beatM B S) = (clockM B S + 1) % (2 * manyN B) := by
  have hN := many_pos G
  -- facing up, somebody goes
  have A : ∀ {S : List Int × List Int}, Ok B S → up S → ∀ {g : Nat}, moverO B S.1 S.2 = some g → clk B (beatM B S).1 (beatM B S).2 = clk B S.1 S.2 + 1 := fun {S} h u {g} hm => by
    obtain ⟨l, r, f, q⟩ := goes_of G h hm
    exact q.clk G h.whole
  rcases face0 G h with u | u
  · cases hm : moverO B S.1 S.2 with
    | none =>
      rw [beat_stuck hm, clock_neg G h, clock_up u, clk_stuck G h hm]
      rw [Int.emod_eq_of_lt (by omega) (by omega)]; omega
    | some g =>
      have u2 : up (beatM B S) := (beat_face0 G h hm).trans u
      have z := A h u hm
      have b := clk_rg G (beat_ok G h)
      have a := clk_rg G h
      rw [clock_up u2, clock_up u, z, Int.emod_eq_of_lt (by omega) (by omega)]
  · have u' : up (negS S) := neg_face0 u
    have hT := (beat_ok G h).neg
    have er := beat_rev G h
    cases hm : moverO B S.1 S.2 with
    | none =>
      have hs := stuck h hm
      have h0 : clk B (negS S).1 (negS S).2 = 0 := by
        unfold clk
        rw [sumN_zero (a := 0) (Nat.zero_le _) fun i _ hi => ?_]; rfl
        obtain ⟨l, f, e1, e2, e3⟩ := hs i hi
        obtain ⟨f', k1, k2⟩ := h.whole.fc i hi
        rw [e2] at k1; cases k1
        obtain ⟨l', r', m1, m2, m3, m4⟩ := h.st.all i hi
        rw [e1] at m1; cases m1
        exact pas_away (R := (negS S).1) (F := (negS S).2) e1 (by omega) k2 (by show (negL S.2)[i]? = _; rw [negL_get, e2]; rfl) e3
      rw [beat_stuck hm, clock_up u', clock_down u, h0]
      rw [show 2 * manyN B - 1 - 0 + 1 = 2 * manyN B by omega, Int.emod_self]
    | some g =>
      have u2 : (beatM B S).2[0]? = some (-1) := (beat_face0 G h hm).trans u
      have u3 : up (negS (beatM B S)) := neg_face0 u2
      cases hm2 : moverO B (negS (beatM B S)).1 (negS (beatM B S)).2 with
      | none =>
        rw [beat_stuck hm2, negS_neg] at er
        have := neg_face0 u
        rw [← er, u2] at this; cases this
      | some g2 =>
        have z := A hT u3 hm2
        rw [er] at z
        have a := clk_rg G h.neg
        have b := clk_rg G hT
        rw [clock_down u2, clock_down u, z, Int.emod_eq_of_lt (by omega) (by omega)]; omega
theorem signs_beat (G : GoodB B hi) (h : Ok B S) : signsM B (beatM B S) = signsM B S := by
  have A : ∀ {S : List Int × List Int}, Ok B S → up S → signsM B (beatM B S) = signsM B S := fun {S} h u => by
    cases hm : moverO B S.1 S.2 with
    | none => rw [beat_stuck hm, signs_neg G h]
    | some g =>
      have u2 : up (beatM B S) := (beat_face0 G h hm).trans u
      unfold signsM
      rw [upB_up u2, upB_up u, sg_beat G h hm]
  rcases face0 G h with u | u
  · exact A h u
  · have hT := (beat_ok G h).neg
    have er := beat_rev G h
    cases hm : moverO B S.1 S.2 with
    | none => rw [beat_stuck hm, signs_neg G h]
    | some g =>
      have u2 : (beatM B S).2[0]? = some (-1) := (beat_face0 G h hm).trans u
      have u3 : up (negS (beatM B S)) := neg_face0 u2
      have z := A hT u3
      rw [er, signs_neg G h, signs_neg G (beat_ok G h)] at z
      exact z.symm
/-- one state alone has this clock and these signs -/
theorem uniq_up (G : GoodB B hi) (h : Ok B S) (h' : Ok B T) (u : up S) (u' : up T) (ec : clk B S.1 S.2 = clk B T.1 T.2) (es : sg B S.1 S.2 = sg B T.1 T.2) : ∀ k, k ≤ B.length → ∀ i, i < k → S.1[i]? = T.1[i]? ∧ S.2[i]? = T.2[i]?
  | 0, _, i, hi => absurd hi (Nat.not_lt_zero i)
  | k + 1, hk, i, hi => by
    have ih := uniq_up G h h' u u' ec es k (by omega)
    by_cases c : i < k
    · exact ih i c
    have : i = k := by omega
    subst this
    have ef : S.2[i]? = T.2[i]? := by
      cases i with
      | zero => exact (show S.2[0]? = some 1 from u).trans (show T.2[0]? = some 1 from u').symm
      | succ i =>
        have z := congrArg (fun l => l[i]?) es
        simp only [sg_get (B := B) (show i < B.length - 1 by omega)] at z
        have z' := Option.some.inj z
        unfold sgn at z'
        rw [clk_pre (R := T.1) (F := T.2) fun j hj => ih j (by rw [List.length_take] at hj; omega)] at z'
        have z2 := flip_inj z'
        obtain ⟨f, e1, _⟩ := h.whole.fc (i + 1) (by omega)
        obtain ⟨f', e2, _⟩ := h'.whole.fc (i + 1) (by omega)
        rw [e1, e2] at z2 ⊢
        exact congrArg some z2
    obtain ⟨l, r, e1, e2, r1, r2⟩ := h.st.all i (by omega)
    obtain ⟨l', s, g1, g2, s1, s2⟩ := h'.st.all i (by omega)
    obtain ⟨f, e3, _⟩ := h.whole.fc i (by omega)
    have g3 : T.2[i]? = some f := by rw [← ef]; exact e3
    have el : lenAt B S.1 i = lenAt B T.1 i := lenAt_pre fun j hj => (ih j hj).1
    rw [e1, g1] at el
    cases el
    have p1 := pas_eq (F := S.2) e1 e2 e3
    have p2 := pas_eq (F := T.2) g1 g2 g3
    have b1 := clk_bd G h.whole (B.length - (i + 1)) (i + 1) (by omega)
    have b2 := clk_bd G h'.whole (B.length - (i + 1)) (i + 1) (by omega)
    rw [q_succ h.whole.st (by omega) e2] at b1
    rw [q_succ h'.whole.st (by omega) g2] at b2
    have z3 : sumN (pas B S.1 S.2) i = sumN (pas B T.1 T.2) i := sumN_congr i fun j hj => by
      unfold pas
      rw [(ih j hj).1, (ih j hj).2, lenAt_pre fun m hm => (ih m (by omega)).1]
    have n1 : sumN (pas B S.1 S.2) (i + 1) = sumN (pas B S.1 S.2) i + pas B S.1 S.2 i := rfl
    have n2 : sumN (pas B T.1 T.2) (i + 1) = sumN (pas B T.1 T.2) i + pas B T.1 T.2 i := rfl
    unfold clk at ec
    have er : r = s := pas_inj G (c := sumN (pas B S.1 S.2) B.length - sumN (pas B S.1 S.2) i) e1 r1 r2 s1 s2 (by rw [← p1]; omega) (by rw [← p1]; omega) (by rw [← p2]; omega) (by rw [← p2]; omega)
    exact ⟨by rw [e2, g2, er], ef⟩
theorem list_ext {xs ys : List Int} {n : Nat} (h1 : xs.length = n) (h2 : ys.length = n) (h : ∀ i, i < n → xs[i]? = ys[i]?) : xs = ys := by
  apply List.ext_getElem?
  intro i
  by_cases c : i < n
  · exact h i c
  · rw [List.getElem?_eq_none (by omega), List.getElem?_eq_none (by omega)]
theorem uniq (G : GoodB B hi) (h : Ok B S) (h' : Ok B T) (ec : clockM B S = clockM B T) (es : signsM B S = signsM B T) : S = T := by
  have A : ∀ {S T : List Int × List Int}, Ok B S → Ok B T → up S → up T → clk B S.1 S.2 = clk B T.1 T.2 → sg B S.1 S.2 = sg B T.1 T.2 → S = T := fun {S T} h h' u u' ec es => by
    have z := uniq_up G h h' u u' ec es B.length (Nat.le_refl _)
    obtain ⟨R, F⟩ := S
    obtain ⟨R', F'⟩ := T
    have : R = R' := list_ext h.st.len h'.st.len fun i hi => (z i hi).1
    have : F = F' := list_ext h.fl h'.fl fun i hi => (z i hi).2
    subst_vars; rfl
  unfold signsM at es
  rcases face0 G h with u | u <;> rcases face0 G h' with u' | u'
  · rw [clock_up u, clock_up u'] at ec
    rw [upB_up u, upB_up u'] at es
    exact A h h' u u' ec es
  · rw [clock_up u, clock_down u'] at ec
    have a := clk_rg G h
    have b := clk_rg G h'.neg
    omega
  · rw [clock_down u, clock_up u'] at ec
    have a := clk_rg G h.neg
    have b := clk_rg G h'
    omega
  · rw [clock_down u, clock_down u'] at ec
    rw [upB_down u, upB_down u'] at es
    have z := A h.neg h'.neg (neg_face0 u) (neg_face0 u') (by omega) es
    rw [← negS_neg S, z, negS_neg]
end
end Af
/-! ### running sums: the mathematics, and rules that were lacking -/
namespace Af
open PySem PySem.Spec PyProof.Rows L2
def mxR : List Int → Int
  | [] => 0
  | n :: ns => ns.foldl max n
theorem foldl_max_mem : ∀ (ns : List Int) (n : Int), ns.foldl max n = n ∨ ns.foldl max n ∈ ns
  | [], n => .inl rfl
  | m :: ns, n => by
    show ns.foldl max (max n m) = n ∨ ns.foldl max (max n m) ∈ m :: ns
    rcases foldl_max_mem ns (max n m) with h | h
    · rw [h]
      rcases Int.le_total n m with q | q
      · right; rw [Int.max_eq_right q]; exact List.mem_cons_self
      · left; exact Int.max_eq_left q
    · right; exact List.mem_cons_of_mem _ h
theorem mxR_ge {r : List Int} {x : Int} (h : x ∈ r) : x ≤ mxR r := by
  cases r with
  | nil => cases h
  | cons n ns =>
    rcases List.mem_cons.mp h with rfl | h
    · exact (foldl_max_ge ns x).1
    · exact (foldl_max_ge ns n).2 x h
theorem mxR_le {r : List Int} {b : Int} (h : ∀ x ∈ r, x ≤ b) (hb : 0 ≤ b) : mxR r ≤ b := by
  cases r with
  | nil => exact hb
  | cons n ns => exact foldl_max_le ns n (h n List.mem_cons_self) fun x hx => h x (List.mem_cons_of_mem _ hx)
theorem mxR_mem {r : List Int} (h : r ≠ []) : mxR r ∈ r := by
  cases r with
  | nil => exact absurd rfl h
  | cons n ns =>
    rcases foldl_max_mem ns n with e | e
    · show ns.foldl max n ∈ _; rw [e]; exact List.mem_cons_self
    · exact List.mem_cons_of_mem _ e
/-- max of a list or a tuple of ints -/
def rMaxS (K : PySem.W.Frag) : List V → Hp → VK → Prop := fun vs H Q => ∃ (a : Addr) (ns : List Int), vs = [.ref a] ∧ ns ≠ [] ∧ Sq K H a (ns.map V.int) ∧ Q (.int (mxR ns)) H
theorem cr_maxS {X : Cx} {K : PySem.W.Frag} (hc : X.calm = true) (hu : X.A.units + 64 < cLine) (hK : X.K = K := by rfl) : CallR X (.builtin "max") (rMaxS K) := by
  intro pins s σ H vs us Q I r h
  subst hK
  obtain ⟨a, ns, rfl, hne, hs, q⟩ := h
  rcases hs with hs | hs
  · refine cr_max hc pins s σ H _ us Q I r ⟨a, ns, rfl, hs, by cases ns with | nil => exact absurd rfl hne | cons _ _ => simp, fun m h1 h2 => ?_⟩
    have e1 := mxR_ge h1
    have e2 := h2 _ (mxR_mem hne)
    rw [show m = mxR ns by omega]; exact q
  · cases ns with
    | nil => exact absurd rfl hne
    | cons n ns => exact cr_maxT hc hu pins s σ H _ us Q I r ⟨a, n, ns, rfl, hs, q⟩
/-- a slice of a list or a tuple -/
theorem slS {X : Cx} : SlR X (fun x lo hi H Q => ∃ (a : Addr) (xs : List V) (b : Bool), x = .ref a ∧ SqB X.K b H a xs ∧ ∀ (p : Addr) (H' : Hp), Same H H' → SqB X.K b H' p (cutV xs lo hi) → Q (.ref p) H') := by
  intro pins s σ H x v vl vu lo hi sl Q I rx hs pl pu h
  obtain ⟨a, xs, b, rfl, hq, q⟩ := h
  cases b with
  | true => exact sl_list pins s σ H _ v vl vu lo hi sl Q I rx hs pl pu ⟨a, xs, rfl, hq, fun p np => q p _ (same_new np) (SqL.of upd_same)⟩
  | false =>
    refine sl_tupA pins s σ H _ v vl vu lo hi sl Q I rx hs pl pu ⟨a, xs, rfl, hq, fun e => q a H (Same.refl _) ?_, fun _ p np => q p _ (same_new np) (.inl (.inl upd_same))⟩
    have z : cutV xs lo hi = xs := by
      unfold cutV
      rw [e.1, e.2, List.drop_zero, Nat.sub_zero, List.take_length]
    rw [z]; exact hq
theorem walk_itc {lo c : Int} {n : Nat} : Walk (Itc lo c n) n (fun _ => True) (YFn fun i => .int (lo + (i : Nat) * c)) := ⟨fun i H hi _ => hi, fun H _ => Nat.le_refl _, fun i H x H' _ _ y => y⟩
/-! weights -/
def wAt (W : List (List Int)) (k j : Nat) : Int := ((W[k]?.getD [])[j]?).getD 0
def yW : List (List Int) → List (List Int) → Nat → Int
  | [], _, _ => 1
  | t :: T, W, j => sumN (fun i => wAt W 0 i * yW T W.tail i) (t[j]?.getD 0).toNat
def rowF (B W : List (List Int)) (k m : Nat) : Int := sumN (fun j => wAt W k j * yW (B.drop (k + 1)) (W.drop (k + 1)) j) m
def rowW (B W : List (List Int)) (k : Nat) : List Int := (List.range ((mxR (B[k]?.getD [])).toNat + 1)).map (rowF B W k)
theorem rowW_get {B W : List (List Int)} {k m : Nat} {row : List Int} (e : B[k]? = some row) (h : m ≤ (mxR row).toNat) : (rowW B W k)[m]? = some (rowF B W k m) := by
  unfold rowW
  rw [e, List.getElem?_map, List.getElem?_range (by show m < (mxR row).toNat + 1; omega)]; rfl
theorem rowW_len {B W : List (List Int)} {k : Nat} {row : List Int} (e : B[k]? = some row) : (rowW B W k).length = (mxR row).toNat + 1 := by
  unfold rowW
  rw [e, List.length_map, List.length_range]; rfl
theorem rowF_succ (B W : List (List Int)) (k m : Nat) : rowF B W k (m + 1) = rowF B W k m + wAt W k m * yW (B.drop (k + 1)) (W.drop (k + 1)) m := rfl
theorem wAt_drop (W : List (List Int)) (k j : Nat) : wAt (W.drop k) 0 j = wAt W k j := by unfold wAt; rw [List.getElem?_drop, Nat.add_zero]
theorem yW_at {B W : List (List Int)} {k j : Nat} {row : List Int} {n : Int} (e : B[k]? = some row) (e2 : row[j]? = some n) : yW (B.drop k) (W.drop k) j = rowF B W k n.toNat := by
  rw [drop_cons e]
  show sumN (fun i => wAt (W.drop k) 0 i * yW (B.drop (k + 1)) (W.drop k).tail i) (row[j]?.getD 0).toNat = _
  rw [e2, List.tail_drop]
  unfold rowF
  exact sumN_congr _ fun i _ => by rw [wAt_drop]
def onesW (B : List (List Int)) : List (List Int) := B.map fun r => List.replicate (mxR r).toNat 1
theorem onesW_len (B : List (List Int)) : (onesW B).length = B.length := by unfold onesW; rw [List.length_map]
theorem onesW_get {B : List (List Int)} {k : Nat} {row : List Int} (e : B[k]? = some row) : (onesW B)[k]? = some (List.replicate (mxR row).toNat 1) := by unfold onesW; rw [List.getElem?_map, e]; rfl
theorem wAt_ones {B : List (List Int)} {k j : Nat} {row : List Int} (e : B[k]? = some row) (h : j < (mxR row).toNat) : wAt (onesW B) k j = 1 := by
  unfold wAt
  rw [onesW_get e]
  show ((List.replicate (mxR row).toNat (1 : Int))[j]?).getD 0 = 1
  rw [List.getElem?_replicate, if_pos h]; rfl
theorem yW_ones : ∀ (T : List (List Int)) (j : Nat), yW T (onesW T) j = cnt T j
  | [], _ => rfl
  | t :: T, j => by
    show sumN _ (t[j]?.getD 0).toNat = sumN (cnt T) (t[j]?.getD 0).toNat
    refine sumN_congr _ fun i hi => ?_
    have ht : (onesW (t :: T)).tail = onesW T := rfl
    rw [ht, yW_ones T i]
    have hi2 : i < (mxR t).toNat := by
      cases e : t[j]? with
      | none => rw [e] at hi; exact absurd hi (Nat.not_lt_zero i)
      | some n =>
        rw [e] at hi
        have h1 : i < n.toNat := hi
        have h2 := mxR_ge (List.mem_of_getElem? e)
        omega
    rw [wAt_ones (B := t :: T) (k := 0) rfl hi2, Int.one_mul]
theorem rowF_ones {B : List (List Int)} {k m : Nat} {row : List Int} (e : B[k]? = some row) (h : m ≤ (mxR row).toNat) : rowF B (onesW B) k m = rowN B k m := by
  unfold rowF rowN
  refine sumN_congr _ fun j hj => ?_
  rw [wAt_ones e (by omega), Int.one_mul]
  have : (onesW B).drop (k + 1) = onesW (B.drop (k + 1)) := by unfold onesW; rw [List.map_drop]
  rw [this, yW_ones]
/-- tables of which each is as long as the one ahead allows -/
structure Tabs (B : List (List Int)) (hi : Int) : Prop where
  wide : ∀ (k : Nat) (row r : List Int), B[k]? = some row → B[k + 1]? = some r → (r.length : Int) = mxR row
  pos : ∀ r ∈ B, ∀ x ∈ r, 1 ≤ x ∧ x ≤ hi
  full : ∀ r ∈ B, r ≠ []
theorem GoodB.tabs {B : List (List Int)} {hi : Int} (G : GoodB B hi) : Tabs B hi := by
  refine ⟨fun k row r e1 e2 => ?_, G.pos, G.full⟩
  cases row with
  | nil => exact absurd rfl (G.full _ (List.mem_of_getElem? e1))
  | cons n ns => exact G.wide k n ns r e1 e2
theorem tabs_nil {hi : Int} : Tabs [] hi := ⟨fun k row r e => by simp at e, fun r h => (by cases h), fun r h => (by cases h)⟩
theorem tabs_take {B : List (List Int)} {hi : Int} (G : GoodB B hi) (k : Nat) : Tabs (B.take k) hi := by
  cases k with
  | zero => rw [List.take_zero]; exact tabs_nil
  | succ k => exact (good_take G (by omega)).tabs
structure WOk (B W : List (List Int)) : Prop where
  len : W.length = B.length
  row : ∀ (k : Nat) (row : List Int), B[k]? = some row → ∃ w, W[k]? = some w ∧ (w.length : Int) = mxR row ∧ ∀ x ∈ w, -(2 ^ 64) < x ∧ x < 2 ^ 64
theorem wok_ones {B : List (List Int)} {hi : Int} (T : Tabs B hi) : WOk B (onesW B) := by
  refine ⟨onesW_len B, fun k row e => ⟨_, onesW_get e, ?_, fun x hx => ?_⟩⟩
  · have hr := T.full row (List.mem_of_getElem? e)
    have := (T.pos row (List.mem_of_getElem? e) _ (mxR_mem hr)).1
    rw [List.length_replicate]; omega
  · rw [(List.mem_replicate.mp hx).2]; decide
theorem wAt_get {W : List (List Int)} {k j : Nat} {w : List Int} {x : Int} (e1 : W[k]? = some w) (e2 : w[j]? = some x) : wAt W k j = x := by unfold wAt; rw [e1]; show (w[j]?).getD 0 = x; rw [e2]; rfl
def rowsD (B W : List (List Int)) : PyData := .list ((List.range B.length).map fun k => rowL (rowW B W k))
theorem rev_range {α : Type} (f : Nat → α) (n : Nat) : ((List.range n).map fun m => f (n - 1 - m)).reverse = (List.range n).map f := by
  apply List.ext_getElem?
  intro i
  by_cases h : i < n
  · rw [List.getElem?_reverse (by rw [List.length_map, List.length_range]; exact h), List.length_map, List.length_range, List.getElem?_map, List.getElem?_map, List.getElem?_range (by omega), List.getElem?_range h]
    show some (f (n - 1 - (n - 1 - i))) = some (f i)
    rw [show n - 1 - (n - 1 - i) = i by omega]
  · rw [List.getElem?_eq_none (by simp; omega), List.getElem?_eq_none (by simp; omega)]
theorem dps_rev {K : PySem.W.Frag} {H : Hp} : ∀ {vs : List V} {ds : List PyData}, DpAll K H vs ds → DpAll K H vs.reverse ds.reverse
  | [], [], _ => .nil
  | [], _ :: _, h => by cases h
  | _ :: _, [], h => by cases h
  | v :: vs, d :: ds, h => by
    cases h with
    | cons h1 h2 =>
      rw [List.reverse_cons, List.reverse_cons]
      exact dps_app (dps_rev h2) (.cons h1 .nil)
theorem RowsD.of_get : ∀ {ds : List PyData} {B : List (List Int)}, ds.length = B.length → (∀ (i : Nat) (d : PyData) (r : List Int), ds[i]? = some d → B[i]? = some r → RowD d r) → RowsD ds B
  | [], [], _, _ => .nil
  | [], _ :: _, h, _ => by simp at h
  | _ :: _, [], h, _ => by simp at h
  | d :: ds, r :: B, h, g => .cons (g 0 d r rfl rfl) (RowsD.of_get (by simpa using h) fun i d' r' e1 e2 => g (i + 1) d' r' (by simpa using e1) (by simpa using e2))
theorem rows_take {ds : List PyData} {B : List (List Int)} (h : RowsD ds B) (k : Nat) : RowsD (ds.take k) (B.take k) := by
  have hl := rows_len h
  refine RowsD.of_get (by rw [List.length_take, List.length_take, hl]) fun i d r e1 e2 => ?_
  have hi : i < k := by
    have := (List.getElem?_eq_some_iff.mp e1).1
    rw [List.length_take] at this; omega
  rw [List.getElem?_take_of_lt hi] at e1 e2
  obtain ⟨d', g1, g2⟩ := rows_get h e2
  rw [e1] at g1; cases g1
  exact g2
theorem dpsTake {K : PySem.W.Frag} {H : Hp} : ∀ {vs : List V} {ds : List PyData} (n : Nat), DpAll K H vs ds → DpAll K H (vs.take n) (ds.take n)
  | [], [], _, _ => by simp; exact .nil
  | [], _ :: _, _, h => by cases h
  | _ :: _, [], _, h => by cases h
  | _ :: _, _ :: _, 0, _ => .nil
  | v :: vs, d :: ds, n + 1, h => by
    cases h with
    | cons a b => exact .cons a (dpsTake n b)
def seqD (b : Bool) (ds : List PyData) : PyData := if b = true then .list ds else .tuple ds
theorem seqD_seq (b : Bool) (ds : List PyData) : SeqD (seqD b ds) ds := by cases b; exact .t ds; exact .l ds
theorem dp_of_sqB {K : PySem.W.Frag} {H : Hp} {b : Bool} {a : Addr} {xs : List V} {ds : List PyData} (h : SqB K b H a xs) (g : DpAll K H xs ds) : Dp K H (.ref a) (seqD b ds) := by
  cases b with
  | true => exact .lst h g
  | false => exact .tup h g
theorem dp_seqB {K : PySem.W.Frag} {H : Hp} {v : V} {d : PyData} {ds : List PyData} (h : Dp K H v d) (s : SeqD d ds) : ∃ a xs b, v = .ref a ∧ SqB K b H a xs ∧ DpAll K H xs ds := by
  obtain ⟨a, xs, rfl, h1, h2⟩ := dp_seq h s
  obtain ⟨b, hb⟩ := h1.kind
  exact ⟨a, xs, b, rfl, hb, h2⟩
theorem cut_take {xs : List V} {k : Nat} (h : k ≤ xs.length) : cutV xs none (some (k : Int)) = xs.take k := by
  unfold cutV
  rw [HT.sIx_none, HT.sIx_nat, List.drop_zero, Nat.sub_zero, Nat.min_eq_left h]
end Af
namespace Af
open PySem PySem.Spec PyProof.Rows L2
theorem filt_last (p : Nat → Bool) : ∀ n, (∃ i, i < n ∧ p i = true) → ∃ L0 m, (List.range n).filter p = L0 ++ [m] ∧ m < n ∧ p m = true ∧ ∀ i, m < i → i < n → p i = false
  | 0, ⟨i, h, _⟩ => absurd h (Nat.not_lt_zero i)
  | n + 1, ⟨i, h, e⟩ => by
    rw [List.range_succ, List.filter_append, List.filter_cons, List.filter_nil]
    cases hn : p n with
    | true => exact ⟨_, n, by rw [if_pos rfl], by omega, hn, fun j j1 j2 => by omega⟩
    | false =>
      have hi : i < n := by
        by_cases z : i = n
        · subst z; rw [e] at hn; cases hn
        · omega
      obtain ⟨L0, m, g1, g2, g3, g4⟩ := filt_last p n ⟨i, hi, e⟩
      refine ⟨L0, m, by rw [if_neg (by decide), List.append_nil]; exact g1, by omega, g3, fun j j1 j2 => ?_⟩
      by_cases z : j = n
      · rw [z]; exact hn
      · exact g4 j j1 (by omega)
theorem filt_head (p : Nat → Bool) : ∀ n, (∃ i, i < n ∧ p i = true) → ∃ m L1, (List.range n).filter p = m :: L1 ∧ m < n ∧ p m = true ∧ ∀ i, i < m → p i = false
  | 0, ⟨i, h, _⟩ => absurd h (Nat.not_lt_zero i)
  | n + 1, ⟨i, h, e⟩ => by
    rw [List.range_succ, List.filter_append, List.filter_cons, List.filter_nil]
    by_cases c : ∃ j, j < n ∧ p j = true
    · obtain ⟨m, L1, g1, g2, g3, g4⟩ := filt_head p n c
      exact ⟨m, _, by rw [g1]; rfl, by omega, g3, g4⟩
    · have z : i = n := by
        by_cases z : i = n
        · exact z
        · exact absurd ⟨i, by omega, e⟩ c
      subst z
      have hz : ∀ j, j < i → p j = false := fun j hj => by
        cases q : p j with
        | false => rfl
        | true => exact absurd ⟨j, hj, q⟩ c
      refine ⟨i, [], ?_, by omega, e, hz⟩
      rw [e, if_pos rfl, List.filter_eq_nil_iff.mpr fun j hj => by rw [hz j (List.mem_range.mp hj)]; decide]; rfl
/-- what is behind a rung, by the row -/
def pasL (rl : List Int) (l r f : Int) : Int := if f = 1 then rl[(r - 1).toNat]?.getD 0 else rl[l.toNat]?.getD 0 - rl[r.toNat]?.getD 0
theorem pasL_ones {B : List (List Int)} {k : Nat} {row : List Int} {l r f : Int} (e : B[k]? = some row) (h1 : 1 ≤ r) (h2 : r ≤ l) (h3 : l ≤ mxR row) : pasL (rowW B (onesW B) k) l r f = pasN B k l r f := by
  have g : ∀ m : Nat, m ≤ (mxR row).toNat → ((rowW B (onesW B) k)[m]?).getD 0 = rowN B k m := fun m hm => by rw [rowW_get e hm, rowF_ones e hm]; rfl
  unfold pasL pasN
  rw [g _ (by omega), g _ (by omega), g _ (by omega)]
def okR (rl : List Int) (l f c : Int) (n : Nat) : List Int := ((List.range n).filter fun j => decide (pasL rl l (1 + (j : Nat)) f ≤ c)).map fun j => (1 : Int) + (j : Nat)
theorem okR_succ (rl : List Int) (l f c : Int) (n : Nat) : okR rl l f c (n + 1) = okR rl l f c n ++ (if decide (pasL rl l (1 + (n : Nat)) f ≤ c) = true then [(1 : Int) + (n : Nat)] else []) := by
  unfold okR
  rw [List.range_succ, List.filter_append, List.filter_cons, List.filter_nil, List.map_append]
  split <;> rfl
theorem okR_len (rl : List Int) (l f c : Int) (n : Nat) : (okR rl l f c n).length ≤ n := by
  unfold okR
  rw [List.length_map]
  have := List.length_filter_le (fun j => decide (pasL rl l (1 + (j : Nat)) f ≤ c)) (List.range n)
  rw [List.length_range] at this; exact this
structure Reach (rl : List Int) (l f c r : Int) : Prop where
  lo : 1 ≤ r
  hi : r ≤ l
  le : pasL rl l r f ≤ c
  lt : c < pasL rl l r f + (rl[r.toNat]?.getD 0 - rl[(r - 1).toNat]?.getD 0)
theorem okR_up {rl : List Int} {l c : Int} (hl : 1 ≤ l) (h0 : rl[0]?.getD 0 = 0) (c0 : 0 ≤ c) (c1 : c < rl[l.toNat]?.getD 0) : ∃ L0 r, okR rl l 1 c l.toNat = L0 ++ [r] ∧ Reach rl l 1 c r := by
  obtain ⟨L0, m, e, m1, m2, m3⟩ := filt_last (fun j => decide (pasL rl l (1 + (j : Nat)) 1 ≤ c)) l.toNat ⟨0, by omega, decide_eq_true (by
    show pasL rl l 1 1 ≤ c
    unfold pasL
    rw [if_pos rfl]
    show rl[0]?.getD 0 ≤ c
    omega)⟩
  refine ⟨L0.map fun j => (1 : Int) + (j : Nat), 1 + (m : Nat), by unfold okR; rw [e, List.map_append]; rfl, by omega, by omega, of_decide_eq_true m2, ?_⟩
  unfold pasL
  rw [if_pos rfl]
  by_cases z : m + 1 < l.toNat
  · have q := of_decide_eq_false (m3 (m + 1) (by omega) z)
    unfold pasL at q
    rw [if_pos rfl, show ((1 : Int) + ((m + 1 : Nat) : Int) - 1).toNat = ((1 : Int) + (m : Nat)).toNat by omega] at q
    omega
  · rw [show ((1 : Int) + (m : Nat)).toNat = l.toNat by omega]; omega
theorem okR_down {rl : List Int} {l f c : Int} (hf : f ≠ 1) (hl : 1 ≤ l) (h0 : rl[0]?.getD 0 = 0) (c0 : 0 ≤ c) (c1 : c < rl[l.toNat]?.getD 0) : ∃ r L1, okR rl l f c l.toNat = r :: L1 ∧ Reach rl l f c r := by
  obtain ⟨m, L1, e, m1, m2, m3⟩ := filt_head (fun j => decide (pasL rl l (1 + (j : Nat)) f ≤ c)) l.toNat ⟨l.toNat - 1, by omega, decide_eq_true (by
    unfold pasL
    rw [if_neg hf, show ((1 : Int) + ((l.toNat - 1 : Nat) : Int)).toNat = l.toNat by omega]
    omega)⟩
  refine ⟨1 + (m : Nat), L1.map fun j => (1 : Int) + (j : Nat), by unfold okR; rw [e]; rfl, by omega, by omega, of_decide_eq_true m2, ?_⟩
  unfold pasL
  rw [if_neg hf]
  by_cases z : 0 < m
  · have q := of_decide_eq_false (m3 (m - 1) (by omega))
    unfold pasL at q
    rw [if_neg hf, show ((1 : Int) + ((m - 1 : Nat) : Int)).toNat = ((1 : Int) + (m : Nat) - 1).toNat by omega] at q
    omega
  · rw [show ((1 : Int) + (m : Nat) - 1).toNat = 0 by omega]; omega
theorem yesT {σ : L2.St} {H : Hp} {A B : Hp → Prop} (h : A H) : tYes σ H (fun b H3 => if b = true then A H3 else B H3) := by
  show (if true = true then A H else B H)
  exact iteT h
theorem yesS {σ : L2.St} {H : Hp} {A B : Hp → Prop} (h : A H) : tYes σ H (fun b H3 => if b = true then A H3 else B H3) := by
  show (if true = true then A H else B H)
  exact iteT h
theorem dp_lstI {K : PySem.W.Frag} {H : Hp} {p : Addr} {ns : List Int} (h : H p = some (.lst (ns.map V.int))) : Dp K H (.ref p) (rowL ns) := .lst (SqL.of h) (dps_ints ns)
end Af
namespace Af
open PySem PySem.Spec PyProof.Rows L2
/-- what was known in G, and what was made since H -/
def mxH (G H H' : Hp) : Hp := fun a => match H a with
  | none => H' a
  | some _ => G a
theorem mxH_new {G H H' : Hp} {a : Addr} (h : H a = none) : mxH G H H' a = H' a := by unfold mxH; rw [h]
theorem mxH_old {G H H' : Hp} {a : Addr} (h : H a ≠ none) : mxH G H H' a = G a := by
  unfold mxH
  cases e : H a with
  | none => exact absurd e h
  | some _ => rfl
theorem mxH_in {G H H' : Hp} (s : Same G H) : Same G (mxH G H H') := fun a o e => by
  rw [mxH_old (by rw [s a o e]; exact fun z => nomatch z)]; exact e
theorem mxH_hid {H H' : Hp} {z : Addr} (hz : H z ≠ none) (s : Same H H') : Same (mxH (hid H z) H H') (hid H' z) := fun a o e => by
  cases q : H a with
  | none =>
    rw [mxH_new q] at e
    rw [hid_ne (fun c => hz (by rw [← c]; exact q))]; exact e
  | some x =>
    rw [mxH_old (by rw [q]; exact fun z => nomatch z)] at e
    exact hid_mono s a o e
theorem mxH_fresh {H0 H H' : Hp} (s0 : Same H0 H) (s : Same H H') : Same (mxH (fresh H0 H) H H') (fresh H0 H') := fun a o e => by
  cases q : H a with
  | none =>
    rw [mxH_new q] at e
    rw [fresh_at (s0.free q)]; exact e
  | some x =>
    rw [mxH_old (by rw [q]; exact fun z => nomatch z)] at e
    exact fresh_up s a o e
theorem mxH_up {G H H1 H2 : Hp} (s : Same H1 H2) : Same (mxH G H H1) (mxH G H H2) := fun a o e => by
  cases q : H a with
  | none => rw [mxH_new q] at e ⊢; exact s a o e
  | some x =>
    have n : H a ≠ none := by rw [q]; exact fun z => nomatch z
    rw [mxH_old n] at e ⊢; exact e
theorem mxH_mid {G H H1 H2 : Hp} (s : Same G H) (s1 : Same H H1) : Same (mxH G H1 H2) (mxH G H H2) := fun a o e => by
  cases q : H1 a with
  | none =>
    rw [mxH_new q] at e
    rw [mxH_new (s1.free q)]; exact e
  | some x =>
    rw [mxH_old (by rw [q]; exact fun z => nomatch z)] at e
    exact mxH_in s a o e
theorem mxH_le {G H H' : Hp} (s : Same G H) (s1 : Same H H') : Same (mxH G H H') H' := fun a o e => by
  cases q : H a with
  | none => rw [mxH_new q] at e; exact e
  | some x =>
    rw [mxH_old (by rw [q]; exact fun z => nomatch z)] at e
    exact s1 a o (s a o e)
theorem call_tupG {X : Cx} {K : PySem.W.Frag} (hK : X.K = K := by rfl) : CallR X (.type "tuple") (fun xs H Q => ∃ (G : Hp) (a : Addr) (ns : List Int), xs = [.ref a] ∧ Same G H ∧ Sq K G a (ns.map V.int) ∧ ∀ (p : Addr) (H' : Hp), Same H H' → Dp K (mxH G H H') (.ref p) (rowT ns) → Q (.ref p) H') := by
  intro pins s σ H xs us Q I r h
  subst hK
  obtain ⟨G, a, ns, rfl, hs, hq, q⟩ := h
  refine call_tuple_of pins s σ H _ us Q I r ?_
  rcases hq with h | h
  · exact ⟨a, _, rfl, .inl ⟨hs.seq h, fun l nl => q l _ (same_new nl) (.tup (.inl (.inl (by rw [mxH_new nl, upd_same]))) (dps_ints ns))⟩⟩
  · exact ⟨a, _, rfl, .inr ⟨sqt_mono hs h, q a H (Same.refl _) (.tup (sqt_mono (mxH_in hs) h) (dps_ints ns))⟩⟩
theorem q_next {P : List (List Int)} {R : List Int} {i : Nat} {r : Int} (hn : i + 1 < P.length → ∃ n, lenAt P R (i + 1) = some n) (hl : i < P.length) (e : R[i]? = some r) : qN P R (i + 1) = cnt (P.drop (i + 1)) (r - 1).toNat := by
  unfold qN
  by_cases h : i + 1 < P.length
  · rw [if_pos h]
    obtain ⟨n, e1⟩ := hn h
    exact tot_succ e1 e
  · rw [if_neg h, List.drop_eq_nil_of_le (by omega)]; rfl
theorem pas_pre {P : List (List Int)} {R F R' F' : List Int} {k : Nat} (h : ∀ i, i < k → R'[i]? = R[i]? ∧ F'[i]? = F[i]?) : sumN (pas P R' F') k = sumN (pas P R F) k := sumN_congr _ fun i hi => by
  unfold pas
  rw [(h i hi).1, (h i hi).2, lenAt_pre fun j hj => (h j (by omega)).1]
end Af
/-! ### what the laws do themselves -/
namespace Af
open PySem PySem.Spec PyProof.Rows L2
theorem eqvT {d : PyData} (h : d.canLay0 = true) : PyData.eqv d d = true := PySem.SeqAt.eqv_refl d h
theorem lay_row (ns : List Int) : (rowT ns).canLay0 = true := by
  have : ∀ ns : List Int, PyData.canLayAll0 (ns.map PyData.int) = true := fun ns => by
    induction ns with
    | nil => simp [PyData.canLayAll0]
    | cons n ns ih => simp [PyData.canLayAll0, PyData.canLay0, ih]
  simp only [rowT, PyData.canLay0]; exact this ns
theorem lay_state (R F : List Int) : (stateT R F).canLay0 = true := by
  simp only [stateT, PyData.canLay0, PyData.canLayAll0, lay_row]; rfl
theorem shapedT {d : PyData} (h1 : d.canLay0 = true) (h2 : d.depth ≤ 64) : SeqAt.shaped d = true := by
  show (d.canLay0 && decide (d.depth ≤ 64)) = true
  rw [h1, decide_eq_true h2]; rfl
theorem shaped_row (ns : List Int) : SeqAt.shaped (rowT ns) = true := shapedT (lay_row ns) (by rw [depth_row]; decide)
theorem shaped_st (R F : List Int) : SeqAt.shaped (stateT R F) = true := shapedT (lay_state R F) (by simp only [stateT, PyData.depth, PyData.depthAll, depth_row]; decide)
/-- x != y, where they are equal -/
theorem ne_row {ns : List Int} : (!PyData.eqv (rowT ns) (rowT ns)) = false := by rw [eqvT (lay_row ns)]; rfl
theorem ne_state {R F : List Int} : (!PyData.eqv (stateT R F) (stateT R F)) = false := by rw [eqvT (lay_state R F)]; rfl
/-- a tuple and a tuple -/
def rCatG (K : PySem.W.Frag) : R2 := fun x y H Q => ∃ (G : Hp) (a b : Addr) (xs ys : List V), x = .ref a ∧ y = .ref b ∧ Same G H ∧ SqT K G a xs ∧ SqT K G b ys ∧ xs.length + ys.length ≤ 1000 ∧ ∀ (p : Addr) (H' : Hp), Same H H' → SqT K (mxH G H H') p (xs ++ ys) → Q (.ref p) H'
theorem op_catG {X : Cx} {K : PySem.W.Frag} (hK : X.K = K := by rfl) : OpR X (binaryOp .Add) (rCatG K) := by
  intro pins s σ H x y v u Q I rx ry h
  subst hK
  obtain ⟨G, a, b, xs, ys, rfl, rfl, sG, ha, hb, hz, q⟩ := h
  refine op_catA pins s σ H _ _ v u Q I rx ry ⟨a, b, xs, ys, rfl, rfl, sqt_mono sG ha, sqt_mono sG hb, Nat.le_of_lt (small1000 hz), fun e => ?_, fun _ e => ?_, fun _ _ p np => ?_⟩
  · subst e; exact q b H (Same.refl _) (sqt_mono (mxH_in sG) hb)
  · subst e; exact q a H (Same.refl _) (by rw [List.append_nil]; exact sqt_mono (mxH_in sG) ha)
  · exact q p _ (same_new np) (.inl (.inl (by rw [mxH_new np, upd_same])))
/-- a slice of a tuple -/
theorem slG {X : Cx} {K : PySem.W.Frag} (hK : X.K = K := by rfl) : SlR X (fun x lo hi H Q => ∃ (G : Hp) (a : Addr) (xs : List V), x = .ref a ∧ Same G H ∧ SqT K G a xs ∧ ∀ (p : Addr) (H' : Hp), Same H H' → SqT K (mxH G H H') p (cutV xs lo hi) → Q (.ref p) H') := by
  intro pins s σ H x v vl vu lo hi sl Q I rx hs pl pu h
  subst hK
  obtain ⟨G, a, xs, rfl, sG, hq, q⟩ := h
  refine sl_tupA pins s σ H _ v vl vu lo hi sl Q I rx hs pl pu ⟨a, xs, rfl, sqt_mono sG hq, fun e => q a H (Same.refl _) ?_, fun _ p np => q p _ (same_new np) (.inl (.inl (by rw [mxH_new np, upd_same])))⟩
  have z : cutV xs lo hi = xs := by
    unfold cutV
    rw [e.1, e.2, List.drop_zero, Nat.sub_zero, List.take_length]
  rw [z]; exact sqt_mono (mxH_in sG) hq
theorem cut_init {xs : List V} {x : V} : cutV (xs ++ [x]) none (some (-1)) = xs := by
  unfold cutV
  rw [HT.sIx_none]
  have : HT.sIx (xs ++ [x]).length (xs ++ [x]).length (some (-1)) = xs.length := by
    show (if (-1 : Int) < 0 then ((-1 : Int) + (((xs ++ [x]).length : Nat) : Int)).toNat else min (-1 : Int).toNat (xs ++ [x]).length) = _
    rw [if_pos (by decide), List.length_append, List.length_singleton]; omega
  rw [this, List.drop_zero, Nat.sub_zero, List.take_left]
theorem rowT_at {K : PySem.W.Frag} {H : Hp} {v : V} {ns : List Int} (h : Dp K H v (rowT ns)) : ∃ a, v = .ref a ∧ SqT K H a (ns.map V.int) := by
  cases h with
  | tup h1 h2 => rw [dps_ints_inv h2] at h1; exact ⟨_, rfl, h1⟩
theorem dp_rowT {K : PySem.W.Frag} {H : Hp} {a : Addr} {ns : List Int} (h : SqT K H a (ns.map V.int)) : Dp K H (.ref a) (rowT ns) := .tup h (dps_ints ns)
theorem list_last {α : Type} {l : List α} {n : Nat} (h : l.length = n + 1) : ∃ l0 x, l = l0 ++ [x] ∧ l0.length = n := by
  rcases List.eq_nil_or_concat l with rfl | ⟨l0, x, rfl⟩
  · simp at h
  · rw [List.concat_eq_append] at h ⊢
    exact ⟨l0, x, rfl, by simpa using h⟩
theorem box_some {H : Hp} {bx : Addr} {m : Nat} (h : Box H bx m) : H bx ≠ none := by
  obtain ⟨_, _, _, z, _⟩ := h
  rw [z]; exact fun z => nomatch z
/-- how many standings there can be -/
theorem cnt_le {B : List (List Int)} {h : Nat} (hp : ∀ r ∈ B, ∀ x ∈ r, x ≤ h) : ∀ j, cnt B j ≤ (h : Int) ^ B.length := by
  induction B with
  | nil => intro j; exact Int.le_refl _
  | cons t T ih =>
    intro j
    have ih' := ih fun r hr => hp r (List.mem_cons_of_mem _ hr)
    have hh : (0 : Int) ≤ (h : Int) ^ T.length := Int.pow_nonneg (Int.natCast_nonneg h)
    have hs : ∀ n : Nat, sumN (cnt T) n ≤ (n : Int) * (h : Int) ^ T.length := fun n => by
      induction n with
      | zero => show (0 : Int) ≤ ((0 : Nat) : Int) * _; rw [Int.natCast_zero, Int.zero_mul]; exact Int.le_refl _
      | succ n ihn =>
        show sumN (cnt T) n + cnt T n ≤ ((n + 1 : Nat) : Int) * _
        have e : ((n + 1 : Nat) : Int) * (h : Int) ^ T.length = (n : Int) * (h : Int) ^ T.length + (h : Int) ^ T.length := by
          rw [show ((n + 1 : Nat) : Int) = (n : Int) + 1 by omega, Int.add_mul, Int.one_mul]
        have := ih' n
        omega
    show sumN (cnt T) (t[j]?.getD 0).toNat ≤ (h : Int) ^ (T.length + 1)
    have hn : (t[j]?.getD 0).toNat ≤ h := by
      cases e : t[j]? with
      | none => exact Nat.zero_le _
      | some x =>
        have := hp t List.mem_cons_self x (List.mem_of_getElem? e)
        show x.toNat ≤ h
        omega
    have e2 : (h : Int) ^ (T.length + 1) = (h : Int) * (h : Int) ^ T.length := by rw [Int.pow_succ, Int.mul_comm]
    rw [e2]
    exact Int.le_trans (hs _) (Int.mul_le_mul_of_nonneg_right (by omega) hh)
theorem many_le {B : List (List Int)} {h n : Nat} (G : GoodB B h) (h1 : 1 ≤ h) (hl : B.length ≤ n) : manyN B ≤ (h : Int) ^ n := by
  have a := cnt_le (B := B) (h := h) (fun r hr x hx => (G.pos r hr x hx).2) 0
  have b : (h : Int) ^ B.length ≤ (h : Int) ^ n := by
    have : h ^ B.length ≤ h ^ n := Nat.pow_le_pow_right h1 hl
    have e1 : ((h ^ B.length : Nat) : Int) = (h : Int) ^ B.length := Int.natCast_pow _ _
    have e2 : ((h ^ n : Nat) : Int) = (h : Int) ^ n := Int.natCast_pow _ _
    omega
  exact Int.le_trans a b
/-- the youngest alone turned about, and as far from the other end -/
theorem flip_neg (c f : Int) : flip c (-f) = -flip c f := by unfold flip; split <;> omega
theorem rowN_last {B : List (List Int)} {n : Nat} (h : B.length = n + 1) : ∀ m, rowN B n m = (m : Nat)
  | 0 => rfl
  | m + 1 => by
    rw [rowN_succ, rowN_last h m, List.drop_eq_nil_of_le (by omega)]
    show (m : Int) + 1 = _
    omega
section
variable {B : List (List Int)} {hi : Int} {R0 F0 : List Int} {l r f : Int} {n : Nat}
theorem last_get {α : Type} {L : List α} {x : α} (h : L.length = n) : (L ++ [x])[n]? = some x := by rw [← h]; simp
theorem last_pre {α : Type} {L : List α} {x : α} {i : Nat} (h : L.length = n) (hi : i < n) : (L ++ [x])[i]? = L[i]? := List.getElem?_append_left (by omega)
theorem last_ok (hB : B.length = n + 1) (hR : R0.length = n) (hF : F0.length = n) (h : Ok B (R0 ++ [r], F0 ++ [f])) (e : lenAt B (R0 ++ [r]) n = some l) : Ok B (R0 ++ [l + 1 - r], F0 ++ [-f]) := by
  have pre : ∀ i, i < n → (R0 ++ [l + 1 - r])[i]? = (R0 ++ [r])[i]? := fun i hi => by rw [last_pre hR hi, last_pre hR hi]
  refine ⟨⟨by simp [hR, hB], fun c hc => ?_⟩, by simp [hF, hB], fun x hx => ?_⟩
  · obtain ⟨m, s, e1, e2, e3, e4⟩ := h.st.all c hc
    have e2 : (R0 ++ [r])[c]? = some s := e2
    have e1 : lenAt B (R0 ++ [r]) c = some m := e1
    by_cases c1 : c < n
    · exact ⟨m, s, by rw [← e1]; exact lenAt_pre fun i hi => pre i (by omega), by show (R0 ++ [l + 1 - r])[c]? = _; rw [pre c c1]; exact e2, e3, e4⟩
    · have : c = n := by omega
      subst this
      rw [e] at e1; cases e1
      rw [last_get hR] at e2; cases e2
      exact ⟨l, l + 1 - r, by rw [← e]; exact lenAt_pre pre, last_get hR, by omega, by omega⟩
  · rcases List.mem_append.mp (show x ∈ F0 ++ [-f] from hx) with hx | hx
    · exact h.fo x (List.mem_append_left _ hx)
    · obtain rfl : x = -f := by simpa using hx
      rcases h.fo f (List.mem_append_right _ List.mem_cons_self) with h | h <;> omega
theorem last_clk (hB : B.length = n + 1) (hR : R0.length = n) (hF : F0.length = n) (e : lenAt B (R0 ++ [r]) n = some l) (r1 : 1 ≤ r) (r2 : r ≤ l) (hf : f = 1 ∨ f = -1) : clk B (R0 ++ [l + 1 - r]) (F0 ++ [-f]) = clk B (R0 ++ [r]) (F0 ++ [f]) := by
  have e' : lenAt B (R0 ++ [l + 1 - r]) n = some l := by rw [← e]; exact lenAt_pre fun i hi => by rw [last_pre hR hi, last_pre hR hi]
  unfold clk
  rw [hB]
  show sumN _ n + pas _ _ _ n = sumN _ n + pas _ _ _ n
  rw [pas_pre (R := R0 ++ [r]) (F := F0 ++ [f]) (k := n) fun i hi => ⟨by rw [last_pre hR hi, last_pre hR hi], by rw [last_pre hF hi, last_pre hF hi]⟩]
  rw [pas_eq e (last_get hR) (last_get hF), pas_eq e' (last_get hR) (last_get hF)]
  unfold pasN
  rw [rowN_last hB, rowN_last hB, rowN_last hB, rowN_last hB, rowN_last hB]
  rcases hf with rfl | rfl
  · rw [if_neg (by decide), if_pos rfl]; omega
  · rw [if_pos (by decide), if_neg (by decide)]; omega
theorem last_sg (h2 : 1 ≤ n) (hB : B.length = n + 1) (hR : R0.length = n) (hF : F0.length = n) {M0 : List Int} {m : Int} (es : sg B (R0 ++ [r]) (F0 ++ [f]) = M0 ++ [m]) : sg B (R0 ++ [l + 1 - r]) (F0 ++ [-f]) = M0 ++ [-m] := by
  have hM : M0.length = n - 1 := by
    have := congrArg List.length es
    rw [sg_len, List.length_append, List.length_singleton] at this; omega
  have eg : ∀ i, i < n → sgn B (R0 ++ [r]) (F0 ++ [f]) i = ((M0 ++ [m])[i]?).getD 0 := fun i hi => by
    rw [← es, sg_get (by omega)]; rfl
  apply List.ext_getElem?
  intro i
  by_cases c : i < n
  · rw [sg_get (by omega)]
    have z := eg i c
    unfold sgn at z ⊢
    have ec : clk (B.take (i + 1)) (R0 ++ [l + 1 - r]) (F0 ++ [-f]) = clk (B.take (i + 1)) (R0 ++ [r]) (F0 ++ [f]) := clk_pre fun j hj => by
      rw [List.length_take] at hj
      exact ⟨by rw [last_pre hR (by omega), last_pre hR (by omega)], by rw [last_pre hF (by omega), last_pre hF (by omega)]⟩
    rw [ec]
    by_cases c2 : i + 1 < n
    · rw [last_pre hF c2] at z ⊢
      rw [z, List.getElem?_append_left (by omega), List.getElem?_append_left (by omega), List.getElem?_eq_getElem (by omega)]; rfl
    · have hi1 : i + 1 = n := by omega
      have hi2 : M0.length = i := by omega
      rw [hi1, last_get hF] at z ⊢
      rw [last_get hi2] at z ⊢
      show some (flip _ (-f)) = some (-m)
      rw [flip_neg]
      have z' : flip (clk (B.take n) (R0 ++ [r]) (F0 ++ [f])) f = m := z
      rw [z']
  · rw [List.getElem?_eq_none (by rw [sg_len]; omega), List.getElem?_eq_none (by rw [List.length_append, List.length_singleton]; omega)]
theorem last_both (G : GoodB B hi) (h2 : 1 ≤ n) (hB : B.length = n + 1) (hR : R0.length = n) (hF : F0.length = n) (h : Ok B (R0 ++ [r], F0 ++ [f])) (e : lenAt B (R0 ++ [r]) n = some l) {M0 : List Int} {m : Int} (es : signsM B (R0 ++ [r], F0 ++ [f]) = M0 ++ [m]) :
    clockM B (R0 ++ [l + 1 - r], F0 ++ [-f]) = clockM B (R0 ++ [r], F0 ++ [f]) ∧ signsM B (R0 ++ [l + 1 - r], F0 ++ [-f]) = M0 ++ [-m] := by
  obtain ⟨l', s, k1, k2, r1, r2⟩ := h.st.all n (by omega)
  have k1 : lenAt B (R0 ++ [r]) n = some l' := k1
  have k2 : (R0 ++ [r])[n]? = some s := k2
  rw [e] at k1; cases k1
  rw [last_get hR] at k2; cases k2
  have hf : f = 1 ∨ f = -1 := h.fo f (List.mem_append_right _ List.mem_cons_self)
  have z0 : ∀ x : Int, (F0 ++ [x])[0]? = F0[0]? := fun x => last_pre hF (by omega)
  have neg : ∀ (R : List Int) (x : Int), negS (R, F0 ++ [x]) = (R, negL F0 ++ [-x]) := fun R x => by unfold negS negL; rw [List.map_append]; rfl
  rcases face0 G h with u | u
  · have u1 : F0[0]? = some 1 := by rw [← z0 f]; exact u
    have u2 : up (R0 ++ [l + 1 - r], F0 ++ [-f]) := by show (F0 ++ [-f])[0]? = _; rw [z0]; exact u1
    have u3 : up (R0 ++ [r], F0 ++ [f]) := u
    unfold signsM at es ⊢
    rw [upB_up u2, clock_up u2, clock_up u3]
    rw [upB_up u3] at es
    exact ⟨last_clk hB hR hF e r1 r2 hf, last_sg h2 hB hR hF es⟩
  · have u1 : F0[0]? = some (-1) := by rw [← z0 f]; exact u
    have u2 : (R0 ++ [l + 1 - r], F0 ++ [-f]).2[0]? = some (-1) := by show (F0 ++ [-f])[0]? = _; rw [z0]; exact u1
    unfold signsM at es ⊢
    rw [upB_down u2, clock_down u2, clock_down u, neg, neg]
    rw [upB_down u, neg] at es
    have hN : (negL F0).length = n := by rw [negL_len]; exact hF
    refine ⟨?_, last_sg h2 hB hR hN es⟩
    have := last_clk (f := -f) hB hR hN e r1 r2 (by omega)
    show _ - clk B (R0 ++ [l + 1 - r]) (negL F0 ++ [- -f]) = _ - clk B (R0 ++ [r]) (negL F0 ++ [-f])
    rw [this]
end
end Af
namespace Af
open PySem PySem.Spec PyProof.Rows L2
theorem ixK {X : Cx} {K : PySem.W.Frag} (hK : X.K = K := by rfl) : IxR X (rIx K) := by subst hK; exact ix_seq
def rSlK (K : PySem.W.Frag) : V → Option Int → Option Int → Hp → VK → Prop := fun x lo hi H Q => ∃ (a : Addr) (xs : List V) (b : Bool), x = .ref a ∧ SqB K b H a xs ∧ ∀ (p : Addr) (H' : Hp), Same H H' → SqB K b H' p (cutV xs lo hi) → Q (.ref p) H'
theorem slK {X : Cx} {K : PySem.W.Frag} (hK : X.K = K := by rfl) : SlR X (rSlK K) := by subst hK; exact slS
theorem row_seqB {K : PySem.W.Frag} {H : Hp} {v : V} {d : PyData} {ns : List Int} (h : Dp K H v d) (r : RowD d ns) : ∃ a b, v = .ref a ∧ SqB K b H a (ns.map V.int) := by
  obtain ⟨a, xs, b, rfl, hs, ha⟩ := dp_seqB h r
  rw [dps_ints_inv ha] at hs
  exact ⟨a, b, rfl, hs⟩
theorem dp_sqB {K : PySem.W.Frag} {H : Hp} {b : Bool} {a : Addr} {ns : List Int} (h : SqB K b H a (ns.map V.int)) : Dp K H (.ref a) (seqD b (ns.map PyData.int)) := dp_of_sqB h (dps_ints ns)
theorem cut_takeI {ns : List Int} {k : Nat} (h : k ≤ ns.length) : cutV (ns.map V.int) none (some (k : Int)) = (ns.take k).map V.int := by
  rw [cut_take (by rw [List.length_map]; exact h), List.map_take]
end Af
namespace Af
open PySem PySem.Spec PyProof.Rows L2
section
variable {B : List (List Int)} {hi : Int} {S T : List Int × List Int}
theorem clock_it (G : GoodB B hi) (h : Ok B S) : ∀ n : Nat, clockM B (itB B n S) = (clockM B S + n) % (2 * manyN B)
  | 0 => by
    have := clock_rg G h
    show clockM B S = (clockM B S + (0 : Nat)) % _
    rw [Int.natCast_zero, Int.add_zero, Int.emod_eq_of_lt this.1 this.2]
  | n + 1 => by
    show clockM B (beatM B (itB B n S)) = _
    rw [clock_beat G (itB_ok G n h), clock_it G h n, Int.emod_add_emod]
    rw [show clockM B S + (n : Int) + 1 = clockM B S + ((n + 1 : Nat) : Int) by omega]
theorem signs_it (G : GoodB B hi) (h : Ok B S) : ∀ n : Nat, signsM B (itB B n S) = signsM B S
  | 0 => rfl
  | n + 1 => by
    show signsM B (beatM B (itB B n S)) = _
    rw [signs_beat G (itB_ok G n h), signs_it G h n]
theorem it_of (G : GoodB B hi) (h : Ok B S) (h' : Ok B T) {n : Nat} (hc : clockM B T = (clockM B S + n) % (2 * manyN B)) (hs : signsM B T = signsM B S) : T = itB B n S :=
  uniq G h' (itB_ok G n h) (by rw [hc, clock_it G h]) (by rw [hs, signs_it G h])
theorem it_round (G : GoodB B hi) (h : Ok B S) {n : Nat} (hn : (n : Int) = 2 * manyN B) : itB B n S = S := by
  have := clock_rg G h
  exact (it_of G h h (n := n) (by rw [hn, Int.add_emod_right, Int.emod_eq_of_lt this.1 this.2]) rfl).symm
theorem it_ne (G : GoodB B hi) (h : Ok B S) {n : Nat} (h1 : 0 < n) (h2 : (n : Int) < 2 * manyN B) : itB B n S ≠ S := fun e => by
  have c := clock_it G h n
  rw [e] at c
  have r := clock_rg G h
  by_cases z : clockM B S + n < 2 * manyN B
  · rw [Int.emod_eq_of_lt (by omega) z] at c; omega
  · have e2 : (clockM B S + n) % (2 * manyN B) = clockM B S + n - 2 * manyN B := by
      rw [← Int.sub_emod_right, Int.emod_eq_of_lt (by omega) (by omega)]
    rw [e2] at c; omega
theorem along_get (B : List (List Int)) (S : List Int × List Int) : ∀ (n j : Nat), j ≤ n → (alongL B n S)[j]? = some (itB B j S)
  | 0, j, h => by
    have : j = 0 := by omega
    subst this; rfl
  | n + 1, j, h => by
    rw [alongL_succ]
    by_cases c : j ≤ n
    · rw [List.getElem?_append_left (by rw [alongL_len]; omega)]; exact along_get B S n j c
    · have : j = n + 1 := by omega
      subst this
      rw [List.getElem?_append_right (by rw [alongL_len]; exact Nat.le_refl _), alongL_len, Nat.sub_self]; rfl
end
theorem eqv_allI : ∀ a b : List Int, PyData.eqvAll (a.map PyData.int) (b.map PyData.int) = decide (a = b)
  | [], [] => by simp [PyData.eqvAll]
  | [], _ :: _ => by simp [PyData.eqvAll]
  | _ :: _, [] => by simp [PyData.eqvAll]
  | x :: a, y :: b => by
    simp only [List.map_cons, PyData.eqvAll, PyData.eqv, eqv_allI a b, List.cons.injEq]
    rw [Bool.eq_iff_iff]
    simp
theorem eqv_row (a b : List Int) : PyData.eqv (rowT a) (rowT b) = decide (a = b) := by simp only [rowT, PyData.eqv]; exact eqv_allI a b
theorem eqv_st (S T : List Int × List Int) : PyData.eqv (stD S) (stD T) = decide (S = T) := by
  obtain ⟨R, F⟩ := S
  obtain ⟨R', F'⟩ := T
  show PyData.eqv (.tuple [rowT R, rowT F]) (.tuple [rowT R', rowT F']) = _
  simp only [PyData.eqv, PyData.eqvAll, eqv_row, Prod.mk.injEq]
  rw [Bool.eq_iff_iff]
  simp
def lstLen : Option HO → Nat
  | some (.lst vs) => vs.length
  | _ => 0
end Af
namespace Af
section
variable {B : List (List Int)} {hi : Int} {S T : List Int × List Int}
theorem after_int (G : GoodB B hi) (h : Ok B S) (h' : Ok B T) {c : Int} (hc : clockM B T = (clockM B S + c) % (2 * manyN B)) (hs : signsM B T = signsM B S) : T = itB B (c % (2 * manyN B)).toNat S := by
  have hN := many_pos G
  have m1 := Int.emod_nonneg c (show 2 * manyN B ≠ 0 by omega)
  refine it_of G h h' ?_ hs
  rw [hc, show (((c % (2 * manyN B)).toNat : Nat) : Int) = c % (2 * manyN B) by omega, Int.add_comm (clockM B S) (c % _), Int.emod_add_emod, Int.add_comm]
theorem after_nat (G : GoodB B hi) (h : Ok B S) (h' : Ok B T) {n : Nat} (hc : clockM B T = (clockM B S + (n : Int)) % (2 * manyN B)) (hs : signsM B T = signsM B S) : T = itB B n S := it_of G h h' hc hs
theorem after_back (G : GoodB B hi) (h : Ok B S) (h' : Ok B T) {n : Nat} (hc : clockM B T = (clockM B (itB B n S) + (0 - (n : Int))) % (2 * manyN B)) (hs : signsM B T = signsM B (itB B n S)) : T = S := by
  have r := clock_rg G h
  refine uniq G h' h ?_ (by rw [hs, signs_it G h])
  rw [hc, clock_it G h, Int.emod_add_emod, show clockM B S + (n : Int) + (0 - (n : Int)) = clockM B S by omega, Int.emod_eq_of_lt r.1 r.2]
end
end Af
namespace Af
/-- everybody at an end, facing away -/
def AwayTo (B : List (List Int)) (R F : List Int) (k : Nat) : Prop := ∀ c, c < k → ∃ n f, lenAt B R c = some n ∧ F[c]? = some f ∧ R[c]? = some (endR n (-f))
section
variable {B : List (List Int)} {hi : Int} {S T : List Int × List Int}
theorem away_clk {R F : List Int} (h : OkP B R F) (a : AwayTo B R F B.length) : clk B R F = 0 := by
  unfold clk
  rw [sumN_zero (a := 0) (Nat.zero_le _) fun i _ hi => ?_]; rfl
  obtain ⟨n, f, e1, e2, e3⟩ := a i hi
  obtain ⟨n', r, k1, k2, k3, k4⟩ := h.st i hi
  rw [e1] at k1; cases k1
  obtain ⟨f', k5, k6⟩ := h.fc i hi
  rw [e2] at k5; cases k5
  exact pas_away (f := -f) e1 (by omega) (by omega) (by rw [Int.neg_neg]; exact e2) e3
theorem AwayTo.part {R F : List Int} (a : AwayTo B R F B.length) (k : Nat) : AwayTo (B.take k) R F (B.take k).length := fun c hc => by
  rw [List.length_take] at hc
  obtain ⟨n, f, e1, e2, e3⟩ := a c (by omega)
  exact ⟨n, f, by rw [lenAt_take (by omega)]; exact e1, e2, e3⟩
theorem away_sg {R F : List Int} {f0 : Int} {M : List Int} (h : Ok B (R, f0 :: M)) (a : AwayTo B R (f0 :: M) B.length) : sg B R (f0 :: M) = M := by
  have hl : M.length + 1 = B.length := h.fl
  apply List.ext_getElem?
  intro i
  by_cases c : i < B.length - 1
  · rw [sg_get c]
    unfold sgn
    rw [away_clk (h.part (i + 1)) (a.part (i + 1)), List.getElem?_cons_succ, List.getElem?_eq_getElem (show i < M.length by omega)]; rfl
  · rw [List.getElem?_eq_none (by rw [sg_len]; omega), List.getElem?_eq_none (by omega)]
/-- a beat that only turns everybody: nobody could go -/
theorem stuck_of (G : GoodB B hi) (h : Ok B S) (e : beatM B S = negS S) : moverO B S.1 S.2 = none := by
  cases hm : moverO B S.1 S.2 with
  | none => rfl
  | some g =>
    obtain ⟨l, r, f, q⟩ := goes_of G h hm
    have g2 := q.g2
    rw [show beatM B (S.1, S.2) = negS S from e] at g2
    have e2 := q.e2
    rw [show (negS S).1 = S.1 from rfl, e2] at g2
    have hf := q.e3
    obtain ⟨f', k1, k2⟩ := h.whole.fc g q.lt
    rw [hf] at k1; cases k1
    have := Option.some.inj g2
    omega
/-- the start of a round, found by its beat -/
theorem start_of (G : GoodB B hi) (h : Ok B T) (u : up T) (e : beatM B (negS T) = T) : AwayTo B T.1 T.2 B.length := by
  have hm := stuck_of G h.neg (by rw [e, negS_neg])
  intro c hc
  obtain ⟨l, f, e1, e2, e3⟩ := stuck h.neg hm c hc
  have e2 : (negL T.2)[c]? = some f := e2
  rw [negL_get] at e2
  cases z : T.2[c]? with
  | none => rw [z] at e2; cases e2
  | some f' =>
    rw [z] at e2
    have : -f' = f := Option.some.inj e2
    exact ⟨l, f', e1, rfl, by rw [this]; exact e3⟩
theorem clock_lt_up (G : GoodB B hi) (h : Ok B T) (hc : clockM B T < manyN B) : up T := by
  rcases face0 G h with u | u
  · exact u
  · rw [clock_down u] at hc
    have := clk_rg G h.neg
    omega
theorem beat_inj (G : GoodB B hi) (h : Ok B S) (h' : Ok B T) (e : beatM B S = beatM B T) : S = T := by
  have a := beat_rev G h
  have b := beat_rev G h'
  rw [e, b] at a
  rw [← negS_neg S, ← a, negS_neg]
end
end Af
namespace Af
section
variable {B : List (List Int)} {hi : Int} {S T : List Int × List Int}
def Hit (B : List (List Int)) (T : List Int × List Int) : Prop := up T ∧ beatM B (negS T) = T
theorem hit_ex (G : GoodB B hi) (h : Ok B S) {m : Nat} (hm : 2 * manyN B = (m : Int) + 1) : ∃ j, j ≤ m ∧ Hit B (itB B j S) := by
  have hN := many_pos G
  have r := clock_rg G h
  have m1 := Int.emod_nonneg (-clockM B S) (show 2 * manyN B ≠ 0 by omega)
  have m2 := Int.emod_lt_of_pos (-clockM B S) (show 0 < 2 * manyN B by omega)
  refine ⟨((-clockM B S) % (2 * manyN B)).toNat, by omega, ?_⟩
  have hO := itB_ok G ((-clockM B S) % (2 * manyN B)).toNat h
  have hc := clock_it G h ((-clockM B S) % (2 * manyN B)).toNat
  have hs := signs_it G h ((-clockM B S) % (2 * manyN B)).toNat
  rw [show ((((-clockM B S) % (2 * manyN B)).toNat : Nat) : Int) = (-clockM B S) % (2 * manyN B) by omega, Int.add_comm, Int.emod_add_emod, Int.add_left_neg, Int.zero_emod] at hc
  generalize itB B ((-clockM B S) % (2 * manyN B)).toNat S = T at hO hc hs
  refine ⟨clock_lt_up G hO (by omega), uniq G (beat_ok G hO.neg) hO ?_ (by rw [signs_beat G hO.neg, signs_neg G hO])⟩
  rw [clock_beat G hO.neg, clock_neg G hO, hc, show 2 * manyN B - 1 - 0 + 1 = 2 * manyN B by omega, Int.emod_self]
theorem hit_signs (G : GoodB B hi) (h : Ok B T) (ht : Hit B T) {f0 : Int} {M : List Int} (e : T.2 = f0 :: M) : signsM B T = M := by
  obtain ⟨R, F⟩ := T
  have e : F = f0 :: M := e
  subst e
  unfold signsM
  rw [upB_up ht.1]
  exact away_sg (F := f0 :: M) h (start_of G h ht.1 ht.2)
theorem hit_prev (G : GoodB B hi) (h : Ok B T) (h' : Ok B S) (e : beatM B S = T) : S = negS T ↔ beatM B (negS T) = T :=
  ⟨fun z => by rw [← z]; exact e, fun z => beat_inj G h' h.neg (by rw [e, z])⟩
end
end Af
namespace Af
open PySem PySem.Spec PyProof.Rows L2
theorem lay_sts : ∀ L : List (List Int × List Int), PyData.canLayAll0 (L.map stD) = true
  | [] => by simp [PyData.canLayAll0]
  | S :: L => by
    simp only [List.map_cons, PyData.canLayAll0]
    rw [show (stD S).canLay0 = true from lay_state _ _, lay_sts L]; rfl
theorem depth_st (S : List Int × List Int) : (stD S).depth = 2 := by simp only [stD, stateT, PyData.depth, PyData.depthAll, depth_row]; rfl
theorem depth_sts : ∀ L : List (List Int × List Int), PyData.depthAll (L.map stD) ≤ 2
  | [] => by simp [PyData.depthAll]
  | S :: L => by
    have := depth_sts L
    simp only [List.map_cons, PyData.depthAll, depth_st]; omega
theorem shaped_sts (L : List (List Int × List Int)) : SeqAt.shaped (.list (L.map stD)) = true :=
  shapedT (by simp only [PyData.canLay0]; exact lay_sts L) (by have := depth_sts L; simp only [PyData.depth]; omega)
theorem in_sts {L : List (List Int × List Int)} {S : List Int × List Int} (h : S ∈ L) : ((L.map stD).any fun z => PyData.eqv z (stD S)) = true := by
  rw [List.any_eq_true]
  exact ⟨stD S, List.mem_map.mpr ⟨S, h, rfl⟩, by rw [eqv_st]; exact decide_eq_true rfl⟩
theorem any_sts (L : List (List Int × List Int)) (S : List Int × List Int) : ((L.map stD).any fun z => PyData.eqv z (stD S)) = decide (S ∈ L) := by
  rw [Bool.eq_iff_iff, List.any_eq_true, decide_eq_true_iff]
  constructor
  · rintro ⟨z, hz, e⟩
    obtain ⟨T, hT, rfl⟩ := List.mem_map.mp hz
    rw [eqv_st] at e
    have := of_decide_eq_true e
    rw [← this]; exact hT
  · exact fun h => List.any_eq_true.mp (in_sts h)
theorem flat3 (v : V) : (List.replicate (3 : Int).toNat [v]).flatten = [v, v, v] := rfl
theorem flat2 (v : V) : (List.replicate (2 : Int).toNat [v]).flatten = [v, v] := rfl
theorem fit_three {B : List (List Int)} {hi : Nat} {S : List Int × List Int} {M : List Int} (G : GoodB B hi) (h1 : 1 ≤ hi) (h2 : hi ≤ 100) (h3 : B.length ≤ 100) (hO : Ok B S) (hM : FacesOk M) (hl : M.length ≤ 1000) : Fit (.list [bookT B, stD S, rowT M]) := by
  have e := hO.st.len
  have e2 := hO.fl
  refine fit_of (sml_list fun d hd => ?_) ⟨?_, ?_⟩
  · rcases List.mem_cons.mp hd with rfl | hd
    · exact sml_book G (by omega)
    · rcases List.mem_cons.mp hd with rfl | hd
      · exact sml_state G (by omega) hO.st hO.fo
      · obtain rfl : d = rowT M := by simpa using hd
        exact sml_faces hM
  · have := depth_book B
    simp only [PyData.depth, PyData.depthAll, depth_row, depth_st]; omega
  · have := bulk_book G h1 h2 h3
    have h5 : (stD S).bulk ≤ 100000 := (st_sz hO (by omega)).2
    simp only [PyData.bulk, PyData.bulkAll, bulk_row]; omega
theorem sz_rows3 {M : List Int} (h : M.length ≤ 1000) : Sz (.list [rowT M, rowT M, rowT M]) :=
  sz_list3 (by rw [depth_row]; decide) (by rw [depth_row]; decide) (by rw [depth_row]; decide) (by rw [bulk_row]; omega) (by rw [bulk_row]; omega) (by rw [bulk_row]; omega)
end Af
namespace Af
open PySem PySem.Spec PyProof.Rows L2
theorem ne_st {U : List Int × List Int} : (!PyData.eqv (stateT U.1 U.2) (stD U)) = false := ne_state
theorem eq_st {U : List Int × List Int} : PyData.eqv (stateT U.1 U.2) (stD U) = true := eqvT (lay_state _ _)
end Af
namespace Af
section
variable {B : List (List Int)} {hi : Int} {S T : List Int × List Int}
theorem faces_uniq {R F F' : List Int} (h : Ok B (R, F)) (h' : Ok B (R, F')) (u : up (R, F)) (u' : up (R, F')) (es : sg B R F = sg B R F') : F = F' := by
  have key : ∀ k, k ≤ B.length → ∀ i, i < k → F[i]? = F'[i]? := fun k => by
    induction k with
    | zero => exact fun _ i hi => absurd hi (Nat.not_lt_zero i)
    | succ k ih =>
      intro hk i hi
      by_cases c : i < k
      · exact ih (by omega) i c
      have : i = k := by omega
      subst this
      cases i with
      | zero => exact (show F[0]? = some 1 from u).trans (show F'[0]? = some 1 from u').symm
      | succ i =>
        have z := congrArg (fun l => l[i]?) es
        simp only [sg_get (B := B) (show i < B.length - 1 by omega)] at z
        have z' := Option.some.inj z
        unfold sgn at z'
        rw [clk_pre (R := R) (F := F') (R' := R) (F' := F) fun j hj => ⟨rfl, ih (by omega) j (by rw [List.length_take] at hj; omega)⟩] at z'
        have z2 := flip_inj z'
        obtain ⟨f, e1, _⟩ := h.whole.fc (i + 1) (by omega)
        obtain ⟨f', e2, _⟩ := h'.whole.fc (i + 1) (by omega)
        have e1 : F[i + 1]? = some f := e1
        have e2 : F'[i + 1]? = some f' := e2
        rw [e1, e2] at z2 ⊢
        exact congrArg some z2
  exact list_ext h.fl h'.fl (key B.length (Nat.le_refl _))
theorem mod_refl (m y : Int) (hm : 0 < m) : m - 1 - y % m = (m - 1 - y) % m := by
  have h0 := Int.emod_add_mul_ediv y m
  have h1 := Int.emod_nonneg y (show m ≠ 0 by omega)
  have h2 := Int.emod_lt_of_pos y hm
  have e : m - 1 - y = (m - 1 - y % m) + m * (-(y / m)) := by
    rw [Int.mul_neg]
    generalize m * (y / m) = k at h0 ⊢
    omega
  rw [e, Int.add_mul_emod_self_left, Int.emod_eq_of_lt (a := m - 1 - y % m) (by omega) (by omega)]
theorem mod_both (m x : Int) (hm : 0 < m) (hx : x % m ≠ 0) : x % m + (-x) % m = m := by
  have h0 := Int.emod_add_mul_ediv x m
  have h1 := Int.emod_nonneg x (show m ≠ 0 by omega)
  have h2 := Int.emod_lt_of_pos x hm
  have e : -x = (m - x % m) + m * (-(x / m) - 1) := by
    rw [Int.mul_sub, Int.mul_neg, Int.mul_one]
    generalize m * (x / m) = k at h0 ⊢
    omega
  rw [e, Int.add_mul_emod_self_left, Int.emod_eq_of_lt (a := m - x % m) (by omega) (by omega)]; omega
theorem odd_mod (n c : Int) : (2 * n - 1 - 2 * c) % (2 * n) ≠ 0 := fun h => by
  have h0 := Int.emod_add_mul_ediv (2 * n - 1 - 2 * c) (2 * n)
  rw [h, Int.mul_assoc] at h0
  generalize n * ((2 * n - 1 - 2 * c) / (2 * n)) = k at h0
  omega
theorem upB_rungs (S : List Int × List Int) : (upB S).1 = S.1 := by unfold upB; split <;> rfl
end
end Af
namespace Af
open PySem PySem.Spec PyProof.Rows L2
theorem bSum : bootBuiltins "sum" = some (.builtin "sum") := by decide +kernel
def rSumK (K : PySem.W.Frag) : List V → Hp → VK → Prop := fun vs H Q => ∃ (a : Addr) (ns : List Int), vs = [V.ref a] ∧ SqL K H a (ns.map V.int) ∧ Q (.int ns.sum) H
theorem cr_sumK {X : Cx} {K : PySem.W.Frag} (hc : X.calm = true) (hK : X.K = K := by rfl) : CallR X (.builtin "sum") (rSumK K) := by subst hK; exact cr_sum hc
theorem sum_range (f : Nat → Int) : ∀ k, ((List.range k).map f).sum = sumN f k
  | 0 => rfl
  | k + 1 => by
    rw [List.range_succ, List.map_append, List.sum_append, sum_range f k]
    show _ + (f k + 0) = _
    rw [Int.add_zero]; rfl
theorem sum_take (f : Nat → Int) {k len : Nat} (h : k ≤ len) : (((List.range len).map f).take k).sum = sumN f k := by
  rw [← List.map_take, List.take_range, Nat.min_eq_left h, sum_range]
end Af
set_option maxHeartbeats 1000000
/-! ### enumerate of zip of two tuples -/
namespace Enz
open PySem RZ
open PySem.Builtin.SmallTypes (nextOf ownedTupleIsFree ownedTupleHandOut)
def ZRec (h : Heap) (z TI TO : Addr) (f0 : Value) (b1 : Bool) : Prop := h.get? z = some ⟨.type "zip", none, .fields #[f0, .bool b1, .bool false, .ref TI, .ref TO], #[]⟩
def ZAny (h : Heap) (z TI TO : Addr) : Prop := ∃ f0 b1, (f0 = Value.none ∨ ∃ n : Int, f0 = rawInt n) ∧ ZRec h z TI TO f0 b1
theorem same0 (z : Addr) (h : Heap) : Heap.SameBut z h h := ⟨rfl, fun _ _ => rfl⟩
section
variable {prog : Program} {w : World} {A : Around} {E : Value → Shared → Prop} {s : Shared} {z TI TO ia ib la lb : Addr} {ka kb : Nat} {xs ys : Array Value} {x y p q f0 : Value} {b1 : Bool}
theorem alive_any {a : Addr} {Q : Option Obj → Shared → Prop} (h : Q (s.heap.get? a) s) : wpAny (model prog w) A (loadIfAlive a) Q E s := by
  intro Γ pp hΓ
  show Sem.wp _ _ (.loadIfAlive a .pure) _ _ _ _
  rw [Sem.wp_loadIfAlive]
  exact wpAny_pure h Γ pp hΓ
theorem zz_free {Q : Bool → Shared → Prop} (hz : ZRec s.heap z TI TO f0 b1) (hf : f0 = Value.none ∨ ∃ n : Int, f0 = rawInt n) (q1 : Q true s) (q2 : ∀ h', ZRec h' z TI TO f0 true → Heap.SameBut z s.heap h' → Q false { s with heap := h' }) :
    wpAny (model prog w) A (ownedTupleIsFree (.ref z)) Q E s := by
  unfold ownedTupleIsFree
  rcases hf with e0 | ⟨n, e0⟩
  · subst e0
    exact wpAny_bind (wpAny_field hz rfl (x := Value.none) rfl (wpAny_pure q1))
  · subst e0
    refine wpAny_bind (wpAny_field hz rfl (x := rawInt n) rfl ?_)
    refine wpAny_bind (alive_any ?_)
    cases e : s.heap.get? n.toNat with
    | none => exact wpAny_pure q1
    | some o =>
      show wpAny _ _ (field (.ref z) 1 >>= _) _ _ _
      refine wpAny_bind (wpAny_field hz rfl (x := Value.bool b1) rfl ?_)
      cases b1 with
      | true => exact wpAny_pure (q2 s.heap hz (same0 _ _))
      | false =>
        show wpAny _ _ (setField (.ref z) 1 (.bool true) >>= _) _ _ _
        exact wpAny_bind (wpAny_setField_rec hz (by simp) fun h' hz' sb => wpAny_pure (q2 h' hz' sb))
theorem zz_item {Q : Value → Shared → Prop} (D : ZipApart z TI TO ia ib la lb) (hz : ZAny s.heap z TI TO) (hI : IsPair s.heap TI (.ref ia) (.ref ib)) (hT : IsPair s.heap TO p q)
    (ha : s.heap.IsTupleIter ia la ka) (hb : s.heap.IsTupleIter ib lb kb) (hla : s.heap.IsTuple la xs) (hlb : s.heap.IsTuple lb ys) (hx : xs[ka]? = some x) (hy : ys[kb]? = some y)
    (hQ : ∀ h', ZAny h' z TI TO → (∃ p q, IsPair h' TO p q) → h'.IsTupleIter ia la (ka + 1) → h'.IsTupleIter ib lb (kb + 1) → IsPair h' s.heap.objs.size x y → h'.objs.size = s.heap.objs.size + 1 →
      (∀ c o, c ≠ z → c ≠ TO → c ≠ ia → c ≠ ib → s.heap.get? c = some o → h'.get? c = some o) → Q (.ref s.heap.objs.size) { s with heap := h' }) :
    wpAny (model prog w) A (Builtin.«zip.__next__» ⟨[.ref z], []⟩) (fun fin s' => ∃ v, fin = .done (.ret v) ∧ Q v s') E s := by
  obtain ⟨f0, b1, hf, hz⟩ := hz
  show wpAny _ _ (field (.ref z) 2 >>= _) _ _ _
  refine wpAny_bind (wpAny_field hz rfl (x := Value.bool false) rfl ?_)
  show wpAny _ _ (field (.ref z) 3 >>= _) _ _ _
  refine wpAny_bind (wpAny_field hz rfl (x := Value.ref TI) rfl (wpAny_bind (wpAny_seqItems hI rfl ?_)))
  show wpAny _ _ (ownedTupleIsFree (.ref z) >>= _) _ _ _
  refine wpAny_bind (zz_free hz hf ?_ fun hB zB sB => ?_)
  · simp only [if_true]
    refine wpAny_bind (wpAny_rule (wpAny_bind (wpAny_field hz rfl (x := Value.ref TO) rfl ?_)))
    refine wpAny_bind (wpAny_setField_rec hz (by simp) fun hB zB sB => wpAny_bind ?_)
    have zB' : ZRec hB z TI TO .ellipsis b1 := zB
    simp only [List.zipIdx_cons, List.zipIdx_nil, List.forIn_cons, List.forIn_nil]
    refine wpAny_bind (wpAny_bind (wpAny_onRaise ?_))
    show wpAny _ _ (nextOf (.ref ia) >>= _) _ _ _
    refine wpAny_bind (nextOf_tuple_item (ha.extBut sB.extBut D.i1z) (hla.extBut sB.extBut D.l1z) hx fun hC aC sC => wpAny_pure ?_)
    have tC : IsPair hC TO p q := sC.extBut _ _ D.TOi1 (sB.extBut _ _ D.TOz hT)
    refine wpAny_bind (wpAny_seqItems tC rfl (wpAny_bind (wpAny_updateSeq_pair tC fun hD tD sD => ?_)))
    have tD' : IsPair hD TO x q := tD
    refine wpAny_bind (wpAny_letGo (wpAny_pure (wpAny_bind (wpAny_bind (wpAny_onRaise ?_)))))
    show wpAny _ _ (nextOf (.ref ib) >>= _) _ _ _
    refine wpAny_bind (nextOf_tuple_item (((hb.extBut sB.extBut D.i2z).extBut sC.extBut D.i12.symm).extBut sD.extBut D.TOi2.symm) (((hlb.extBut sB.extBut D.l2z).extBut sC.extBut D.l2i1).extBut sD.extBut D.l2TO) hy fun hE bE sE => wpAny_pure ?_)
    have tE : IsPair hE TO x q := sE.extBut _ _ D.TOi2 tD'
    refine wpAny_bind (wpAny_seqItems tE rfl (wpAny_bind (wpAny_updateSeq_pair tE fun hF tF sF => ?_)))
    have tF' : IsPair hF TO x y := tF
    refine wpAny_bind (wpAny_letGo (wpAny_pure (wpAny_pure ?_)))
    refine wpAny_bind (wpAny_seqItems tF' rfl (wpAny_bind (wpAny_newTuple ?_)))
    have ez : hF.objs.size = s.heap.objs.size := by rw [sF.1, sE.1, sD.1, sC.1, sB.1]
    have zF : ZRec hF z TI TO .ellipsis b1 := sF.extBut _ _ D.TOz.symm (sE.extBut _ _ D.i2z.symm (sD.extBut _ _ D.TOz.symm (sC.extBut _ _ D.i1z.symm zB')))
    have kF : ∀ c o, c ≠ z → c ≠ TO → c ≠ ia → c ≠ ib → s.heap.get? c = some o → hF.get? c = some o := fun c o c1 c2 c3 c4 e => sF.extBut _ _ c2 (sE.extBut _ _ c4 (sD.extBut _ _ c2 (sC.extBut _ _ c3 (sB.extBut _ _ c1 e))))
    have aF : hF.IsTupleIter ia la (ka + 1) := ((aC.extBut sD.extBut D.TOi1.symm).extBut sE.extBut D.i12).extBut sF.extBut D.TOi1.symm
    have bF : hF.IsTupleIter ib lb (kb + 1) := bE.extBut sF.extBut D.TOi2.symm
    have zlt : z < hF.objs.size := Heap.lt_size zF
    show wpAny _ _ (ownedTupleHandOut (.ref z) (.ref hF.objs.size) >>= _) _ _ _
    refine wpAny_bind ?_
    unfold ownedTupleHandOut
    have zG : ZRec (hF.push { cls := .type "tuple", data := .seq #[x, y] }) z TI TO .ellipsis b1 := Heap.get?_push_of_some _ zF
    refine wpAny_bind (wpAny_setField_rec zG (by simp) fun hH zH sH => wpAny_setField_rec zH (by simp) fun hK zK sK => ?_)
    have zK' : ZRec hK z TI TO (rawInt hF.objs.size) false := zK
    have up : ∀ c o, c ≠ z → hF.get? c = some o → hK.get? c = some o := fun c o c1 e => sK.extBut _ _ c1 (sH.extBut _ _ c1 (Heap.get?_push_of_some _ e))
    have tK : IsPair hK hF.objs.size x y := sK.extBut _ _ (Nat.ne_of_gt zlt) (sH.extBut _ _ (Nat.ne_of_gt zlt) (Heap.get?_push_size _ rfl))
    have eK : hK.objs.size = hF.objs.size + 1 := by rw [sK.1, sH.1, Heap.size_push]
    rw [ez] at tK eK
    refine wpAny_pure ⟨_, rfl, ?_⟩
    show Q (.ref hF.objs.size) _
    rw [ez]
    exact hQ hK ⟨_, _, .inr ⟨_, rfl⟩, zK'⟩ ⟨x, y, up _ _ D.TOz tF'⟩ (aF.at fun o e => up _ o D.i1z e) (bF.at fun o e => up _ o D.i2z e) tK eK fun c o c1 c2 c3 c4 e => up c o c1 (kF c o c1 c2 c3 c4 e)
  · simp only [Bool.false_eq_true, if_false]
    rw [← Array.forIn_toList]
    refine wpAny_bind ?_
    simp only [List.forIn_cons, List.forIn_nil]
    refine wpAny_bind (wpAny_bind (wpAny_holding ?_))
    show wpAny _ _ (nextOf (.ref ia) >>= _) _ _ _
    refine wpAny_bind (nextOf_tuple_item (ha.extBut sB.extBut D.i1z) (hla.extBut sB.extBut D.l1z) hx fun hC aC sC => wpAny_pure (wpAny_pure ?_))
    refine wpAny_bind (wpAny_bind (wpAny_holding ?_))
    show wpAny _ _ (nextOf (.ref ib) >>= _) _ _ _
    refine wpAny_bind (nextOf_tuple_item ((hb.extBut sB.extBut D.i2z).extBut sC.extBut D.i12.symm) ((hlb.extBut sB.extBut D.l2z).extBut sC.extBut D.l2i1) hy fun hE bE sE => wpAny_pure (wpAny_pure (wpAny_pure ?_)))
    have ez : hE.objs.size = s.heap.objs.size := by rw [sE.1, sC.1, sB.1]
    refine wpAny_bind (wpAny_newTuple (hsz := by show 2 ≤ sizeLine; decide) (wpAny_pure ⟨_, rfl, ?_⟩))
    show Q (.ref hE.objs.size) _
    rw [ez]
    have up : ∀ c o, hE.get? c = some o → (hE.push { cls := .type "tuple", data := .seq #[x, y] }).get? c = some o := fun c o e => Heap.get?_push_of_some _ e
    refine hQ _ ⟨f0, true, hf, up _ _ (sE.extBut _ _ D.i2z.symm (sC.extBut _ _ D.i1z.symm zB))⟩ ⟨p, q, up _ _ (sE.extBut _ _ D.TOi2 (sC.extBut _ _ D.TOi1 (sB.extBut _ _ D.TOz hT)))⟩ ((aC.extBut sE.extBut D.i12).at fun o e => up _ o e) (bE.at fun o e => up _ o e) ?_ ?_ fun c o c1 c2 c3 c4 e => up c o (sE.extBut _ _ c4 (sC.extBut _ _ c3 (sB.extBut _ _ c1 e)))
    · rw [← ez]; exact Heap.get?_push_size _ rfl
    · show (hE.push _).objs.size = _
      rw [Heap.size_push, ez]
theorem zz_end {Q : Fin → Shared → Prop} (hh : A.handled = none) (D : ZipApart z TI TO ia ib la lb) (hz : ZAny s.heap z TI TO) (hI : IsPair s.heap TI (.ref ia) (.ref ib)) (ha : s.heap.IsTupleIter ia la ka) (hla : s.heap.IsTuple la xs) (hx : xs[ka]? = none)
    (hE : ∀ h' e, (∀ c o, c ≠ z → c ≠ ia → s.heap.get? c = some o → h'.get? c = some o) → (∃ o, h'.get? e = some o ∧ o.cls = .type "StopIteration") → E (.ref e) { s with heap := h' }) : wpAny (model prog w) A (Builtin.«zip.__next__» ⟨[.ref z], []⟩) Q E s := by
  obtain ⟨f0, b1, hf, hz⟩ := hz
  show wpAny _ _ (field (.ref z) 2 >>= _) _ _ _
  refine wpAny_bind (wpAny_field hz rfl (x := Value.bool false) rfl ?_)
  show wpAny _ _ (field (.ref z) 3 >>= _) _ _ _
  refine wpAny_bind (wpAny_field hz rfl (x := Value.ref TI) rfl (wpAny_bind (wpAny_seqItems hI rfl ?_)))
  show wpAny _ _ (ownedTupleIsFree (.ref z) >>= _) _ _ _
  refine wpAny_bind (zz_free hz hf ?_ fun hB zB sB => ?_)
  · simp only [if_true]
    refine wpAny_bind (wpAny_rule (wpAny_bind (wpAny_field hz rfl (x := Value.ref TO) rfl ?_)))
    refine wpAny_bind (wpAny_setField_rec hz (by simp) fun hB zB sB => wpAny_bind ?_)
    have zB' : ZRec hB z TI TO .ellipsis b1 := zB
    simp only [List.zipIdx_cons, List.zipIdx_nil, List.forIn_cons, List.forIn_nil]
    refine wpAny_bind (wpAny_bind (wpAny_onRaise ?_))
    show wpAny _ _ (nextOf (.ref ia) >>= _) _ _ _
    refine wpAny_bind (nextOf_tuple_end hh (ha.extBut sB.extBut D.i1z) (hla.extBut sB.extBut D.l1z) hx fun hC e sC he => ?_)
    obtain ⟨oe, g1, g2⟩ := he
    have zC : ZRec hC z TI TO .ellipsis b1 := sC _ _ D.i1z.symm zB'
    have ne : e ≠ z := fun c => by subst c; rw [show hC.get? e = _ from zC] at g1; cases g1; simp at g2
    exact wpAny_setField_rec zC (by simp) fun hD _ sD => hE hD e (fun c o c1 c3 v => sD.extBut _ _ c1 (sC _ _ c3 (sB.extBut _ _ c1 v))) ⟨oe, sD.extBut _ _ ne g1, g2⟩
  · simp only [Bool.false_eq_true, if_false]
    rw [← Array.forIn_toList]
    refine wpAny_bind ?_
    simp only [List.forIn_cons, List.forIn_nil]
    refine wpAny_bind (wpAny_bind (wpAny_holding ?_))
    show wpAny _ _ (nextOf (.ref ia) >>= _) _ _ _
    exact wpAny_bind (nextOf_tuple_end hh (ha.extBut sB.extBut D.i1z) (hla.extBut sB.extBut D.l1z) hx fun hC e sC he => hE hC e (fun c o c1 c3 v => sC _ _ c3 (sB.extBut _ _ c1 v)) he)
theorem ztype (hz : ZAny s.heap z TI TO) : s.TypeIs (.ref z) "zip" := by
  obtain ⟨f0, b1, _, hz⟩ := hz
  exact ⟨_, hz, rfl⟩
theorem nz_item {Q : Value → Shared → Prop} (D : ZipApart z TI TO ia ib la lb) (hz : ZAny s.heap z TI TO) (hI : IsPair s.heap TI (.ref ia) (.ref ib)) (hT : IsPair s.heap TO p q)
    (ha : s.heap.IsTupleIter ia la ka) (hb : s.heap.IsTupleIter ib lb kb) (hla : s.heap.IsTuple la xs) (hlb : s.heap.IsTuple lb ys) (hx : xs[ka]? = some x) (hy : ys[kb]? = some y)
    (hQ : ∀ h', ZAny h' z TI TO → (∃ p q, IsPair h' TO p q) → h'.IsTupleIter ia la (ka + 1) → h'.IsTupleIter ib lb (kb + 1) → IsPair h' s.heap.objs.size x y → h'.objs.size = s.heap.objs.size + 1 →
      (∀ c o, c ≠ z → c ≠ TO → c ≠ ia → c ≠ ib → s.heap.get? c = some o → h'.get? c = some o) → Q (.ref s.heap.objs.size) { s with heap := h' }) : wpAny (model prog w) A (nextOf (.ref z)) Q E s := by
  have ty := ztype hz
  unfold nextOf
  exact wpAny_bind (wpAny_callSpecial?_slot (name := Str.ofString "__next__") ty F.slot_zip_next (wpAny_call_entry F.slot_zip_next ty F.entry_zip_next (zz_item D hz hI hT ha hb hla hlb hx hy fun h' a1 a2 a3 a4 a5 a6 a7 => wpAny_pure (hQ h' a1 a2 a3 a4 a5 a6 a7)) (F.args_zip_next_1 _)))
theorem nz_end {Q : Value → Shared → Prop} (hh : A.handled = none) (D : ZipApart z TI TO ia ib la lb) (hz : ZAny s.heap z TI TO) (hI : IsPair s.heap TI (.ref ia) (.ref ib)) (ha : s.heap.IsTupleIter ia la ka) (hla : s.heap.IsTuple la xs) (hx : xs[ka]? = none)
    (hE : ∀ h' e, (∀ c o, c ≠ z → c ≠ ia → s.heap.get? c = some o → h'.get? c = some o) → (∃ o, h'.get? e = some o ∧ o.cls = .type "StopIteration") → E (.ref e) { s with heap := h' }) : wpAny (model prog w) A (nextOf (.ref z)) Q E s := by
  have ty := ztype hz
  unfold nextOf
  exact wpAny_bind (wpAny_callSpecial?_slot (name := Str.ofString "__next__") ty F.slot_zip_next (wpAny_call_entry F.slot_zip_next ty F.entry_zip_next (zz_end hh D hz hI ha hla hx hE) (F.args_zip_next_1 _)))
/-- the next pair of enumerate(zip) -/
theorem ez_item {e : Addr} {i : Nat} {old : Value} {Q : Option Value → Shared → Prop} (D : ZipApart z TI TO ia ib la lb) (he : IsEnum s.heap e z i old) (hz : ZAny s.heap z TI TO) (hI : IsPair s.heap TI (.ref ia) (.ref ib)) (hT : IsPair s.heap TO p q)
    (ha : s.heap.IsTupleIter ia la ka) (hb : s.heap.IsTupleIter ib lb kb) (hla : s.heap.IsTuple la xs) (hlb : s.heap.IsTuple lb ys) (hx : xs[ka]? = some x) (hy : ys[kb]? = some y) (n1 : e ≠ z) (n2 : e ≠ TO) (n3 : e ≠ ia) (n4 : e ≠ ib) (n5 : e ≠ TI)
    (hQ : ∀ h', IsEnumOut h' e z ((i : Int) + 1) (.ref s.heap.objs.size) (s.heap.objs.size + 1) → ZAny h' z TI TO → IsPair h' TI (.ref ia) (.ref ib) → (∃ p q, IsPair h' TO p q) → h'.IsTupleIter ia la (ka + 1) → h'.IsTupleIter ib lb (kb + 1) →
      IsPair h' s.heap.objs.size x y → IsPair h' (s.heap.objs.size + 1) (.int i s.toks) (.ref s.heap.objs.size) →
      (∀ c o, c ≠ e → c ≠ z → c ≠ TO → c ≠ ia → c ≠ ib → s.heap.get? c = some o → h'.get? c = some o) → Q (some (.ref (s.heap.objs.size + 1))) { s with heap := h', toks := s.toks + 1 }) :
    wpAny (model prog w) A (pyNext (.ref e)) Q E s := by
  have ty : s.TypeIs (.ref e) "enumerate" := ⟨_, he, rfl⟩
  unfold pyNext
  refine wpAny_bind (wpAny_attempt (wpAny_callSpecial?_slot (name := Str.ofString "__next__") ty F.slot_enumerate_next (wpAny_call_entry F.slot_enumerate_next ty F.entry_enumerate_next ?_ (F.args_enumerate_next_1 _))))
  obtain ⟨hp, g, d, tk, os⟩ := s
  show wpAny _ _ (field (.ref e) 2 >>= _) _ _ _
  refine wpAny_bind (wpAny_field he rfl (x := Value.ref z) rfl (wpAny_bind (nz_item D hz hI hT ha hb hla hlb hx hy fun hB zB tB aB bB pB eB kB => ?_)))
  have kB' : ∀ c o, c ≠ z → c ≠ TO → c ≠ ia → c ≠ ib → hp.get? c = some o → hB.get? c = some o := kB
  have eB' : hB.objs.size = hp.objs.size + 1 := eB
  have heB : IsEnum hB e z i old := kB' e _ n1 n2 n3 n4 he
  show wpAny _ _ (field (.ref e) 3 >>= _) _ _ ⟨hB, g, d, tk, os⟩
  refine wpAny_bind (wpAny_field heB rfl (x := rawInt i) rfl ?_)
  show wpAny _ _ (field (.ref e) 4 >>= _) _ _ ⟨hB, g, d, tk, os⟩
  refine wpAny_bind (wpAny_field heB rfl (x := Value.none) rfl ?_)
  show wpAny _ _ (mkInt i >>= _) _ _ ⟨hB, g, d, tk, os⟩
  refine wpAny_bind (wpAny_mkInt ?_)
  show wpAny _ _ (setField (.ref e) 3 (rawInt ((i : Int) + 1)) >>= _) _ _ ⟨hB, g, d, tk + 1, os⟩
  refine wpAny_bind (wpAny_setField_rec heB (by simp) fun hC heC sC => ?_)
  have heC' : IsEnum hC e z ((i : Int) + 1) old := heC
  show wpAny _ _ (setField (.ref e) 4 .none >>= _) _ _ ⟨hC, g, d, tk + 1, os⟩
  refine wpAny_bind (wpAny_setField_rec heC' (by simp) fun hD heD sD => ?_)
  have heD' : IsEnum hD e z ((i : Int) + 1) old := heD
  have sC' : Heap.SameBut e hB hC := sC
  have sD' : Heap.SameBut e hC hD := sD
  have ezD : hD.objs.size = hp.objs.size + 1 := by rw [sD'.1, sC'.1, eB']
  show wpAny _ _ (newTuple [.int i tk, .ref hp.objs.size] >>= _) _ _ ⟨hD, g, d, tk + 1, os⟩
  refine wpAny_bind (wpAny_newTuple ?_)
  have kD : ∀ c o, c ≠ e → hB.get? c = some o → hD.get? c = some o := fun c o c1 v => sD'.extBut c o c1 (sC'.extBut c o c1 v)
  have heE : IsEnum (hD.push { cls := .type "tuple", data := .seq #[.int i tk, .ref hp.objs.size] }) e z ((i : Int) + 1) old := Heap.get?_push_of_some _ heD'
  have pE : (hD.push { cls := .type "tuple", data := .seq #[.int i tk, .ref hp.objs.size] }).get? (hp.objs.size + 1) = some { cls := .type "tuple", data := .seq #[.int i tk, .ref hp.objs.size] } := by rw [← ezD]; exact Heap.get?_push_size _ rfl
  have kE : ∀ c o, c ≠ e → hB.get? c = some o → (hD.push { cls := .type "tuple", data := .seq #[.int i tk, .ref hp.objs.size] }).get? c = some o := fun c o c1 v => Heap.get?_push_of_some _ (kD c o c1 v)
  rw [ezD]
  generalize hD.push { cls := .type "tuple", data := .seq #[.int i tk, .ref hp.objs.size] } = hE at heE pE kE
  have elt : e < hp.objs.size := Heap.lt_size he
  show wpAny _ _ (ownedTupleIsFree (.ref e) >>= _) _ _ ⟨hE, g, d, tk + 1, os⟩
  refine wpAny_bind ?_
  unfold ownedTupleIsFree
  refine wpAny_bind (wpAny_field heE rfl (x := Value.none) rfl (wpAny_pure ?_))
  simp only [if_true]
  refine wpAny_bind (wpAny_rule (wpAny_bind (wpAny_field heE rfl (x := old) rfl ?_)))
  refine wpAny_bind (wpAny_setField_rec heE (by simp) fun hF heF sF => ?_)
  have heF' : IsEnum hF e z ((i : Int) + 1) (.ref hp.objs.size) := heF
  show wpAny _ _ (ownedTupleHandOut (.ref e) (.ref (hp.objs.size + 1)) >>= _) _ _ ⟨hF, g, d, tk + 1, os⟩
  refine wpAny_bind ?_
  unfold ownedTupleHandOut
  refine wpAny_bind (wpAny_setField_rec heF' (by simp) fun hG heG sG => wpAny_setField_rec heG (by simp) fun hH heH sH => ?_)
  have heH' : IsEnumOut hH e z ((i : Int) + 1) (.ref hp.objs.size) (hp.objs.size + 1) := heH
  have sF' : Heap.SameBut e hE hF := sF
  have sG' : Heap.SameBut e hF hG := sG
  have sH' : Heap.SameBut e hG hH := sH
  have kH : ∀ c o, c ≠ e → hE.get? c = some o → hH.get? c = some o := fun c o c1 v => sH'.extBut c o c1 (sG'.extBut c o c1 (sF'.extBut c o c1 v))
  have kBH : ∀ c o, c ≠ e → hB.get? c = some o → hH.get? c = some o := fun c o c1 v => kH c o c1 (kE c o c1 v)
  refine wpAny_bind (wpAny_letGo (wpAny_pure ⟨_, rfl, wpAny_pure ?_⟩))
  obtain ⟨g0, b1, z1, z2⟩ := zB
  obtain ⟨p', q', t2⟩ := tB
  exact hQ hH heH' ⟨g0, b1, z1, kBH _ _ n1.symm z2⟩ (kBH _ _ n5.symm (kB' _ _ D.TIz D.TITO D.TIi1 D.TIi2 hI)) ⟨p', q', kBH _ _ n2.symm t2⟩ (aB.at fun o v => kBH _ o n3.symm v) (bB.at fun o v => kBH _ o n4.symm v)
    (kBH _ _ (Nat.ne_of_gt elt) pB) (kH _ _ (Nat.ne_of_gt (Nat.lt_succ_of_lt elt)) pE) fun c o c1 c2 c3 c4 c5 v => kBH c o c1 (kB' c o c2 c3 c4 c5 v)
theorem ez_end {e : Addr} {i : Nat} {old : Value} {Q : Option Value → Shared → Prop} (hh : A.handled = none) (D : ZipApart z TI TO ia ib la lb) (he : IsEnum s.heap e z i old) (hz : ZAny s.heap z TI TO) (hI : IsPair s.heap TI (.ref ia) (.ref ib)) (ha : s.heap.IsTupleIter ia la ka) (hla : s.heap.IsTuple la xs) (hx : xs[ka]? = none)
    (hQ : ∀ h', (∀ c o, c ≠ z → c ≠ ia → s.heap.get? c = some o → h'.get? c = some o) → Q none { s with heap := h' }) : wpAny (model prog w) A (pyNext (.ref e)) Q E s := by
  have ty : s.TypeIs (.ref e) "enumerate" := ⟨_, he, rfl⟩
  unfold pyNext
  refine wpAny_bind (wpAny_attempt (wpAny_callSpecial?_slot (name := Str.ofString "__next__") ty F.slot_enumerate_next (wpAny_call_entry F.slot_enumerate_next ty F.entry_enumerate_next ?_ (F.args_enumerate_next_1 _))))
  show wpAny _ _ (field (.ref e) 2 >>= _) _ _ _
  refine wpAny_bind (wpAny_field he rfl (x := Value.ref z) rfl (wpAny_bind (nz_end hh D hz hI ha hla hx fun h' v k hv => ?_)))
  obtain ⟨o, g1, g2⟩ := hv
  exact wpAny_bind (wpAny_isInstance (T := "StopIteration") (b := true) ⟨o, g1, g2⟩ isSubtype_stop (wpAny_pure (hQ _ k)))
end
end Enz
namespace Enz
open PySem PySem.Spec PyProof.Rows L2 RZ
set_option maxHeartbeats 2000000 in
theorem meets_enz (z TI TO : Addr) : Meets (Builtin.«enumerate.__new__» ⟨[.type "enumerate", .ref z], []⟩) (fun _ R s => IsZip s.heap z TI TO .none ∧
      R (.ok (.ret (.ref s.heap.objs.size))) { s with heap := s.heap.push { cls := .type "enumerate", data := .fields #[.none, .bool false, .ref z, rawInt 0, .none, .none] } }) :=
  .of_wp fun prog w A R s h => by
    obtain ⟨hp, g, d, tk, os⟩ := s
    obtain ⟨hl, h⟩ := h
    have sbe := sub_enumerate
    have hZ : IsZip (Shared.heap ⟨hp, g, d, tk, os⟩) z TI TO .none := hl
    wp_walk using AutoSeq1.wpAny_loadPart' hl
    refine wpAny_stack_any fun st => wpAny_pure ?_
    split
    · rename_i c _ _ _ _ _
      cases (c == Value.type "enumerate")
      · wp_walk using AutoSeq1.wpAny_loadPart' hl, wpAny_pyIter_zip hZ
        exact ⟨_, rfl, h⟩
      · wp_walk using AutoSeq1.wpAny_loadPart' hl, wpAny_pyIter_zip hZ
        exact ⟨_, rfl, h⟩
    · wp_walk using AutoSeq1.wpAny_loadPart' hl, wpAny_pyIter_zip hZ
      exact ⟨_, rfl, h⟩
theorem call_enz {prog : Program} {w : World} {A : Around} {E : Value → Shared → Prop} {s : Shared} {z TI TO : Addr} {Q : Value → Shared → Prop} (hz : IsZip s.heap z TI TO .none)
    (h : ∀ h', IsEnum h' s.heap.objs.size z 0 .none → h'.objs.size = s.heap.objs.size + 1 → (∀ b o, s.heap.get? b = some o → h'.get? b = some o) → Q (.ref s.heap.objs.size) { s with heap := h' }) :
    wpAny (model prog w) A (call (.type "enumerate") [.ref z]) Q E s := by
  refine callType_new F.called_enumerate (by decide) (F.typeCall_enumerate_1 _) (F.newCall_enumerate_1 _) (fun obj => F.args_object_init_2 obj _) F.entry_enumerate_new (meets_enz z TI TO) ⟨hz, ?_⟩
  have he : IsEnum (s.heap.push { cls := .type "enumerate", data := .fields #[.none, .bool false, .ref z, rawInt 0, .none, .none] }) s.heap.objs.size z 0 .none := Heap.get?_push_size _ rfl
  show _ ∧ _
  exact ⟨⟨_, he, rfl⟩, h _ he (Heap.size_push ..) fun b o v => Heap.get?_push_of_some _ v⟩
/-- the pairs of two tuples, each in a new pair with its place -/
def ItEz (K : PySem.W.Frag) (a b : Addr) : It :=
  ⟨fun i H => ∃ (xs ys : List V) (x y : V), SqT K H a xs ∧ SqT K H b ys ∧ xs[i]? = some x ∧ ys[i]? = some y,
    fun i H v H' => ∃ T1 T2 x y, v = .ref T2 ∧ H T1 = none ∧ upd H T1 (.tup [x, y]) T2 = none ∧ H' = upd (upd H T1 (.tup [x, y])) T2 (.tup [.int (i : Nat), .ref T1]) ∧ (∀ xs, SqT K H a xs → xs[i]? = some x) ∧ ∀ ys, SqT K H b ys → ys[i]? = some y,
    fun i H => ∃ xs : List V, SqT K H a xs ∧ xs.length ≤ i⟩
theorem turn_enz {P : Program} {w : World} {K : PySem.W.Frag} {elts : List Expr} {kk : Nat} {tpos : Pos} {a b e z TI TO ia ib : Addr} (D : ZipApart z TI TO ia ib a b) (n1 : e ≠ z) (n2 : e ≠ TO) (n3 : e ≠ ia) (n4 : e ≠ ib) (n5 : e ≠ TI) :
    Turn P w K (.Tuple elts kk tpos) (ItEz K a b) [e, z, TI, TO, ia, ib] e (fun i h => (∃ old, IsEnum h e z ((i : Nat) : Int) old) ∧ ZAny h z TI TO ∧ IsPair h TI (.ref ia) (.ref ib) ∧ (∃ p q, IsPair h TO p q) ∧ h.IsTupleIter ia a i ∧ h.IsTupleIter ib b i) where
  mem := by simp
  obj := fun i h st c hc => by
    obtain ⟨⟨old, he⟩, ⟨f0, b1, _, hz⟩, hI, ⟨p, q, hT⟩, ⟨o1, e1, _, d1⟩, ⟨o2, e2, _, d2⟩⟩ := st
    have e' : c = e ∨ c = z ∨ c = TI ∨ c = TO ∨ c = ia ∨ c = ib := by simpa using hc
    rcases e' with g | g | g | g | g | g
    · rw [g]; exact ⟨_, he, fun v q => nomatch q⟩
    · rw [g]; exact ⟨_, hz, fun v q => nomatch q⟩
    · rw [g]; exact ⟨_, hI, fun v q => nomatch q⟩
    · rw [g]; exact ⟨_, hT, fun v q => nomatch q⟩
    · rw [g]; exact ⟨o1, e1, fun v q => by rw [d1] at q; cases q⟩
    · rw [g]; exact ⟨o2, e2, fun v q => by rw [d2] at q; cases q⟩
  keep := fun i h h' st k => by
    obtain ⟨⟨old, he⟩, ⟨f0, b1, hf, hz⟩, hI, ⟨p, q, hT⟩, ha, hb⟩ := st
    exact ⟨⟨old, k e (by simp) _ he⟩, ⟨f0, b1, hf, k z (by simp) _ hz⟩, k TI (by simp) _ hI, ⟨p, q, k TO (by simp) _ hT⟩, ha.at fun o v => k ia (by simp) o v, hb.at fun o v => k ib (by simp) o v⟩
  item := by
    intro X hP hw hK hc i pins s σ H E I hf st hg
    subst hP hw hK
    obtain ⟨⟨old, he⟩, hz, hI, ⟨p, q, hT⟩, ha, hb⟩ := st
    obtain ⟨xs, ys, x, y, hqx, hqy, hx, hy⟩ := hg
    obtain ⟨its, rv, pa, _⟩ := I.tuple hqx
    obtain ⟨its2, rv2, pb, _⟩ := I.tuple hqy
    obtain ⟨u, hu, ru⟩ := rv.get hx
    obtain ⟨u2, hu2, ru2⟩ := rv2.get hy
    have lts : ∀ c ∈ [e, z, TI, TO, ia, ib], c < s.heap.objs.size := fun c hcm => by
      obtain ⟨f0, b1, _, hz'⟩ := hz
      have e' : c = e ∨ c = z ∨ c = TI ∨ c = TO ∨ c = ia ∨ c = ib := by simpa using hcm
      rcases e' with g | g | g | g | g | g
      · rw [g]; exact Heap.lt_size he
      · rw [g]; exact Heap.lt_size hz'
      · rw [g]; exact Heap.lt_size hI
      · rw [g]; exact Heap.lt_size hT
      · rw [g]; obtain ⟨_, v, _⟩ := ha; exact Heap.lt_size v
      · rw [g]; obtain ⟨_, v, _⟩ := hb; exact Heap.lt_size v
    refine ez_item D he hz hI hT ha hb (show s.heap.IsTuple a its.toArray from pa) (show s.heap.IsTuple b its2.toArray from pb) (x := u) (y := u2) (by simpa using hu) (by simpa using hu2) n1 n2 n3 n4 n5 fun hB eB zB iB tB aB bB pB qB kB => ?_
    refine ⟨_, rfl, wpAny_letOwnedTupleGo_enum (s := { s with heap := hB, toks := s.toks + 1 }) eB fun hC eC sC => ?_⟩
    have sC' : Heap.SameBut e hB hC := sC
    have elt := lts e (by simp)
    have pC : IsPair hC s.heap.objs.size u u2 := (sC'.2 _ (Nat.ne_of_gt elt)).trans pB
    have qC : IsPair hC (s.heap.objs.size + 1) (.int i s.toks) (.ref s.heap.objs.size) := (sC'.2 _ (Nat.ne_of_gt (Nat.lt_succ_of_lt elt))).trans qB
    have I1 : Inv X pins σ (upd H s.heap.objs.size (.tup [x, y])) { s with heap := s.heap.push { cls := .type "tuple", data := .seq #[u, u2] } } :=
      I.laid (t' := s.toks) (fun c o v => Heap.get?_push_of_some _ v) (Nat.le_refl _) ⟨by show 2 ≤ sizeLine; decide, [u, u2], .cons ru (.cons ru2 .nil), ⟨_, Heap.get?_push_size _ rfl, rfl, _, rfl⟩⟩
    have nH : H s.heap.objs.size = none := I.hok.fresh (Nat.le_refl _)
    have sz1 : (s.heap.push { cls := .type "tuple", data := .seq #[u, u2] }).objs.size = s.heap.objs.size + 1 := Heap.size_push ..
    have nH2 : (upd H s.heap.objs.size (.tup [x, y])) (s.heap.objs.size + 1) = none := I1.hok.fresh (Nat.le_of_eq sz1)
    have hf1 : ∀ c ∈ [e, z, TI, TO, ia, ib], FpOk X pins (upd H s.heap.objs.size (.tup [x, y])) c := fun c hcm => by
      obtain ⟨g1, g2⟩ := hf c hcm
      exact ⟨by rw [upd_ne (Nat.ne_of_lt (lts c hcm))]; exact g1, g2⟩
    have I2 : Inv X pins σ (upd (upd H s.heap.objs.size (.tup [x, y])) (s.heap.objs.size + 1) (.tup [.int (i : Nat), .ref s.heap.objs.size])) { s with heap := hC, toks := s.toks + 1 } :=
      I1.turnedNew (t' := s.toks + 1) (ch := [e, z, TI, TO, ia, ib]) (fun c o hcm v => by
        have v' : (s.heap.push { cls := .type "tuple", data := .seq #[u, u2] }).get? c = some o := v
        rcases Heap.get?_push_cases v' with ⟨hcs, ho⟩ | v2
        · subst hcs; subst ho
          exact pC
        · exact (sC'.2 c (fun g => hcm (by simp [g]))).trans (kB c o (fun g => hcm (by simp [g])) (fun g => hcm (by simp [g])) (fun g => hcm (by simp [g])) (fun g => hcm (by simp [g])) (fun g => hcm (by simp [g])) v2)) hf1 (Nat.le_of_eq sz1)
        ⟨by show 2 ≤ sizeLine; decide, [.int i s.toks, .ref s.heap.objs.size], .cons ⟨_, rfl⟩ (.cons rfl .nil), ⟨_, qC, rfl, _, rfl⟩⟩
    obtain ⟨f0, b1, hz1, hz2⟩ := zB
    obtain ⟨p', q', t'⟩ := tB
    refine ⟨.ref (s.heap.objs.size + 1), _, I2, rfl, ⟨_, _, x, y, rfl, nH, nH2, rfl, fun l hl => by rw [I.tuple_inj hl hqx]; exact hx, fun l hl => by rw [I.tuple_inj hl hqy]; exact hy⟩, ⟨⟨_, by
      have e1 : ((i + 1 : Nat) : Int) = (i : Int) + 1 := by omega
      rw [e1]; exact eC⟩, ⟨f0, b1, hz1, (sC'.2 _ n1.symm).trans hz2⟩, (sC'.2 _ n5.symm).trans iB, ⟨p', q', (sC'.2 _ n2.symm).trans t'⟩, aB.at fun o v => (sC'.2 _ n3.symm).trans v, bB.at fun o v => (sC'.2 _ n4.symm).trans v⟩, fun c hcm => ?_⟩
    rw [upd_ne (Nat.ne_of_lt (Nat.lt_succ_of_lt (lts c hcm))), upd_ne (Nat.ne_of_lt (lts c hcm))]
    exact (hf c hcm).1
  done := by
    intro X hP hw hK hc i pins s σ H E I hf st hg
    subst hP hw hK
    obtain ⟨⟨old, he⟩, hz, hI, ⟨p, q, hT⟩, ha, hb⟩ := st
    obtain ⟨xs, hqx, hend⟩ := hg
    obtain ⟨its, rv, pa, _⟩ := I.tuple hqx
    have l1 := rv.length
    exact ez_end (I.ok.hd hc) D he hz hI ha (show s.heap.IsTuple a its.toArray from pa) (by simp; omega) fun h' k => ⟨rfl, I.turnedL (t' := s.toks) (ch := [e, z, TI, TO, ia, ib]) (fun c o hcm v => k c o (fun g => hcm (by simp [g])) (fun g => hcm (by simp [g])) v) hf⟩
  self := fun A i s Q E st h => let ⟨⟨_, he⟩, _⟩ := st; wpAny_pyIter_enum he h
def iEnz (K : PySem.W.Frag) (ta : TA) : TI := fun σ H R => ta σ H fun vs H1 => ∃ a b xs ys, vs = [.ref a, .ref b] ∧ SqT K H1 a xs ∧ SqT K H1 b ys ∧ R (ItEz K a b) H1
theorem pi_enz {X : Cx} {e e2 : Expr} {ta : TA} {p pos p2 pos2 tpos : Pos} {elts : List Expr} {kk : Nat} (hg : Gl X "enumerate") (hm : X.mg "enumerate" = none) (hgz : Gl X "zip") (hmz : X.mg "zip" = none) (ha : PA X [e, e2] ta)
    (hs : starEach [e, e2] X.env = (false, eval e X.env) :: starEach [e2] X.env := by rfl) (hpl : (backTo pos2 (starEach [e2] X.env)).any (·.1) = false := by rfl)
    (hs1 : starEach [.Call (.Name "zip" p2) [e, e2] [] pos2] X.env = (false, eval (.Call (.Name "zip" p2) [e, e2] [] pos2) X.env) :: starEach [] X.env := by rfl) :
    PI X (.Tuple elts kk tpos) (.Call (.Name "enumerate" p) [.Call (.Name "zip" p2) [e, e2] [] pos2] [] pos) (iEnz X.K ta) := by
  refine ⟨fun pins s σ H R I h => Call_ (ld_blt I hg hm boot_enumerate (PyProof.Rows.callWith_type1 (args_cons ?_ hs1) hs1 rfl))⟩
  refine Call_ (ld_blt I hgz hmz PyProof.Rows.boot_zip (PyProof.Rows.callWith_type1 (thn (ha.run pos2 pins s σ H _ I h) fun us s1 ⟨vs, H1, I1, r1, q1⟩ => ?_) hs hpl))
  obtain ⟨a, b, xs, ys, rfl, hqx, hqy, q⟩ := q1
  cases r1 with
  | cons r rr =>
    cases rr with
    | cons r' rr =>
      cases rr
      cases r
      cases r'
      obtain ⟨its, rv, p1, _⟩ := I1.tuple hqx
      obtain ⟨its2, rv2, pp, _⟩ := I1.tuple hqy
      obtain ⟨o1, ho1, _⟩ := id p1
      obtain ⟨o2, ho2, _⟩ := id pp
      refine call_zipT (show s1.heap.IsTuple a its.toArray from p1) (show s1.heap.IsTuple b its2.toArray from pp) fun hB zB iB tB aB bB eB kB => args_nil ?_
      refine call_enz zB fun hC eC nC kC => wpAny_pyIter_enum eC ?_
      have kBC : ∀ c o, s1.heap.get? c = some o → hC.get? c = some o := fun c o v => kC c o (kB c o v)
      have I2 : Inv X pins σ H1 { s1 with heap := hC } := I1.kept (t' := s1.toks) kBC
      have eB' : hB.objs.size = s1.heap.objs.size + 5 := eB
      have eC' : IsEnum hC (s1.heap.objs.size + 5) (s1.heap.objs.size + 4) 0 .none := by rw [← eB']; exact eC
      rw [show (Shared.heap { s1 with heap := hB }).objs.size = s1.heap.objs.size + 5 from eB']
      have ne5 : ∀ k : Nat, k < 5 → s1.heap.objs.size + 5 ≠ s1.heap.objs.size + k := fun k hk h => by
        have h' : (s1.heap.objs.size + 5 : Nat) = s1.heap.objs.size + k := h
        omega
      refine ⟨s1.heap.objs.size + 5, [s1.heap.objs.size + 5, s1.heap.objs.size + 4, s1.heap.objs.size + 2, s1.heap.objs.size + 3, s1.heap.objs.size, s1.heap.objs.size + 1], _, _, H1, rfl, I2,
        turn_enz (PySem.W.ktu_apart s1.heap.objs.size a b (Heap.lt_size ho1) (Heap.lt_size ho2)) (ne5 4 (by decide)) (ne5 3 (by decide)) (ne5 0 (by decide)) (ne5 1 (by decide)) (ne5 2 (by decide)), ⟨⟨.none, eC'⟩, ⟨_, _, .inl rfl, kC _ _ zB⟩, kC _ _ iB, ⟨_, _, kC _ _ tB⟩, aB.at fun o v => kC _ o v, bB.at fun o v => kC _ o v⟩, fun c hcm => ?_, q⟩
      have e' : c = s1.heap.objs.size + 5 ∨ c = s1.heap.objs.size + 4 ∨ c = s1.heap.objs.size + 2 ∨ c = s1.heap.objs.size + 3 ∨ c = s1.heap.objs.size ∨ c = s1.heap.objs.size + 1 := by simpa using hcm
      have hle : s1.heap.objs.size ≤ c := by
        rcases e' with g | g | g | g | g | g
        · rw [g]; exact Nat.le_add_right _ _
        · rw [g]; exact Nat.le_add_right _ _
        · rw [g]; exact Nat.le_add_right _ _
        · rw [g]; exact Nat.le_add_right _ _
        · rw [g]; exact Nat.le_refl _
        · rw [g]; exact Nat.le_add_right _ _
      exact I1.fpOk hle (I1.hok.fresh hle)
theorem walk_enz {K : PySem.W.Frag} {a b : Addr} {xs ys : List V} (hl : xs.length = ys.length) : Walk (ItEz K a b) xs.length (fun H => SqT K H a xs ∧ SqT K H b ys)
    (fun i H v H' => ∃ T1 T2 x y, v = .ref T2 ∧ H T1 = none ∧ upd H T1 (.tup [x, y]) T2 = none ∧ H' = upd (upd H T1 (.tup [x, y])) T2 (.tup [.int (i : Nat), .ref T1]) ∧ xs[i]? = some x ∧ ys[i]? = some y) := by
  refine ⟨fun i _ hi g => ⟨xs, ys, xs[i], ys[i], g.1, g.2, List.getElem?_eq_getElem hi, List.getElem?_eq_getElem _⟩, fun _ g => ⟨xs, g.1, Nat.le_refl _⟩, fun i H v H' _ g y => ?_⟩
  obtain ⟨T1, T2, x, z, h1, h2, h3, h4, h5, h6⟩ := y
  exact ⟨T1, T2, x, z, h1, h2, h3, h4, h5 xs g.1, h6 ys g.2⟩
end Enz
/-! ### data partly known, partly new: slices, lists that grow -/
namespace Af
open PySem PySem.Spec PyProof.Rows L2
theorem mxH_mx {G H H1 H2 : Hp} (s : Same H H1) (s1 : Same H1 H2) : Same (mxH (mxH G H H1) H1 H2) (mxH G H H2) := fun a o e => by
  cases q : H1 a with
  | none =>
    rw [mxH_new q] at e
    rw [mxH_new (s.free q)]; exact e
  | some x =>
    rw [mxH_old (by rw [q]; exact fun z => nomatch z)] at e
    exact mxH_up s1 a o e
theorem mxH_self {G H : Hp} (s : Same G H) : Same G (mxH G H H) := mxH_in s
/-- a slice of a list or a tuple that is known in a part of the heap -/
def rSlM (K : PySem.W.Frag) : V → Option Int → Option Int → Hp → VK → Prop := fun x lo hi H Q => ∃ (G : Hp) (a : Addr) (xs : List V) (b : Bool), x = .ref a ∧ Same G H ∧ SqB K b G a xs ∧ ∀ (p : Addr) (H' : Hp), Same H H' → SqB K b (mxH G H H') p (cutV xs lo hi) → Q (.ref p) H'
theorem slM {X : Cx} {K : PySem.W.Frag} (hK : X.K = K := by rfl) : SlR X (rSlM K) := by
  intro pins s σ H x v vl vu lo hi sl Q I rx hs pl pu h
  subst hK
  obtain ⟨G, a, xs, b, rfl, sG, hq, q⟩ := h
  cases b with
  | true => exact sl_list pins s σ H _ v vl vu lo hi sl Q I rx hs pl pu ⟨a, xs, rfl, sG.seq hq, fun p np => q p _ (same_new np) (SqL.of (by rw [mxH_new np, upd_same]))⟩
  | false => exact slG (K := X.K) rfl pins s σ H _ v vl vu lo hi sl Q I rx hs pl pu ⟨G, a, xs, rfl, sG, hq, q⟩
section
variable {K : PySem.W.Frag} {G H H1 H2 : Hp} {v : V} {d : PyData} {vs : List V} {ds : List PyData}
/-- one more item of a list that grows at D -/
theorem acc_stepM {D : Addr} {o : HO} (h : DpAll K (hid (mxH G H H1) D) vs ds) (hD0 : H D = none) (hD : H1 D ≠ none) (sG : Same G H) (s0 : Same H H1) (s1 : Same H1 H2) (g : Dp K (mxH G H1 H2) v d) : DpAll K (hid (mxH G H (upd H2 D o)) D) (vs ++ [v]) (ds ++ [d]) := by
  have k1 : Same (hid (mxH G H H1) D) (hid (mxH G H (upd H2 D o)) D) := fun a x e => by
    obtain ⟨n1, e1⟩ := hid_some e
    rw [hid_ne n1]
    cases q : H a with
    | none =>
      rw [mxH_new q] at e1 ⊢
      rw [upd_ne n1]; exact s1 _ _ e1
    | some z =>
      have n : H a ≠ none := by rw [q]; exact fun z => nomatch z
      rw [mxH_old n] at e1 ⊢; exact e1
  have k2 : Same (mxH G H1 H2) (hid (mxH G H (upd H2 D o)) D) := fun a x e => by
    cases q : H1 a with
    | none =>
      rw [mxH_new q] at e
      have n1 : a ≠ D := fun z => hD (by rw [← z]; exact q)
      rw [hid_ne n1, mxH_new (s0.free q), upd_ne n1]; exact e
    | some z =>
      rw [mxH_old (by rw [q]; exact fun z => nomatch z)] at e
      have h2 := sG a x e
      have n1 : a ≠ D := fun z => by rw [z, hD0] at h2; cases h2
      rw [hid_ne n1, mxH_old (by rw [h2]; exact fun z => nomatch z)]; exact e
  exact dps_app (dps_up h k1) (.cons (dp_up g k2) .nil)
theorem acc_doneM {D : Addr} (h : DpAll K (hid (mxH G H H1) D) vs ds) : DpAll K (mxH G H H1) vs ds := dps_up h hid_le
end
theorem cut_row {ns : List Int} {k : Nat} (h : k ≤ ns.length) : cutV (ns.map V.int) none (some (k : Int)) = (ns.take k).map V.int := by
  rw [cut_take (by rw [List.length_map]; exact h), List.map_take]
theorem bMin : bootBuiltins "min" = some (.builtin "min") := by decide +kernel
theorem book_tup {K : PySem.W.Frag} {H : Hp} {v : V} {B : List (List Int)} (h : Dp K H v (bookT B)) : ∃ a xs, v = .ref a ∧ SqT K H a xs ∧ DpAll K H xs (B.map rowT) := by
  have h : Dp K H v (.tuple (B.map rowT)) := h
  cases h with
  | tup h1 h2 => exact ⟨_, _, rfl, h1, h2⟩
theorem book_of_tup {K : PySem.W.Frag} {H : Hp} {a : Addr} {xs : List V} {B : List (List Int)} (h1 : SqT K H a xs) (h2 : DpAll K H xs (B.map rowT)) : Dp K H (.ref a) (bookT B) := .tup h1 h2
theorem row_sq {K : PySem.W.Frag} {H : Hp} {b : Bool} {a : Addr} {ns : List Int} (h : SqB K b H a (ns.map V.int)) : Sq K H a (ns.map V.int) := h.sq
end Af
/-! ### the eldest by themselves: the mathematics -/
namespace Af
open PySem PySem.Spec PyProof.Rows L2 in
theorem neV {a b : Int} (h : a ≠ b) : (!decide (V.int a = V.int b)) = true := by rw [decide_eq_false (fun z => h (V.int.inj z))]; rfl
open PySem PySem.Spec PyProof.Rows L2 in
theorem eqV {a b : Int} (h : a = b) : (!decide (V.int a = V.int b)) = false := by rw [decide_eq_true (congrArg V.int h)]; rfl
theorem iteB {b : Bool} {A B : Prop} (e : b = false) (h : B) : if b = true then A else B := by rw [e]; exact L2.iteF h
theorem iteC {b : Bool} {A B : Prop} (e : b = true) (h : A) : if b = true then A else B := by rw [e]; exact L2.iteT h
def parS (k : Nat) (S : List Int × List Int) : List Int × List Int := (S.1.take k, S.2.take k)
theorem parS_neg (k : Nat) (S : List Int × List Int) : parS k (negS S) = negS (parS k S) := by
  unfold parS negS negL
  rw [List.map_take]
section
variable {B : List (List Int)} {hi : Int} {S T : List Int × List Int} {R F : List Int} {k : Nat}
theorem isBl_take {c : Nat} (h : c < k) : isBl (B.take k) (R.take k) (F.take k) c = isBl B R F c := by
  unfold isBl
  rw [lenAt_take h, lenAt_pre (R := R.take k) (S := R) (fun i hi => List.getElem?_take_of_lt (by omega)), List.getElem?_take_of_lt h, List.getElem?_take_of_lt h]
theorem movN_take : ∀ n, n ≤ k → movN (B.take k) (R.take k) (F.take k) n = movN B R F n
  | 0, _ => rfl
  | n + 1, h => by rw [movN_succ, movN_succ, isBl_take (by omega), movN_take n (by omega)]
theorem mover_part (h : k ≤ B.length) : moverO (B.take k) (R.take k) (F.take k) = movN B R F k := by
  show movN _ _ _ (B.take k).length = _
  rw [List.length_take, Nat.min_eq_left h, movN_take k (Nat.le_refl _)]
theorem mov_none (h : moverO B R F = none) (hk : k ≤ B.length) : moverO (B.take k) (R.take k) (F.take k) = none := by
  rw [mover_part hk]
  exact movN_all fun c hc => movN_none (n := B.length) h c (by omega)
theorem mov_some {g : Nat} (h : moverO B R F = some g) (hg : g < k) (hk : k ≤ B.length) : moverO (B.take k) (R.take k) (F.take k) = some g := by
  rw [mover_part hk]
  obtain ⟨h1, h2, h3⟩ := movN_some (n := B.length) h
  exact movN_is hg h2 fun c c1 c2 => h3 c c1 (by omega)
theorem Ok.par (h : Ok B S) (hk : k ≤ B.length) : Ok (B.take k) (parS k S) := by
  have h1 := h.st.len
  have h2 := h.fl
  refine ⟨⟨?_, fun c hc => ?_⟩, ?_, fun x hx => h.fo x (List.mem_of_mem_take hx)⟩
  · show (S.1.take k).length = (B.take k).length
    rw [List.length_take, List.length_take, h1]
  · rw [List.length_take] at hc
    obtain ⟨n, r, e1, e2, e3⟩ := h.st.all c (by omega)
    refine ⟨n, r, ?_, ?_, e3⟩
    · show lenAt (B.take k) (S.1.take k) c = some n
      rw [lenAt_take (by omega), lenAt_pre (R := S.1.take k) (S := S.1) fun i hi => List.getElem?_take_of_lt (by omega)]; exact e1
    · show (S.1.take k)[c]? = some r
      rw [List.getElem?_take_of_lt (by omega)]; exact e2
  · show (S.2.take k).length = (B.take k).length
    rw [List.length_take, List.length_take, h2]
theorem goB_take : ∀ (n : Nat) (Q : List Int), Q.length + n ≤ k → goB (B.take k) (F.take k) n Q = goB B F n Q
  | 0, _, _ => rfl
  | n + 1, Q, h => by
    show goB (B.take k) (F.take k) n (Q ++ [endR ((lenAt (B.take k) Q Q.length).getD 0) ((F.take k)[Q.length]?.getD 0)]) = goB B F n (Q ++ [endR ((lenAt B Q Q.length).getD 0) (F[Q.length]?.getD 0)])
    rw [lenAt_take (by omega), List.getElem?_take_of_lt (by omega)]
    exact goB_take n _ (by rw [List.length_append, List.length_singleton]; omega)
theorem goB_cut : ∀ (n : Nat) (Q : List Int) (j : Nat), j ≤ n → (goB B F n Q).take (Q.length + j) = goB B F j Q
  | 0, Q, j, h => by
    have : j = 0 := by omega
    subst this
    show Q.take (Q.length + 0) = Q
    rw [Nat.add_zero, List.take_length]
  | n + 1, Q, j, h => by
    by_cases c : j ≤ n
    · rw [goB_snoc, List.take_append_of_le_length (by rw [goB_len]; omega)]
      exact goB_cut n Q j c
    · have : j = n + 1 := by omega
      subst this
      exact List.take_of_length_le (by rw [goB_len]; omega)
/-- who is older than the climber who goes stays as they are -/
theorem par_stay (h : Ok B S) {g : Nat} (hm : moverO B S.1 S.2 = some g) (hk : k ≤ g) : parS k (beatM B S) = parS k S := by
  obtain ⟨h1, _, _⟩ := movN_some (n := B.length) hm
  have hl := h.st.len
  have hf := h.fl
  unfold beatM parS
  rw [hm]
  show ((goB B S.2 _ (S.1.take g ++ [S.1[g]?.getD 0 + S.2[g]?.getD 0])).take k, (S.2.take (g + 1) ++ (S.2.drop (g + 1)).map fun f => -f).take k) = _
  have e1 : (goB B S.2 (B.length - (g + 1)) (S.1.take g ++ [S.1[g]?.getD 0 + S.2[g]?.getD 0])).take k = S.1.take k := by
    apply List.ext_getElem?
    intro i
    by_cases c : i < k
    · rw [List.getElem?_take_of_lt c, List.getElem?_take_of_lt c, goB_pre _ _ _ _ _ (by rw [List.length_append, List.length_take]; simp only [List.length_singleton]; omega), List.getElem?_append_left (by rw [List.length_take]; omega), List.getElem?_take_of_lt (by omega)]
    · rw [List.getElem?_eq_none (by rw [List.length_take]; omega), List.getElem?_eq_none (by rw [List.length_take]; omega)]
  rw [e1, List.take_append_of_le_length (by rw [List.length_take]; omega), List.take_take, Nat.min_eq_left (by omega)]
/-- the others make a beat of their own -/
theorem par_beat (h : Ok B S) (hk : k ≤ B.length) (hm : ∀ g, moverO B S.1 S.2 = some g → g < k) : parS k (beatM B S) = beatM (B.take k) (parS k S) := by
  have hl := h.st.len
  have hf := h.fl
  cases e : moverO B S.1 S.2 with
  | none =>
    rw [beat_stuck e, beat_stuck (S := parS k S) (mov_none e hk), parS_neg]
  | some g =>
    have hg := hm g e
    have e2 : moverO (B.take k) (parS k S).1 (parS k S).2 = some g := mov_some e hg hk
    have bl : (B.take k).length = k := by rw [List.length_take]; omega
    unfold beatM
    rw [e, e2]
    unfold beatO
    rw [bl]
    unfold parS
    have q1 : (S.1.take k).take g ++ [(S.1.take k)[g]?.getD 0 + (S.2.take k)[g]?.getD 0] = S.1.take g ++ [S.1[g]?.getD 0 + S.2[g]?.getD 0] := by
      rw [List.take_take, Nat.min_eq_left (by omega), List.getElem?_take_of_lt hg, List.getElem?_take_of_lt hg]
    have ql : (S.1.take g ++ [S.1[g]?.getD 0 + S.2[g]?.getD 0]).length = g + 1 := by
      rw [List.length_append, List.length_take, List.length_singleton]; omega
    simp only
    rw [q1, goB_take _ _ (by rw [ql]; omega)]
    have z := goB_cut (B := B) (F := S.2) (B.length - (g + 1)) (S.1.take g ++ [S.1[g]?.getD 0 + S.2[g]?.getD 0]) (k - (g + 1)) (by omega)
    rw [ql, show g + 1 + (k - (g + 1)) = k by omega] at z
    rw [z]
    have e4 : (S.2.take (g + 1) ++ (S.2.drop (g + 1)).map fun f => -f).take k = (S.2.take k).take (g + 1) ++ ((S.2.take k).drop (g + 1)).map fun f => -f := by
      rw [List.take_append, List.length_take, Nat.min_eq_left (show g + 1 ≤ S.2.length by omega), List.take_take, List.take_take, Nat.min_eq_right (show g + 1 ≤ k by omega), Nat.min_eq_left (show g + 1 ≤ k by omega), ← List.map_take, List.drop_take]
    rw [e4]
theorem par_ne (G : GoodB B hi) (h : Ok B S) (h1 : 1 ≤ k) (hk : k ≤ B.length) (hm : ∀ g, moverO B S.1 S.2 = some g → g < k) : parS k (beatM B S) ≠ parS k S := by
  intro z
  cases e : moverO B S.1 S.2 with
  | none =>
    rw [beat_stuck e] at z
    have z2 : (negS S).2.take k = S.2.take k := congrArg Prod.snd z
    have z3 := congrArg (fun l : List Int => l[0]?) z2
    simp only [List.getElem?_take_of_lt (show 0 < k by omega)] at z3
    rcases face0 G h with u | u
    · rw [neg_face0 u, u] at z3; cases z3
    · rw [neg_face0 u, u] at z3; cases z3
  | some g =>
    have hg := hm g e
    obtain ⟨l, r, f, q⟩ := goes_of G h e
    have z2 : (beatM B S).1.take k = S.1.take k := congrArg Prod.fst z
    have z3 := congrArg (fun l : List Int => l[g]?) z2
    simp only [List.getElem?_take_of_lt hg] at z3
    rw [show (beatM B S).1[g]? = _ from q.g2, show S.1[g]? = _ from q.e2] at z3
    have z4 := Option.some.inj z3
    obtain ⟨f', k1, k2⟩ := h.whole.fc g q.lt
    rw [show S.2[g]? = _ from q.e3] at k1
    cases k1
    omega
/-- who turns about at a beat -/
theorem turn_get (G : GoodB B hi) (h : Ok B S) {i : Nat} {f : Int} (e : S.2[i]? = some f) : (beatM B S).2[i]? = some (if ∀ g, moverO B S.1 S.2 = some g → g < i then -f else f) := by
  cases hm : moverO B S.1 S.2 with
  | none =>
    rw [beat_stuck hm, if_pos (fun g z => nomatch z)]
    show (negL S.2)[i]? = _
    rw [negL_get, e]; rfl
  | some g =>
    obtain ⟨h1, _, _⟩ := movN_some (n := B.length) hm
    have hf := h.fl
    have hi : i < S.2.length := (List.getElem?_eq_some_iff.mp e).1
    unfold beatM
    rw [hm]
    show (S.2.take (g + 1) ++ (S.2.drop (g + 1)).map fun f => -f)[i]? = _
    by_cases c : g < i
    · rw [if_pos (fun g' z => by cases z; exact c), List.getElem?_append_right (by rw [List.length_take]; omega), List.length_take, List.getElem?_map, List.getElem?_drop, show g + 1 + (i - min (g + 1) S.2.length) = i by omega, e]; rfl
    · rw [if_neg (fun z => c (z g rfl)), List.getElem?_append_left (by rw [List.length_take]; omega), List.getElem?_take_of_lt (by omega), e]
end
end Af
/-! ### steps: how often the eldest go on by themselves -/
namespace Af
/-- the state after c beats, c any integer -/
def aftM (B : List (List Int)) (S : List Int × List Int) (c : Int) : List Int × List Int := itB B (c % (2 * manyN B)).toNat S
def stp (B : List (List Int)) (k : Nat) (T : List Int × List Int) (c : Int) : Int := if k = 0 then c / manyN B else (c / (2 * manyN B)) * (2 * manyN (B.take k)) + clockM (B.take k) (parS k T)
def stepsM (B : List (List Int)) (S : List Int × List Int) (k : Nat) (m : Int) : Int := stp B k (aftM B S m) (clockM B S + m) - stp B k S (clockM B S)
/-- steps in a whole round -/
def rndN (B : List (List Int)) (k : Nat) : Int := if k = 0 then 2 else 2 * manyN (B.take k)
section
variable {B : List (List Int)} {hi : Int} {S T : List Int × List Int} {k : Nat} {c m n : Int}
theorem aft_ok (G : GoodB B hi) (h : Ok B S) : Ok B (aftM B S c) := itB_ok G _ h
theorem aft_clock (G : GoodB B hi) (h : Ok B S) : clockM B (aftM B S c) = (clockM B S + c) % (2 * manyN B) := by
  have hN := many_pos G
  have m1 := Int.emod_nonneg c (show 2 * manyN B ≠ 0 by omega)
  unfold aftM
  rw [clock_it G h, show (((c % (2 * manyN B)).toNat : Nat) : Int) = c % (2 * manyN B) by omega, Int.add_emod_emod]
theorem aft_signs (G : GoodB B hi) (h : Ok B S) : signsM B (aftM B S c) = signsM B S := signs_it G h _
theorem aft_of (G : GoodB B hi) (h : Ok B S) (h' : Ok B T) (hc : clockM B T = (clockM B S + c) % (2 * manyN B)) (hs : signsM B T = signsM B S) : T = aftM B S c := after_int G h h' hc hs
theorem aft_zero (G : GoodB B hi) (h : Ok B S) : aftM B S 0 = S := by
  have r := clock_rg G h
  exact (aft_of G h h (by rw [Int.add_zero, Int.emod_eq_of_lt r.1 r.2]) rfl).symm
theorem aft_aft (G : GoodB B hi) (h : Ok B S) : aftM B (aftM B S m) n = aftM B S (m + n) := by
  refine aft_of G h (aft_ok G (aft_ok G h)) ?_ (by rw [aft_signs G (aft_ok G h), aft_signs G h])
  rw [aft_clock G (aft_ok G h), aft_clock G h, Int.emod_add_emod, Int.add_assoc]
theorem aft_neg (G : GoodB B hi) (h : Ok B S) : aftM B (negS (aftM B S m)) m = negS S := by
  have hO := aft_ok (c := m) G h
  have hN := many_pos G
  have r := clock_rg G h
  refine (aft_of G hO.neg h.neg ?_ (by rw [signs_neg G hO, signs_neg G h, aft_signs G h])).symm
  rw [clock_neg G hO, clock_neg G h, aft_clock G h, mod_refl _ _ (show 0 < 2 * manyN B by omega), Int.emod_add_emod, show 2 * manyN B - 1 - (clockM B S + m) + m = 2 * manyN B - 1 - clockM B S by omega, Int.emod_eq_of_lt (by omega) (by omega)]
theorem stp_len (hl : 1 ≤ B.length) (h : Ok B T) (hc : clockM B T = c % (2 * manyN B)) : stp B B.length T c = c := by
  have e1 : parS B.length T = T := by
    have h1 := h.st.len
    have h2 := h.fl
    obtain ⟨R, F⟩ := T
    unfold parS
    simp only at h1 h2 ⊢
    rw [List.take_of_length_le (by omega), List.take_of_length_le (by omega)]
  unfold stp
  rw [if_neg (by omega), List.take_length, e1, hc, Int.mul_comm]
  exact Int.mul_ediv_add_emod c (2 * manyN B)
theorem stp_shift (G : GoodB B hi) (j : Int) : stp B k T (c + 2 * manyN B * j) = stp B k T c + j * rndN B k := by
  have hN := many_pos G
  unfold stp rndN
  by_cases h : k = 0
  · rw [if_pos h, if_pos h, if_pos h, show 2 * manyN B * j = manyN B * (j * 2) by rw [Int.mul_comm 2, Int.mul_assoc, Int.mul_comm 2], Int.add_mul_ediv_left _ _ (by omega)]
  · rw [if_neg h, if_neg h, if_neg h, Int.add_mul_ediv_left _ _ (by omega), Int.add_mul]
    omega
theorem div_refl (x y : Int) (hy : 0 < y) : (-1 - x) / y = -1 - x / y := by
  have h0 := Int.mul_ediv_add_emod x y
  have h1 := Int.emod_nonneg x (show y ≠ 0 by omega)
  have h2 := Int.emod_lt_of_pos x hy
  have e : -1 - x = (y - 1 - x % y) + y * (-1 - x / y) := by
    rw [Int.mul_sub, Int.mul_neg, Int.mul_one]
    generalize y * (x / y) = z at h0 ⊢
    omega
  rw [e, Int.add_mul_ediv_left _ _ (by omega), Int.ediv_eq_zero_of_lt (by omega) (by omega)]
  omega
theorem stp_neg (G : GoodB B hi) (h : Ok B T) (hk : k ≤ B.length) : stp B k (negS T) (-1 - c) = -1 - stp B k T c := by
  have hN := many_pos G
  unfold stp
  by_cases h0 : k = 0
  · rw [if_pos h0, if_pos h0, div_refl _ _ (by omega)]
  · rw [if_neg h0, if_neg h0, div_refl _ _ (by omega), parS_neg, clock_neg (good_take G (by omega)) (h.par hk)]
    generalize c / (2 * manyN B) = q
    rw [Int.sub_mul]
    generalize 2 * manyN (B.take k) = y
    generalize q * y = z
    omega
theorem steps_add (G : GoodB B hi) (h : Ok B S) : stepsM B S k (m + n) = stepsM B S k m + stepsM B (aftM B S m) k n := by
  have hN := many_pos G
  have h0 := Int.mul_ediv_add_emod (clockM B S + m) (2 * manyN B)
  generalize hq : (clockM B S + m) / (2 * manyN B) = q at h0
  have ec : clockM B (aftM B S m) = clockM B S + m + 2 * manyN B * (-q) := by
    rw [aft_clock G h, Int.mul_neg]; omega
  unfold stepsM
  rw [aft_aft G h, ec, stp_shift G, show clockM B S + m + 2 * manyN B * -q + n = clockM B S + (m + n) + 2 * manyN B * (-q) by omega, stp_shift G]
  omega
theorem steps_len (G : GoodB B hi) (h : Ok B S) (hl : 1 ≤ B.length) : stepsM B S B.length m = m := by
  have r := clock_rg G h
  unfold stepsM
  rw [stp_len hl (aft_ok G h) (aft_clock G h), stp_len hl h (Int.emod_eq_of_lt r.1 r.2).symm]
  omega
theorem steps_neg (G : GoodB B hi) (h : Ok B S) (hk : k ≤ B.length) : stepsM B (negS (aftM B S m)) k m = stepsM B S k m := by
  have hN := many_pos G
  have hO := aft_ok (c := m) G h
  have h0 := Int.mul_ediv_add_emod (clockM B S + m) (2 * manyN B)
  generalize hq : (clockM B S + m) / (2 * manyN B) = q at h0
  have ec : clockM B (aftM B S m) = clockM B S + m + 2 * manyN B * (-q) := by
    rw [aft_clock G h, Int.mul_neg]; omega
  unfold stepsM
  rw [aft_neg G h, clock_neg G hO, ec]
  have e1 : 2 * manyN B - 1 - (clockM B S + m + 2 * manyN B * -q) + m = -1 - (clockM B S + 2 * manyN B * (-q - 1)) := by
    rw [Int.mul_sub, Int.mul_neg, Int.mul_one]; omega
  have e2 : 2 * manyN B - 1 - (clockM B S + m + 2 * manyN B * -q) = -1 - (clockM B S + m + 2 * manyN B * (-q - 1)) := by
    rw [Int.mul_sub, Int.mul_neg, Int.mul_one]; omega
  rw [e1, e2, stp_neg G h hk, stp_neg G hO hk, stp_shift G, stp_shift G]
  omega
theorem steps_zero (G : GoodB B hi) (h : Ok B S) : stepsM B S k 0 = 0 := by
  unfold stepsM
  rw [aft_zero G h, Int.add_zero]; omega
/-- the eldest faces up in the first half -/
theorem clock_half (G : GoodB B hi) (h : Ok B S) : clockM B S / manyN B = if S.2[0]?.getD 0 = 1 then 0 else 1 := by
  have hN := many_pos G
  rcases face0 G h with u | u
  · rw [clock_up u, u]
    have a := clk_rg G h
    rw [Int.ediv_eq_zero_of_lt a.1 a.2]; rfl
  · rw [clock_down u, u]
    have a := clk_rg G h.neg
    have e : 2 * manyN B - 1 - clk B (negS S).1 (negS S).2 = (manyN B - 1 - clk B (negS S).1 (negS S).2) + manyN B * 1 := by omega
    rw [e, Int.add_mul_ediv_left _ _ (by omega), Int.ediv_eq_zero_of_lt (by omega) (by omega)]; rfl
theorem half_div (G : GoodB B hi) (h : Ok B T) (hc : clockM B T = c % (2 * manyN B)) : c / manyN B = 2 * (c / (2 * manyN B)) + (if T.2[0]?.getD 0 = 1 then 0 else 1) := by
  have hN := many_pos G
  rw [← clock_half G h, hc]
  have h0 := Int.mul_ediv_add_emod c (2 * manyN B)
  generalize hq : c / (2 * manyN B) = q at h0 ⊢
  generalize c % (2 * manyN B) = r at h0 ⊢
  rw [← h0, show 2 * manyN B * q + r = r + manyN B * (2 * q) by rw [Int.mul_comm 2, Int.mul_assoc, Int.add_comm], Int.add_mul_ediv_left _ _ (by omega)]
  omega
theorem par_par {j : Nat} (h : j ≤ k) : parS j (parS k T) = parS j T := by
  unfold parS
  simp only [List.take_take, Nat.min_eq_left h]
/-- the eldest, seen alone, are where they are in the whole -/
theorem par_aft (G : GoodB B hi) (h : Ok B S) (h1 : 1 ≤ k) (hk : k ≤ B.length) (hs : signsM (B.take k) (parS k (aftM B S m)) = signsM (B.take k) (parS k S)) : aftM (B.take k) (parS k S) (stepsM B S k m) = parS k (aftM B S m) := by
  have hGk := good_take G h1
  have r := clock_rg hGk ((aft_ok (c := m) G h).par hk)
  refine (aft_of hGk (h.par hk) ((aft_ok G h).par hk) ?_ hs).symm
  have hr := clock_rg G h
  unfold stepsM stp
  rw [if_neg (by omega), if_neg (by omega), Int.ediv_eq_zero_of_lt hr.1 hr.2, Int.zero_mul]
  generalize (clockM B S + m) / (2 * manyN B) = q
  rw [show clockM (B.take k) (parS k S) + (q * (2 * manyN (B.take k)) + clockM (B.take k) (parS k (aftM B S m)) - (0 + clockM (B.take k) (parS k S))) = clockM (B.take k) (parS k (aftM B S m)) + 2 * manyN (B.take k) * q by rw [Int.mul_comm q]; omega, Int.add_mul_emod_self_left, Int.emod_eq_of_lt r.1 r.2]
theorem up_par (h1 : 1 ≤ k) : (parS k T).2[0]? = T.2[0]? := List.getElem?_take_of_lt (by omega)
theorem upB_par (h1 : 1 ≤ k) : upB (parS k T) = parS k (upB T) := by
  unfold upB
  rw [up_par h1]
  split
  · rfl
  · rw [parS_neg]
theorem clk_par {R F : List Int} : clk (B.take k) (R.take k) (F.take k) = clk (B.take k) R F :=
  clk_pre fun i hi => by
    rw [List.length_take] at hi
    exact ⟨List.getElem?_take_of_lt (by omega), List.getElem?_take_of_lt (by omega)⟩
theorem signs_par (h1 : 1 ≤ k) (hk : k ≤ B.length) : signsM (B.take k) (parS k T) = (signsM B T).take (k - 1) := by
  unfold signsM
  rw [upB_par h1]
  apply List.ext_getElem?
  intro i
  have hl : (B.take k).length = k := by rw [List.length_take]; omega
  by_cases c : i < k - 1
  · rw [sg_get (by rw [hl]; exact c), List.getElem?_take_of_lt c, sg_get (by omega)]
    unfold sgn
    show some (flip (clk ((B.take k).take (i + 1)) ((upB T).1.take k) ((upB T).2.take k)) (((upB T).2.take k)[i + 1]?.getD 0)) = _
    rw [List.take_take, Nat.min_eq_left (by omega), List.getElem?_take_of_lt (by omega)]
    rw [clk_pre (P := B.take (i + 1)) (R := (upB T).1) (F := (upB T).2) fun j hj => by
      rw [List.length_take] at hj
      exact ⟨List.getElem?_take_of_lt (by omega), List.getElem?_take_of_lt (by omega)⟩]
  · rw [List.getElem?_eq_none (by rw [sg_len, hl]; omega), List.getElem?_eq_none (by rw [List.length_take, sg_len]; omega)]
theorem par_after (G : GoodB B hi) (h : Ok B S) (h1 : 1 ≤ k) (hk : k ≤ B.length) : aftM (B.take k) (parS k S) (stepsM B S k m) = parS k (aftM B S m) :=
  par_aft G h h1 hk (by rw [signs_par h1 hk, signs_par h1 hk, aft_signs G h])
/-- steps of a part of a part -/
theorem steps_part (G : GoodB B hi) (h : Ok B S) (h1 : 1 ≤ k) (hk : k ≤ B.length) {j : Nat} (hj : j ≤ k) : stepsM (B.take k) (parS k S) j (stepsM B S k m) = stepsM B S j m := by
  have hGk := good_take G h1
  have hO := aft_ok (c := m) G h
  have r := clock_rg G h
  have rk := clock_rg hGk (h.par hk)
  have rk2 := clock_rg hGk (hO.par hk)
  have hNk := many_pos hGk
  have hN := many_pos G
  have ec : clockM (B.take k) (parS k S) + stepsM B S k m = (clockM B S + m) / (2 * manyN B) * (2 * manyN (B.take k)) + clockM (B.take k) (parS k (aftM B S m)) := by
    unfold stepsM stp
    rw [if_neg (by omega), if_neg (by omega), Int.ediv_eq_zero_of_lt r.1 r.2, Int.zero_mul]
    omega
  have eq : (clockM (B.take k) (parS k S) + stepsM B S k m) / (2 * manyN (B.take k)) = (clockM B S + m) / (2 * manyN B) := by
    rw [ec, Int.add_comm, Int.mul_comm, Int.add_mul_ediv_left _ _ (by omega), Int.ediv_eq_zero_of_lt rk2.1 rk2.2, Int.zero_add]
  have ep := par_after (m := m) G h h1 hk
  have em : (clockM (B.take k) (parS k S) + stepsM B S k m) % (2 * manyN (B.take k)) = clockM (B.take k) (parS k (aftM B S m)) := by
    rw [← ep, aft_clock hGk (h.par hk)]
  unfold stepsM at *
  rw [ep]
  by_cases h0 : j = 0
  · subst h0
    show (clockM (B.take k) (parS k S) + _) / manyN (B.take k) - clockM (B.take k) (parS k S) / manyN (B.take k) = (clockM B S + m) / manyN B - clockM B S / manyN B
    rw [half_div hGk (hO.par hk) em.symm, eq, half_div G hO (aft_clock G h), clock_half hGk (h.par hk), clock_half G h, up_par h1, up_par h1]
  · have e1 : ∀ {X : List Int × List Int} {c : Int}, stp (B.take k) j X c = c / (2 * manyN (B.take k)) * (2 * manyN (B.take j)) + clockM (B.take j) (parS j X) := fun {X c} => by
      unfold stp; rw [if_neg h0, List.take_take, Nat.min_eq_left hj]
    have e2 : ∀ {X : List Int × List Int} {c : Int}, stp B j X c = c / (2 * manyN B) * (2 * manyN (B.take j)) + clockM (B.take j) (parS j X) := fun {X c} => by
      unfold stp; rw [if_neg h0]
    rw [e1, e1, eq, par_par hj, par_par hj, Int.ediv_eq_zero_of_lt rk.1 rk.2, e2 (X := aftM B S m), e2 (X := S), Int.ediv_eq_zero_of_lt r.1 r.2]
end
end Af
namespace Af
open PySem PySem.Spec PyProof.Rows L2
theorem lay_rowL (ns : List Int) : (rowL ns).canLay0 = true := by
  have : ∀ ns : List Int, PyData.canLayAll0 (ns.map PyData.int) = true := fun ns => by
    induction ns with
    | nil => simp [PyData.canLayAll0]
    | cons n ns ih => simp only [List.map_cons, PyData.canLayAll0, PyData.canLay0, ih]; rfl
  show (PyData.list (ns.map PyData.int)).canLay0 = true
  simp only [PyData.canLay0]
  exact this ns
theorem shaped_rowL (ns : List Int) : SeqAt.shaped (rowL ns) = true := shapedT (lay_rowL ns) (by rw [depth_rowL]; decide)
theorem ne_rowL {ns : List Int} : (!PyData.eqv (rowL ns) (rowL ns)) = false := by rw [eqvT (lay_rowL ns)]; rfl
theorem dp_rowL {K : PySem.W.Frag} {H : Hp} {a : Addr} {ns : List Int} (h : SqL K H a (ns.map V.int)) : Dp K H (.ref a) (rowL ns) := .lst h (dps_ints ns)
theorem sumN_step (f : Nat → Int) : ∀ n, sumN (fun c => f (c + 1) - f c) n = f n - f 0
  | 0 => by show (0 : Int) = _; omega
  | n + 1 => by
    show sumN (fun c => f (c + 1) - f c) n + (f (n + 1) - f n) = _
    rw [sumN_step f n]; omega
/-- items from the second on -/
theorem cut_tail {ns : List Int} (h : 1 ≤ ns.length) : cutV (ns.map V.int) (some 1) none = (ns.drop 1).map V.int := by
  unfold cutV
  rw [HT.sIx_none, show HT.sIx (ns.map V.int).length 0 (some 1) = min 1 (ns.map V.int).length from HT.sIx_nat _ _ 1, List.length_map, Nat.min_eq_left h, ← List.map_drop, List.take_of_length_le (by rw [List.length_map, List.length_drop]; omega)]
theorem cut_initI {ns : List Int} (h : 1 ≤ ns.length) : cutV (ns.map V.int) none (some (-1)) = (ns.take (ns.length - 1)).map V.int := by
  have e : ns = ns.take (ns.length - 1) ++ [ns[ns.length - 1]'(by omega)] := by
    have := List.take_append_getElem (l := ns) (i := ns.length - 1) (by omega)
    rw [this, List.take_of_length_le (by omega)]
  have e2 : ns.map V.int = (ns.take (ns.length - 1)).map V.int ++ [V.int (ns[ns.length - 1]'(by omega))] := by
    conv => lhs; rw [e]
    rw [List.map_append]; rfl
  rw [e2, cut_init]
theorem last_map (f : Nat → Int) (n : Nat) : ((List.range (n + 1)).map f).map V.int = ((List.range n).map f).map V.int ++ [V.int (f n)] := by
  rw [List.range_succ, List.map_append, List.map_append]; rfl
theorem get_map (f : Nat → Int) {n i : Nat} (h : i < n) : (((List.range n).map f).map V.int)[i]? = some (V.int (f i)) := by
  rw [List.getElem?_map, List.getElem?_map, List.getElem?_range h]; rfl
theorem tail_init (f : Nat → Int) (n : Nat) : ((List.range n).map f).drop 1 = ((List.range n).map fun c => f (c + 1)).take (n - 1) := by
  apply List.ext_getElem?
  intro i
  rw [List.getElem?_drop]
  by_cases c : i < n - 1
  · rw [List.getElem?_take_of_lt c, List.getElem?_map, List.getElem?_map, List.getElem?_range (by omega), List.getElem?_range (by omega)]
    show some (f (1 + i)) = some (f (i + 1))
    rw [Nat.add_comm]
  · rw [List.getElem?_eq_none (by simp; omega), List.getElem?_eq_none (by simp; omega)]
theorem pow59 {r : Int} (h0 : 0 ≤ r) (h : r ≤ 2 * 10 ^ 59) : r.natAbs < 2 ^ 4000 := by
  have h1 : ((2 : Int) * 10 ^ 59) < 2 ^ 200 := by decide +kernel
  have h2 : (2 : Int) ^ 200 = ((2 ^ 200 : Nat) : Int) := by decide +kernel
  have h3 : r.natAbs < 2 ^ 200 := by omega
  exact Nat.lt_of_lt_of_le h3 (Nat.pow_le_pow_right (by decide) (by decide))
end Af
namespace Af
open PySem PySem.Spec PyProof.Rows L2
theorem nat_small {B : List (List Int)} {hi : Int} (G : GoodB B hi) (hhi : hi ≤ 100) (hl : B.length ≤ 100) : (manyN B).natAbs < 2 ^ 700 := by
  have hp := many_pos G
  have h1 : manyN B ≤ ((100 : Nat) : Int) ^ 100 := many_le (h := 100) (n := 100) ⟨G.first, G.wide, fun r hr x hx => ⟨(G.pos r hr x hx).1, Int.le_trans (G.pos r hr x hx).2 (by omega)⟩, G.full⟩ (by decide) hl
  have h2 : ((100 : Nat) : Int) ^ 100 < 2 ^ 700 := by decide +kernel
  have h3 : ((2 : Int) ^ 700) = ((2 ^ 700 : Nat) : Int) := by decide +kernel
  omega
section
variable {B : List (List Int)} {hi : Int} {S T : List Int × List Int} {k : Nat} {c m : Int}
theorem stp_small (G : GoodB B hi) (hhi : hi ≤ 100) (hl : B.length ≤ 100) (h : Ok B T) (hk : k ≤ B.length) (hc : c.natAbs < 2 ^ 1000) : (stp B k T c).natAbs < 2 ^ 1800 := by
  have hN := many_pos G
  unfold stp
  by_cases h0 : k = 0
  · rw [if_pos h0]
    have h1 : (c / manyN B).natAbs ≤ c.natAbs := Int.natAbs_ediv_le_natAbs c _
    exact Nat.lt_of_le_of_lt h1 (Nat.lt_of_lt_of_le hc (Nat.pow_le_pow_right (by decide) (by decide)))
  · rw [if_neg h0]
    have hGk := good_take G (show 1 ≤ k by omega)
    have hs := nat_small hGk hhi (by rw [List.length_take]; omega)
    have r := clock_rg hGk (h.par hk)
    have hNk := many_pos hGk
    have h1 : (c / (2 * manyN B)).natAbs ≤ c.natAbs := Int.natAbs_ediv_le_natAbs c _
    have h2 : (c / (2 * manyN B) * (2 * manyN (B.take k))).natAbs ≤ 2 ^ 1000 * 2 ^ 701 := by
      rw [Int.natAbs_mul]
      refine Nat.mul_le_mul (by omega) ?_
      have : (2 : Nat) ^ 701 = 2 * 2 ^ 700 := Nat.pow_succ'
      omega
    have h3 : (clockM (B.take k) (parS k T)).natAbs ≤ 2 ^ 701 := by
      have : (2 : Nat) ^ 701 = 2 * 2 ^ 700 := Nat.pow_succ'
      omega
    have h4 := Int.natAbs_add_le (c / (2 * manyN B) * (2 * manyN (B.take k))) (clockM (B.take k) (parS k T))
    have e1 : (2 : Nat) ^ 1000 * 2 ^ 701 = 2 ^ 1701 := by rw [← Nat.pow_add]
    have e2 : (2 : Nat) ^ 701 ≤ 2 ^ 1701 := Nat.pow_le_pow_right (by decide) (by decide)
    have e3 : 2 * (2 : Nat) ^ 1701 = 2 ^ 1702 := Nat.pow_succ'.symm
    have e4 : (2 : Nat) ^ 1702 < 2 ^ 1800 := Nat.pow_lt_pow_right (by decide) (by decide)
    omega
theorem steps_small (G : GoodB B hi) (hhi : hi ≤ 100) (hl : B.length ≤ 100) (h : Ok B S) (hk : k ≤ B.length) (hm : m.natAbs < 2 ^ 900) : (stepsM B S k m).natAbs < 2 ^ 1801 := by
  have hN := many_pos G
  have hs := nat_small G hhi hl
  have r := clock_rg G h
  have e1 : (2 : Nat) ^ 701 = 2 * 2 ^ 700 := Nat.pow_succ'
  have e2 : (2 : Nat) ^ 701 ≤ 2 ^ 900 := Nat.pow_le_pow_right (by decide) (by decide)
  have e3 : 2 * (2 : Nat) ^ 900 = 2 ^ 901 := Nat.pow_succ'.symm
  have e4 : (2 : Nat) ^ 901 < 2 ^ 1000 := Nat.pow_lt_pow_right (by decide) (by decide)
  have a1 := stp_small (c := clockM B S + m) G hhi hl (aft_ok (c := m) G h) hk (by omega)
  have a2 := stp_small (c := clockM B S) G hhi hl h hk (by omega)
  unfold stepsM
  have e5 : (2 : Nat) ^ 1801 = 2 * 2 ^ 1800 := Nat.pow_succ'
  omega
theorem pow900 {r : Int} (h0 : 0 ≤ r) (h : r ≤ 2 * 10 ^ 59) : r.natAbs < 2 ^ 900 := by
  have h1 : ((2 : Int) * 10 ^ 59) < 2 ^ 200 := by decide +kernel
  have h2 : (2 : Int) ^ 200 = ((2 ^ 200 : Nat) : Int) := by decide +kernel
  have h3 : r.natAbs < 2 ^ 200 := by omega
  exact Nat.lt_of_lt_of_le h3 (Nat.pow_le_pow_right (by decide) (by decide))
theorem up4000 {n : Nat} (h : n < 2 ^ 1801) : n < 2 ^ 4000 := Nat.lt_of_lt_of_le h (Nat.pow_le_pow_right (by decide) (by decide))
/-- a start is one of the eldest, too -/
theorem away_start (G : GoodB B hi) (h : Ok B T) (u : up T) (h0 : clk B T.1 T.2 = 0) : AwayTo B T.1 T.2 B.length := by
  have hN := many_pos G
  refine start_of G h u (uniq G (beat_ok G h.neg) h ?_ (by rw [signs_beat G h.neg, signs_neg G h]))
  rw [clock_beat G h.neg, clock_neg G h, clock_up u, h0, show 2 * manyN B - 1 - 0 + 1 = 2 * manyN B by omega, Int.emod_self]
theorem start_par (G : GoodB B hi) (h : Ok B T) (u : up T) (h0 : clk B T.1 T.2 = 0) (h1 : 1 ≤ k) : up (parS k T) ∧ clk (B.take k) (parS k T).1 (parS k T).2 = 0 := by
  refine ⟨(up_par h1).trans u, ?_⟩
  show clk (B.take k) (T.1.take k) (T.2.take k) = 0
  rw [clk_par]
  exact away_clk (h.part k) ((away_start G h u h0).part k)
theorem start_same (G : GoodB B hi) (h : Ok B S) (h' : Ok B T) (u : up S) (u' : up T) (h0 : clk B S.1 S.2 = 0) (h0' : clk B T.1 T.2 = 0) (e : sg B S.1 S.2 = sg B T.1 T.2) : S = T :=
  uniq G h h' (by rw [clock_up u, clock_up u', h0, h0']) (by unfold signsM; rw [upB_up u, upB_up u', e])
theorem sg_up (u : up T) : sg B T.1 T.2 = signsM B T := by unfold signsM; rw [upB_up u]
end
theorem sumN_mono {f g : Nat → Int} : ∀ n, (∀ i, i < n → f i ≤ g i) → sumN f n ≤ sumN g n
  | 0, _ => Int.le_refl _
  | n + 1, h => by
    have a := sumN_mono n fun i hi => h i (by omega)
    have b := h n (by omega)
    show sumN f n + f n ≤ sumN g n + g n
    omega
theorem cnt_take {B : List (List Int)} {hi : Int} (G : GoodB B hi) : ∀ (n i j : Nat), (∀ row, B[i]? = some row → j < row.length) → cnt ((B.drop i).take n) j ≤ cnt (B.drop i) j
  | 0, i, j, h => by
    rw [List.take_zero]
    exact cnt_pos G (B.length - i) i rfl j h
  | n + 1, i, j, h => by
    cases e : B[i]? with
    | none =>
      have : B.drop i = [] := List.drop_eq_nil_of_le (List.getElem?_eq_none_iff.mp e)
      rw [this, List.take_nil]; exact Int.le_refl _
    | some row =>
      rw [drop_cons e, List.take_succ_cons]
      show sumN (cnt ((B.drop (i + 1)).take n)) (row[j]?.getD 0).toNat ≤ sumN (cnt (B.drop (i + 1))) (row[j]?.getD 0).toNat
      have hj := h row e
      have ej : row[j]? = some row[j] := List.getElem?_eq_getElem hj
      refine sumN_mono _ fun x hx => cnt_take G n (i + 1) x fun row2 e2 => ?_
      rw [ej] at hx
      have hx : x < row[j].toNat := hx
      have := (mem_wide G e (List.getElem_mem hj)).2 row2 e2
      omega
theorem many_take {B : List (List Int)} {hi : Int} (G : GoodB B hi) (k : Nat) : manyN (B.take k) ≤ manyN B := by
  have := cnt_take G k 0 0 fun row e => by
    obtain ⟨n, e2⟩ := G.first
    rw [e] at e2; cases e2; exact Nat.one_pos
  simpa [manyN] using this
theorem lay_book (B : List (List Int)) : (bookT B).canLay0 = true := by
  have : ∀ B : List (List Int), PyData.canLayAll0 (B.map rowT) = true := fun B => by
    induction B with
    | nil => simp [PyData.canLayAll0]
    | cons r B ih => simp only [List.map_cons, PyData.canLayAll0, lay_row, ih]; rfl
  show (PyData.tuple (B.map rowT)).canLay0 = true
  simp only [PyData.canLay0]
  exact this B
theorem shaped_book (B : List (List Int)) : SeqAt.shaped (bookT B) = true := shapedT (lay_book B) (by have := depth_book B; omega)
theorem ne_book {B : List (List Int)} : (!PyData.eqv (bookT B) (bookT B)) = false := by rw [eqvT (lay_book B)]; rfl
end Af
namespace Af
section
variable {B : List (List Int)} {hi : Int} {S T : List Int × List Int} {k : Nat} {c m : Int}
theorem aft_one (G : GoodB B hi) (h : Ok B S) : aftM B S 1 = beatM B S :=
  (aft_of G h (beat_ok G h) (clock_beat G h) (signs_beat G h)).symm
theorem up_clock (G : GoodB B hi) (h : Ok B S) (u : up S) : clockM B S < manyN B := by
  rw [clock_up u]; exact (clk_rg G h).2
theorem down_clock (G : GoodB B hi) (h : Ok B S) (u : S.2[0]? = some (-1)) : manyN B ≤ clockM B S := by
  rw [clock_down u]
  have := clk_rg G h.neg
  omega
theorem clock_last (G : GoodB B hi) (h : Ok B S) (u : S.2[0]? = some (-1)) (hm : moverO B S.1 S.2 = none) : clockM B S = 2 * manyN B - 1 := by
  have hN := many_pos G
  have r := clock_rg G h
  have z := clock_beat G h
  rw [beat_stuck hm, clock_neg G h] at z
  have d := down_clock G h u
  by_cases c : clockM B S + 1 < 2 * manyN B
  · rw [Int.emod_eq_of_lt (by omega) c] at z; omega
  · omega
/-- is this beat one of the eldest k? -/
def isStp (B : List (List Int)) (S : List Int × List Int) (k : Nat) : Prop := ∀ g, moverO B S.1 S.2 = some g → g < k
theorem stp_at (G : GoodB B hi) (h : Ok B S) (hk : 1 ≤ k) : stp B k S (clockM B S) = clockM (B.take k) (parS k S) := by
  have r := clock_rg G h
  unfold stp
  rw [if_neg (by omega), Int.ediv_eq_zero_of_lt r.1 r.2, Int.zero_mul, Int.zero_add]
theorem mover_eq {o o' : Option Nat} {g : Nat} (h : o = some g) (h' : o = o') : o' = some g := h' ▸ h
theorem steps_one (G : GoodB B hi) (h : Ok B S) (hk : k ≤ B.length) : (isStp B S k → stepsM B S k 1 = 1) ∧ (¬ isStp B S k → stepsM B S k 1 = 0) := by
  have hN := many_pos G
  have r := clock_rg G h
  have hT := beat_ok G h
  have cT := clock_beat G h
  have e0 : stepsM B S k 1 = stp B k (beatM B S) (clockM B S + 1) - stp B k S (clockM B S) := by unfold stepsM; rw [aft_one G h]
  rw [e0]
  -- the last beat of a round
  have last : clockM B S + 1 = 2 * manyN B → up (beatM B S) ∧ clk B (beatM B S).1 (beatM B S).2 = 0 := fun e => by
    rw [e, Int.emod_self] at cT
    have u : up (beatM B S) := clock_lt_up G hT (by omega)
    exact ⟨u, by rw [clock_up u] at cT; exact cT⟩
  have downS : clockM B S + 1 = 2 * manyN B → S.2[0]? = some (-1) := fun e => by
    rcases face0 G h with u | u
    · have := up_clock G h u; omega
    · exact u
  have div1 : (clockM B S + 1) / (2 * manyN B) = if clockM B S + 1 = 2 * manyN B then 1 else 0 := by
    by_cases c : clockM B S + 1 = 2 * manyN B
    · rw [if_pos c, c, Int.ediv_self (by omega)]
    · rw [if_neg c, Int.ediv_eq_zero_of_lt (by omega) (by omega)]
  have faceSome : ∀ {g : Nat}, moverO B S.1 S.2 = some g → clockM B S + 1 ≠ 2 * manyN B := fun {g} hm e => by
    have f1 := beat_face0 G h hm
    rw [downS e] at f1
    have f2 : (beatM B S).2[0]? = some 1 := (last e).1
    rw [f1] at f2; cases f2
  by_cases k0 : k = 0
  · subst k0
    have hd := half_div (c := clockM B S + 1) G hT cT
    have hh := clock_half G h
    show (isStp B S 0 → (clockM B S + 1) / manyN B - clockM B S / manyN B = 1) ∧ (¬ isStp B S 0 → (clockM B S + 1) / manyN B - clockM B S / manyN B = 0)
    rw [hd, hh, div1]
    cases hm : moverO B S.1 S.2 with
    | none =>
      refine ⟨fun _ => ?_, fun z => absurd (fun g e => by rw [hm] at e; cases e) z⟩
      rcases face0 G h with u | u
      · have a := up_clock G h u
        rw [if_neg (by omega), u]
        have u2 : (beatM B S).2[0]? = some (-1) := by rw [beat_stuck hm]; exact neg_face0 u
        rw [u2]; rfl
      · have a := clock_last G h u hm
        rw [if_pos (by omega), u]
        have u2 : (beatM B S).2[0]? = some 1 := by rw [beat_stuck hm]; exact neg_face0 u
        rw [u2]; rfl
    | some g =>
      refine ⟨fun z => absurd (z g hm) (Nat.not_lt_zero g), fun _ => ?_⟩
      rw [if_neg (faceSome hm), beat_face0 G h hm]; omega
  · have h1 : 1 ≤ k := by omega
    have hGk := good_take G h1
    have hOk := h.par hk
    have hNk := many_pos hGk
    have rk := clock_rg hGk hOk
    rw [stp_at G h h1]
    have e1 : stp B k (beatM B S) (clockM B S + 1) = (if clockM B S + 1 = 2 * manyN B then 1 else 0) * (2 * manyN (B.take k)) + clockM (B.take k) (parS k (beatM B S)) := by
      unfold stp; rw [if_neg k0, div1]
    rw [e1]
    refine ⟨fun st => ?_, fun st => ?_⟩
    · have ep := par_beat h hk st
      have ck := clock_beat hGk hOk
      rw [← ep] at ck
      by_cases c : clockM B S + 1 = 2 * manyN B
      · rw [if_pos c, Int.one_mul]
        obtain ⟨u, z⟩ := last c
        obtain ⟨u2, z2⟩ := start_par (k := k) G hT u z h1
        have c0 : clockM (B.take k) (parS k (beatM B S)) = 0 := by rw [clock_up u2]; exact z2
        rw [c0] at ck ⊢
        by_cases d : clockM (B.take k) (parS k S) + 1 = 2 * manyN (B.take k)
        · omega
        · rw [Int.emod_eq_of_lt (by omega) (by omega)] at ck; omega
      · rw [if_neg c, Int.zero_mul, Int.zero_add, ck]
        by_cases d : clockM (B.take k) (parS k S) + 1 = 2 * manyN (B.take k)
        · exfalso
          rw [d, Int.emod_self] at ck
          have u2 : up (parS k (beatM B S)) := clock_lt_up hGk (hT.par hk) (by omega)
          have dS : (parS k S).2[0]? = some (-1) := by
            rcases face0 hGk hOk with u | u
            · have := up_clock hGk hOk u; omega
            · exact u
          cases hm : moverO B S.1 S.2 with
          | none =>
            have := clock_last G h ((up_par h1).symm.trans dS) hm
            omega
          | some g =>
            have f1 := beat_face0 G h hm
            have f2 : (beatM B S).2[0]? = some 1 := (up_par h1).symm.trans u2
            rw [f1, (up_par h1).symm.trans dS] at f2; cases f2
        · rw [Int.emod_eq_of_lt (by omega) (by omega)]; omega
    · obtain ⟨g, hm, hg⟩ : ∃ g, moverO B S.1 S.2 = some g ∧ k ≤ g := by
        cases hm : moverO B S.1 S.2 with
        | none => exact absurd (fun g e => by rw [hm] at e; cases e) st
        | some g =>
          refine ⟨g, rfl, ?_⟩
          by_cases c : g < k
          · exact absurd (fun g' e => by rw [hm] at e; cases e; exact c) st
          · omega
      rw [par_stay h hm hg, if_neg (faceSome hm)]; omega
theorem steps_bd (G : GoodB B hi) (hk : k ≤ B.length) : ∀ (n : Nat) {S : List Int × List Int}, Ok B S → 0 ≤ stepsM B S k n ∧ stepsM B S k n ≤ n
  | 0, S, h => by
    have : stepsM B S k ((0 : Nat) : Int) = 0 := steps_zero G h
    rw [this]; omega
  | n + 1, S, h => by
    have e : ((n + 1 : Nat) : Int) = 1 + (n : Int) := by omega
    rw [e, steps_add G h]
    have a := steps_bd G hk n (aft_ok (c := 1) G h)
    have b := steps_one G h hk
    by_cases z : isStp B S k
    · rw [b.1 z]; omega
    · rw [b.2 z]; omega
theorem steps_rg (G : GoodB B hi) (h : Ok B S) (hk : k ≤ B.length) (hm : 0 ≤ m) : 0 ≤ stepsM B S k m ∧ stepsM B S k m ≤ m := by
  obtain ⟨n, rfl⟩ : ∃ n : Nat, m = (n : Int) := ⟨m.toNat, by omega⟩
  exact steps_bd G hk n h
theorem steps_round (G : GoodB B hi) (h : Ok B S) : stepsM B S k (2 * manyN B) = rndN B k := by
  have r := clock_rg G h
  have e : aftM B S (2 * manyN B) = S := (aft_of G h h (by rw [Int.add_emod_right, Int.emod_eq_of_lt r.1 r.2]) rfl).symm
  unfold stepsM
  rw [e, show clockM B S + 2 * manyN B = clockM B S + 2 * manyN B * 1 by omega, stp_shift G]
  omega
theorem steps_from0 (G : GoodB B hi) (h : Ok B S) (hT : Ok B T) (u : up T) (h0 : clk B T.1 T.2 = 0) (hs : signsM B T = signsM B S) (h1 : 1 ≤ k) (hk : k ≤ B.length) : stepsM B T k (clockM B S) = clockM (B.take k) (parS k S) := by
  have r := clock_rg G h
  have c0 : clockM B T = 0 := by rw [clock_up u]; exact h0
  have e : aftM B T (clockM B S) = S := (aft_of G hT h (by rw [c0, Int.zero_add, Int.emod_eq_of_lt r.1 r.2]) hs.symm).symm
  obtain ⟨u2, z2⟩ := start_par (k := k) G hT u h0 h1
  unfold stepsM
  rw [e, c0, Int.zero_add, stp_at G h h1]
  have z := stp_at G hT h1
  rw [c0] at z
  rw [z, clock_up u2, z2]; omega
end
end Af
/-! ### who goes at each beat of a round; list.count of True -/
namespace Af
open PySem PySem.Spec PyProof.Rows L2
def movI : Option Nat → Int
  | none => -1
  | some g => g
theorem isStp_iff {B : List (List Int)} {S : List Int × List Int} {k : Nat} : isStp B S k ↔ movI (moverO B S.1 S.2) < (k : Int) := by
  unfold isStp
  cases h : moverO B S.1 S.2 with
  | none => exact ⟨fun _ => by show (-1 : Int) < k; omega, fun _ g e => by cases e⟩
  | some g => exact ⟨fun z => by have := z g rfl; show (g : Int) < k; omega, fun z g' e => by cases e; have z : (g : Int) < k := z; omega⟩
def goI (B : List (List Int)) (S : List Int × List Int) (j : Nat) : Int := movI (moverO B (itB B j S).1 (itB B j S).2)
section
variable {B : List (List Int)} {hi : Int} {S T : List Int × List Int} {k : Nat} {c m : Int}
theorem it_aft (G : GoodB B hi) (h : Ok B S) (n : Nat) : itB B n S = aftM B S n := aft_of G h (itB_ok G n h) (clock_it G h n) (signs_it G h n)
def below (k : Nat) (l : List Int) : List Bool := l.map fun g => decide (g < (k : Int))
def equals (k : Nat) (l : List Int) : List Bool := l.map fun g => decide (g = (k : Int))
theorem equals_count (k : Nat) : ∀ l : List Int, (((equals k l).count true : Nat) : Int) = ((below (k + 1) l).count true : Nat) - ((below k l).count true : Nat)
  | [] => rfl
  | g :: l => by
    have ih := equals_count k l
    unfold equals below at ih ⊢
    simp only [List.map_cons, List.count_cons]
    have e1 : (decide (g = (k : Int)) == true) = decide (g = (k : Int)) := by cases decide (g = (k : Int)) <;> rfl
    by_cases h1 : g = (k : Int)
    · have h2 : g < ((k + 1 : Nat) : Int) := by omega
      have h3 : ¬ g < (k : Int) := by omega
      simp only [h1, decide_true, decide_false, h2, h3] at ih ⊢
      simp
      have : ((k : Int) < (k : Int) + 1) := by omega
      simp [this] at ih ⊢
      omega
    · by_cases h2 : g < (k : Int)
      · have h3 : g < ((k + 1 : Nat) : Int) := by omega
        simp [h1, h2, h3]
        have : g < (k : Int) + 1 := by omega
        simp [this] at ih ⊢
        omega
      · have h3 : ¬ g < ((k + 1 : Nat) : Int) := by omega
        simp [h1, h2, h3]
        have : ¬ g < (k : Int) + 1 := by omega
        simp [this] at ih ⊢
        omega
theorem steps_count (G : GoodB B hi) (h : Ok B S) (hk : k ≤ B.length) : ∀ n : Nat, stepsM B S k (n : Int) = ((below k ((List.range n).map (goI B S))).count true : Nat)
  | 0 => steps_zero G h
  | n + 1 => by
    have e : ((n + 1 : Nat) : Int) = (n : Int) + 1 := by omega
    rw [e, steps_add G h, steps_count G h hk n, ← it_aft G h]
    have b := steps_one (k := k) G (itB_ok G n h) hk
    rw [List.range_succ, List.map_append]
    unfold below
    rw [List.map_append, List.count_append]
    show _ = (((_ : Nat) + ([decide (goI B S n < (k : Int))].count true) : Nat) : Int)
    by_cases z : isStp B (itB B n S) k
    · rw [b.1 z]
      have z2 : decide (goI B S n < (k : Int)) = true := decide_eq_true (isStp_iff.mp z)
      rw [z2]
      simp
    · rw [b.2 z]
      have z2 : decide (goI B S n < (k : Int)) = false := decide_eq_false fun y => z (isStp_iff.mpr y)
      rw [z2]
      simp
theorem steps_mul (G : GoodB B hi) (h : Ok B S) (q r : Int) : stepsM B S k (2 * manyN B * q + r) = q * rndN B k + stepsM B S k r := by
  have e : aftM B S (2 * manyN B * q + r) = aftM B S r := by
    unfold aftM
    rw [Int.add_comm, Int.add_mul_emod_self_left]
  unfold stepsM
  rw [e, show clockM B S + (2 * manyN B * q + r) = clockM B S + r + 2 * manyN B * q by omega, stp_shift G]
  omega
/-- whole rounds and the rest -/
theorem steps_counted (G : GoodB B hi) (h : Ok B S) (hk : k ≤ B.length) {L : Nat} (hL : (L : Int) = 2 * manyN B) {n : Int} (hn : 0 ≤ n) : stepsM B S k n = n / (L : Int) * ((below k ((List.range L).map (goI B S))).count true : Nat) + (((below k ((List.range L).map (goI B S))).take (n % (L : Int)).toNat).count true : Nat) := by
  have hN := many_pos G
  have r0 := Int.emod_nonneg n (show (L : Int) ≠ 0 by omega)
  have r1 := Int.emod_lt_of_pos n (show 0 < (L : Int) by omega)
  have h0 := Int.mul_ediv_add_emod n (L : Int)
  have e1 : stepsM B S k n = n / (L : Int) * rndN B k + stepsM B S k (n % (L : Int)) := by
    have := steps_mul (k := k) G h (n / (L : Int)) (n % (L : Int))
    rw [← hL, h0] at this; exact this
  have e2 : rndN B k = ((below k ((List.range L).map (goI B S))).count true : Nat) := by
    rw [← steps_round (k := k) G h, ← hL, steps_count G h hk]
  rw [e1, e2]
  congr 1
  obtain ⟨r, hr⟩ : ∃ r : Nat, n % (L : Int) = (r : Int) := ⟨(n % (L : Int)).toNat, by omega⟩
  rw [hr] at r1 ⊢
  rw [steps_count G h hk, Int.toNat_natCast]
  unfold below
  rw [← List.map_take, ← List.map_take, List.take_range, Nat.min_eq_left (by omega)]
end
def rCntB (K : PySem.W.Frag) : V → List V → Hp → VK → Prop := fun x xs H Q => ∃ (p : Addr) (bs : List Bool), x = .ref p ∧ xs = [.bl true] ∧ SqL K H p (bs.map V.bl) ∧ Q (.int (bs.count true : Nat)) H
def eqbt (v : Value) : Bool := match v with
  | .bool b => b == true
  | _ => false
theorem eqbt_count : ∀ bs : List Bool, (bs.map Value.bool).countP eqbt = bs.count true
  | [] => rfl
  | b :: bs => by
    rw [List.map_cons, List.countP_cons, List.count_cons, eqbt_count bs]; rfl
theorem mt_countB {X : Cx} {K : PySem.W.Frag} (hK : X.K = K := by rfl) : MtR X "list.count" (rCntB K) := by
  intro pins s σ H x xs v us Q I rx rxs h
  subst hK
  obtain ⟨p, bs, rfl, rfl, hs, q⟩ := h
  cases rx
  obtain ⟨u, rfl, ru⟩ := rxs.one
  cases ru
  obtain ⟨its, rv, ⟨⟨cls, dd, data, sl⟩, n, ho, hc, hdn, hd⟩, hlen⟩ := I.list hs
  simp only at hc hd
  subst hc hd
  have hi := Vals.bls rv
  subst hi
  refine call_meets PySem.F.slot_list_count ⟨_, ho, rfl⟩ PySem.F.entry_list_count (PySem.F.args_list_count_2 _ _)
    (SeqAt.list_countAt p (bs.map Value.bool).toArray n dd sl (.bool true) eqbt) ⟨ho, fun y hy => ?_, ?_⟩
  · have hy : y ∈ bs.map Value.bool := by simpa using hy
    obtain ⟨b, _, rfl⟩ := List.mem_map.mp hy
    exact SeqAt.EqAt.bool_bool b true
  · have ec : (bs.map Value.bool).toArray.toList.countP eqbt = bs.count true := eqbt_count bs
    refine ⟨.int (bs.count true : Nat), H, I.tok _, ⟨s.toks, ?_⟩, q⟩
    show Value.int (((bs.map Value.bool).toArray.toList.countP eqbt : Nat) : Int) s.toks = Value.int ((bs.count true : Nat) : Int) s.toks
    rw [ec]
end Af
namespace Af
open PySem PySem.Spec PyProof.Rows L2
def cntd (bs : List Bool) (n : Int) : Int := n / (bs.length : Int) * (bs.count true : Nat) + ((bs.take (n % (bs.length : Int)).toNat).count true : Nat)
section
variable {B : List (List Int)} {hi : Int} {S T : List Int × List Int} {k : Nat} {c m : Int}
theorem below_len (k : Nat) (l : List Int) : (below k l).length = l.length := List.length_map ..
theorem equals_len (k : Nat) (l : List Int) : (equals k l).length = l.length := List.length_map ..
theorem cnt_turns (G : GoodB B hi) (h : Ok B S) (hk : k ≤ B.length) {L : Nat} (hL : (L : Int) = 2 * manyN B) {n : Int} (hn : 0 ≤ n) : stepsM B S k n = cntd (below k ((List.range L).map (goI B S))) n := by
  unfold cntd
  rw [below_len, List.length_map, List.length_range]
  exact steps_counted G h hk hL hn
theorem cnt_goes (G : GoodB B hi) (h : Ok B S) (hk : k + 1 ≤ B.length) {L : Nat} (hL : (L : Int) = 2 * manyN B) {n : Int} (hn : 0 ≤ n) : stepsM B S (k + 1) n - stepsM B S k n = cntd (equals k ((List.range L).map (goI B S))) n := by
  rw [cnt_turns G h hk hL hn, cnt_turns G h (by omega) hL hn]
  unfold cntd
  rw [below_len, below_len, equals_len, equals_count]
  have e : ∀ r : Nat, (equals k ((List.range L).map (goI B S))).take r = equals k (((List.range L).map (goI B S)).take r) := fun r => by unfold equals; rw [List.map_take]
  have e2 : ∀ (k r : Nat), (below k ((List.range L).map (goI B S))).take r = below k (((List.range L).map (goI B S)).take r) := fun k r => by unfold below; rw [List.map_take]
  rw [e, e2, e2, equals_count, Int.mul_sub]
  omega
theorem rnd_goes (G : GoodB B hi) (h : Ok B S) (hk : k + 1 ≤ B.length) {L : Nat} (hL : (L : Int) = 2 * manyN B) : rndN B (k + 1) - rndN B k = ((equals k ((List.range L).map (goI B S))).count true : Nat) := by
  rw [equals_count, ← steps_count G h hk, ← steps_count G h (by omega), hL, steps_round G h, steps_round G h]
end
theorem eqB (g : Int) (k : Nat) : decide (V.int g = V.int (k : Int)) = decide (g = (k : Int)) := by
  by_cases h : g = (k : Int)
  · rw [decide_eq_true h, decide_eq_true (by rw [h])]
  · rw [decide_eq_false h, decide_eq_false (fun z => h (V.int.inj z))]
theorem pow63 {r : Int} (h0 : 0 ≤ r) (h : r ≤ 10 ^ 63) : r.natAbs < 2 ^ 4000 := by
  have h1 : ((10 : Int) ^ 63) < 2 ^ 220 := by decide +kernel
  have h2 : (2 : Int) ^ 220 = ((2 ^ 220 : Nat) : Int) := by decide +kernel
  have h3 : r.natAbs < 2 ^ 220 := by omega
  exact Nat.lt_of_lt_of_le h3 (Nat.pow_le_pow_right (by decide) (by decide))
theorem take_map_succ {α β : Type} (f : α → β) {l : List α} {i : Nat} {x : α} (e : l[i]? = some x) : (l.take (i + 1)).map f = (l.take i).map f ++ [f x] := by
  rw [List.take_add_one, e, List.map_append]; rfl
end Af
/-! ### sums of weights: the mathematics -/
namespace Af
/-- the weight of one climber's rung, of the older ones, of a standing -/
def wg (W : List (List Int)) (R : List Int) (i : Nat) : Int := wAt W i ((R[i]?.getD 0) - 1).toNat
def oldW (W : List (List Int)) (R : List Int) : Nat → Int
  | 0 => 1
  | i + 1 => oldW W R i * wg W R i
def wgt (B W : List (List Int)) (R : List Int) : Int := oldW W R B.length
def pasWN (B W : List (List Int)) (i : Nat) (l r f : Int) : Int := if f = 1 then rowF B W i (r - 1).toNat else rowF B W i l.toNat - rowF B W i r.toNat
def pasW (B W : List (List Int)) (R F : List Int) (i : Nat) : Int := oldW W R i * pasWN B W i ((lenAt B R i).getD 0) (R[i]?.getD 0) (F[i]?.getD 0)
/-- what sum_before adds up -/
def sbW (B W : List (List Int)) (R F : List Int) : Int := sumN (pasW B W R F) B.length
def qW (B W : List (List Int)) (R : List Int) (i : Nat) : Int := oldW W R i * (if i < B.length then rowF B W i ((lenAt B R i).getD 0).toNat else 1)
/-- the weights of all standings -/
def allW (B W : List (List Int)) : Int := yW B W 0
section
variable {B W : List (List Int)} {hi : Int} {R F : List Int}
theorem oldW_pre {R' : List Int} : ∀ {n : Nat}, (∀ i, i < n → R'[i]? = R[i]?) → oldW W R' n = oldW W R n
  | 0, _ => rfl
  | n + 1, h => by
    show oldW W R' n * wg W R' n = oldW W R n * wg W R n
    rw [oldW_pre fun i hi => h i (by omega)]
    unfold wg
    rw [h n (by omega)]
theorem rowF_zero (i : Nat) : rowF B W i 0 = 0 := rfl
theorem pasW_eq {i : Nat} {l r f : Int} (e1 : lenAt B R i = some l) (e2 : R[i]? = some r) (e3 : F[i]? = some f) : pasW B W R F i = oldW W R i * pasWN B W i l r f := by
  unfold pasW; rw [e1, e2, e3]; rfl
theorem qW_succ (S : StandsTo B R B.length) {i : Nat} {r : Int} (hi : i < B.length) (e : R[i]? = some r) : qW B W R (i + 1) = oldW W R i * (wAt W i (r - 1).toNat * yW (B.drop (i + 1)) (W.drop (i + 1)) (r - 1).toNat) := by
  have ew : wg W R i = wAt W i (r - 1).toNat := by unfold wg; rw [e]; rfl
  unfold qW
  show oldW W R i * wg W R i * _ = _
  rw [ew, Int.mul_assoc]
  congr 1
  congr 1
  by_cases h : i + 1 < B.length
  · rw [if_pos h]
    obtain ⟨n, _, e1, _⟩ := S (i + 1) h
    obtain ⟨row, r', g1, g2, g3, g4⟩ := lenAt_succ e1
    rw [e] at g2; cases g2
    rw [e1, yW_at g1 g4]; rfl
  · rw [if_neg h, List.drop_eq_nil_of_le (by omega)]; rfl
theorem pasW_blocked (h : OkP B R F) {i : Nat} (hi' : i < B.length) {l f : Int} (e1 : lenAt B R i = some l) (e3 : F[i]? = some f) (e2 : R[i]? = some (endR l f)) : pasW B W R F i = qW B W R i - qW B W R (i + 1) := by
  obtain ⟨l', r, g1, g2, r1, r2⟩ := h.st i hi'
  rw [e1] at g1; cases g1
  have er : r = endR l f := by rw [e2] at g2; exact (Option.some.inj g2).symm
  rw [qW_succ h.st hi' e2, pasW_eq e1 e2 e3]
  have eq : qW B W R i = oldW W R i * rowF B W i l.toNat := by unfold qW; rw [if_pos hi', e1]; rfl
  rw [eq, ← Int.mul_sub]
  congr 1
  unfold pasWN endR
  by_cases hf : f = 1
  · rw [if_pos hf, if_pos hf, show l.toNat = (l - 1).toNat + 1 by omega, rowF_succ]; omega
  · rw [if_neg hf, if_neg hf]
    show _ - rowF B W i 1 = _ - wAt W i 0 * yW (B.drop (i + 1)) (W.drop (i + 1)) 0
    rw [rowF_succ, rowF_zero]; omega
theorem pasW_away {i : Nat} {l f : Int} (e1 : lenAt B R i = some l) (hl : 1 ≤ l) (hf : f = 1 ∨ f = -1) (e3 : F[i]? = some (-f)) (e2 : R[i]? = some (endR l f)) : pasW B W R F i = 0 := by
  rw [pasW_eq e1 e2 e3]
  have : pasWN B W i l (endR l f) (-f) = 0 := by
    unfold pasWN endR
    rcases hf with rfl | rfl
    · rw [if_neg (by decide), if_pos rfl]; omega
    · rw [if_pos (by decide), if_neg (by decide)]; rfl
  rw [this, Int.mul_zero]
theorem qW_end : qW B W R B.length = wgt B W R := by
  unfold qW wgt
  rw [if_neg (by omega), Int.mul_one]
theorem qW_zero (G : GoodB B hi) : qW B W R 0 = allW B W := by
  obtain ⟨n, e⟩ := G.first
  have h0 : 0 < B.length := (List.getElem?_eq_some_iff.mp e).1
  have l0 : lenAt B R 0 = some n := by show ((B[0]?).bind fun row => row[0]?) = some n; rw [e]; rfl
  unfold qW allW
  rw [if_pos h0, l0]
  show 1 * rowF B W 0 n.toNat = _
  rw [Int.one_mul]
  have := yW_at (W := W) (k := 0) (j := 0) (n := n) e rfl
  rw [List.drop_zero, List.drop_zero] at this
  exact this.symm
/-- one beat on, somebody goes: the weight of the standing is added -/
theorem sbW_go (h : OkP B R F) {R' F' : List Int} {g : Nat} {l r f : Int} (q : Goes B R F R' F' g l r f) : sbW B W R' F' = sbW B W R F + wgt B W R := by
  have hg := q.lt
  have e1' : lenAt B R' g = some l := by rw [lenAt_pre fun i hi => (q.pre i hi).1]; exact q.e1
  have z1 : sumN (pasW B W R' F') B.length = sumN (pasW B W R' F') (g + 1) := sumN_zero (by omega) fun i h1 h2 => by
    obtain ⟨n, b, a1, a2, a3, _, a4, a5⟩ := q.aw i (by omega) h2
    exact pasW_away a1 a2 a3 a4 a5
  have z2 : sumN (pasW B W R F) B.length = sumN (pasW B W R F) (g + 1) + qW B W R (g + 1) - qW B W R B.length := sumN_tele (by omega) fun i h1 h2 => by
    obtain ⟨n, b, a1, a2, a3⟩ := q.bl i (by omega) h2
    exact pasW_blocked h h2 a1 a2 a3
  have z3 : sumN (pasW B W R' F') g = sumN (pasW B W R F) g := sumN_congr g fun i hi => by
    unfold pasW
    rw [(q.pre i hi).1, (q.pre i hi).2, lenAt_pre fun j hj => (q.pre j (by omega)).1, oldW_pre fun j hj => (q.pre j (by omega)).1]
  rw [qW_succ h.st hg q.e2, qW_end] at z2
  obtain ⟨l', r', k1, k2, r1, r2⟩ := h.st g hg
  rw [q.e1] at k1; cases k1
  rw [q.e2] at k2; cases k2
  have hf : f = 1 ∨ f = -1 := by
    obtain ⟨f', k3, k4⟩ := h.fc g hg
    rw [q.e3] at k3; cases k3; exact k4
  have z5 : pasW B W R' F' g = pasW B W R F g + oldW W R g * (wAt W g (r - 1).toNat * yW (B.drop (g + 1)) (W.drop (g + 1)) (r - 1).toNat) := by
    rw [pasW_eq q.e1 q.e2 q.e3, pasW_eq e1' q.g2 q.g3, oldW_pre fun j hj => (q.pre j hj).1, ← Int.mul_add]
    congr 1
    unfold pasWN
    rcases hf with rfl | rfl
    · rw [if_pos rfl, if_pos rfl, show (r + 1 - 1).toNat = (r - 1).toNat + 1 by omega, rowF_succ]
    · rw [if_neg (by decide), if_neg (by decide), show r.toNat = (r - 1).toNat + 1 by omega, rowF_succ, show (r + -1).toNat = (r - 1).toNat by omega]; omega
  unfold sbW
  rw [z1, z2]
  show sumN _ g + pasW B W R' F' g = sumN _ g + pasW B W R F g + _ - _ + _
  rw [z3, z5]; omega
/-- at the end of a half everything is behind -/
theorem sbW_stuck {S : List Int × List Int} (G : GoodB B hi) (h : Ok B S) (hm : moverO B S.1 S.2 = none) : sbW B W S.1 S.2 + wgt B W S.1 = allW B W := by
  have ht := sumN_tele (p := pasW B W S.1 S.2) (q := qW B W S.1) (a := 0) (b := B.length) (Nat.zero_le _) fun i _ hi => by
    obtain ⟨l, f, e1, e2, e3⟩ := stuck h hm i hi
    exact pasW_blocked h.whole hi e1 e2 e3
  unfold sbW
  rw [ht, qW_zero G, qW_end]
  have : sumN (pasW B W S.1 S.2) 0 = 0 := rfl
  omega
theorem sbW_start (h : OkP B R F) (a : AwayTo B R F B.length) : sbW B W R F = 0 := by
  unfold sbW
  rw [sumN_zero (a := 0) (Nat.zero_le _) fun i _ hi => ?_]; rfl
  obtain ⟨n, f, e1, e2, e3⟩ := a i hi
  obtain ⟨n', r, k1, k2, k3, k4⟩ := h.st i hi
  rw [e1] at k1; cases k1
  obtain ⟨f', k5, k6⟩ := h.fc i hi
  rw [e2] at k5; cases k5
  exact pasW_away (f := -f) e1 (by omega) (by omega) (by rw [Int.neg_neg]; exact e2) e3
end
section
variable {B W : List (List Int)} {hi : Int} {S T : List Int × List Int}
/-- the weights after 0, 1, .., n - 1 beats -/
def sumT (B W : List (List Int)) (S : List Int × List Int) (n : Nat) : Int := sumN (fun j => wgt B W (itB B j S).1) n
/-- in the first half, from the start on -/
theorem sumT_half (G : GoodB B hi) (h : Ok B T) (u : up T) (h0 : clk B T.1 T.2 = 0) : ∀ n : Nat, (n : Int) < manyN B → up (itB B n T) ∧ clockM B (itB B n T) = n ∧ sbW B W (itB B n T).1 (itB B n T).2 = sumT B W T n
  | 0, _ => ⟨u, by show clockM B T = 0; rw [clock_up u]; exact h0, sbW_start h.whole (away_start G h u h0)⟩
  | n + 1, hn => by
    obtain ⟨u1, c1, e1⟩ := sumT_half G h u h0 n (by omega)
    have oS := itB_ok G n h
    cases hm : moverO B (itB B n T).1 (itB B n T).2 with
    | none =>
      have := clk_stuck G oS hm
      rw [clock_up u1] at c1
      omega
    | some g =>
      obtain ⟨l, r, f, q⟩ := goes_of G oS hm
      have z := sbW_go (W := W) oS.whole q
      have cb := clock_beat G oS
      refine ⟨(beat_face0 G oS hm).trans u1, ?_, ?_⟩
      · show clockM B (beatM B (itB B n T)) = _
        rw [cb, c1, Int.emod_eq_of_lt (by omega) (by omega)]; omega
      · show sbW B W (beatM B (itB B n T)).1 (beatM B (itB B n T)).2 = sumT B W T n + wgt B W (itB B n T).1
        rw [← e1]; exact z
/-- a whole half holds all standings once -/
theorem sumT_all (G : GoodB B hi) (h : Ok B T) (u : up T) (h0 : clk B T.1 T.2 = 0) {N : Nat} (hN : (N : Int) = manyN B) : sumT B W T N = allW B W := by
  have hp := many_pos G
  obtain ⟨n, rfl⟩ : ∃ n, N = n + 1 := ⟨N - 1, by omega⟩
  obtain ⟨u1, c1, e1⟩ := sumT_half (W := W) G h u h0 n (by omega)
  have oS := itB_ok G n h
  cases hm : moverO B (itB B n T).1 (itB B n T).2 with
  | none =>
    have z := sbW_stuck (W := W) G oS hm
    show sumT B W T n + wgt B W (itB B n T).1 = _
    rw [← e1]; exact z
  | some g =>
    have u2 : up (beatM B (itB B n T)) := (beat_face0 G oS hm).trans u1
    have cb := clock_beat G oS
    have := up_clock G (beat_ok G oS) u2
    rw [cb, c1, Int.emod_eq_of_lt (by omega) (by omega)] at this
    omega
end
end Af
namespace Af
section
variable {B W : List (List Int)} {hi : Int} {S T : List Int × List Int}
theorem sumN_add (f : Nat → Int) (m : Nat) : ∀ n : Nat, sumN f (m + n) = sumN f m + sumN (fun j => f (m + j)) n
  | 0 => by show sumN f m = sumN f m + 0; omega
  | n + 1 => by
    show sumN f (m + n) + f (m + n) = sumN f m + (sumN (fun j => f (m + j)) n + f (m + n))
    rw [sumN_add f m n]; omega
theorem it_it (B : List (List Int)) (S : List Int × List Int) (m : Nat) : ∀ n : Nat, itB B n (itB B m S) = itB B (m + n) S
  | 0 => rfl
  | n + 1 => by
    show beatM B (itB B n (itB B m S)) = beatM B (itB B (m + n) S)
    rw [it_it B S m n]
/-- beats go on -/
theorem sumT_add (m n : Nat) : sumT B W S (m + n) = sumT B W S m + sumT B W (itB B m S) n := by
  unfold sumT
  rw [sumN_add]
  congr 1
  exact sumN_congr n fun j _ => by rw [it_it]
theorem sumN_rev (f : Nat → Int) : ∀ n : Nat, sumN (fun j => f (n - 1 - j)) n = sumN f n
  | 0 => rfl
  | n + 1 => by
    have e := sumN_add (fun j => f (n + 1 - 1 - j)) 1 n
    rw [Nat.add_comm 1 n] at e
    rw [e]
    have h1 : sumN (fun j => f (n + 1 - 1 - j)) 1 = f n := by show 0 + f (n + 1 - 1 - 0) = f n; rw [Int.zero_add]; rfl
    have h2 : sumN (fun j => f (n + 1 - 1 - (1 + j))) n = sumN f n := by
      rw [← sumN_rev f n]
      exact sumN_congr n fun j hj => by rw [show n + 1 - 1 - (1 + j) = n - 1 - j by omega]
    rw [h1, h2]
    show _ = sumN f n + f n
    omega
/-- the second half is the first one backwards -/
theorem it_mirror (G : GoodB B hi) (h : Ok B T) (c0 : clockM B T = 0) {L j : Nat} (hL : (L : Int) = 2 * manyN B) (hj : j < L) : itB B (L - 1 - j) T = negS (itB B j T) := by
  have o1 := itB_ok G j h
  have hN := many_pos G
  refine uniq G (itB_ok G _ h) o1.neg ?_ ?_
  · rw [clock_it G h, clock_neg G o1, clock_it G h, c0, Int.zero_add, Int.zero_add, Int.emod_eq_of_lt (by omega) (by omega), Int.emod_eq_of_lt (by omega) (by omega)]; omega
  · rw [signs_it G h, signs_neg G o1, signs_it G h]
theorem sumT_mirror (G : GoodB B hi) (h : Ok B T) (u : up T) (h0 : clk B T.1 T.2 = 0) {N r : Nat} (hN : (N : Int) = manyN B) (hr : r ≤ N) : sumT B W T (2 * N - r) = 2 * allW B W - sumT B W T r := by
  have hp := many_pos G
  have c0 : clockM B T = 0 := by rw [clock_up u]; exact h0
  have wm : ∀ j, j < 2 * N → wgt B W (itB B (2 * N - 1 - j) T).1 = wgt B W (itB B j T).1 := fun j hj => by
    rw [it_mirror G h c0 (L := 2 * N) (by omega) hj]; rfl
  have half : ∀ n : Nat, n ≤ N → sumN (fun j => wgt B W (itB B (2 * N - n + j) T).1) n = sumT B W T n := fun n hn => by
    rw [← sumN_rev]
    unfold sumT
    exact sumN_congr n fun j hj => by
      have := wm j (by omega)
      rw [show 2 * N - n + (n - 1 - j) = 2 * N - 1 - j by omega]; exact this
  have all := sumT_all (W := W) G h u h0 hN
  have e1 : sumT B W T (2 * N) = 2 * allW B W := by
    have a := sumN_add (fun j => wgt B W (itB B j T).1) N N
    have b := half N (Nat.le_refl _)
    rw [show 2 * N - N = N by omega] at b
    show sumN _ (2 * N) = _
    rw [show 2 * N = N + N by omega, a, b]
    have : sumN (fun j => wgt B W (itB B j T).1) N = allW B W := all
    rw [this, all]; omega
  have e2 := sumN_add (fun j => wgt B W (itB B j T).1) (2 * N - r) r
  rw [show 2 * N - r + r = 2 * N by omega, half r hr] at e2
  have e3 : sumN (fun j => wgt B W (itB B j T).1) (2 * N) = 2 * allW B W := e1
  show sumN _ (2 * N - r) = _
  omega
theorem sumT_round (G : GoodB B hi) (h : Ok B T) (u : up T) (h0 : clk B T.1 T.2 = 0) {N : Nat} (hN : (N : Int) = manyN B) : ∀ q r : Nat, sumT B W T (2 * N * q + r) = q * (2 * allW B W) + sumT B W T r
  | 0, r => by
    have : 2 * N * 0 + r = r := by omega
    rw [this]
    simp
  | q + 1, r => by
    have ih := sumT_round G h u h0 hN q r
    have er : itB B (2 * N) T = T := it_round G h (by omega)
    have m0 := sumT_mirror (W := W) (r := 0) G h u h0 hN (Nat.zero_le _)
    have z0 : sumT B W T 0 = 0 := rfl
    rw [Nat.sub_zero, z0] at m0
    rw [show 2 * N * (q + 1) + r = 2 * N + (2 * N * q + r) by rw [Nat.mul_add]; omega, sumT_add, er, ih, m0]
    have : ((q + 1 : Nat) : Int) * (2 * allW B W) = (q : Int) * (2 * allW B W) + 2 * allW B W := by
      rw [show ((q + 1 : Nat) : Int) = (q : Int) + 1 by omega, Int.add_mul, Int.one_mul]
    omega
end
end Af
/-! ### weights that a function of climber and rung gives -/
namespace Af
open PySem PySem.Spec PyProof.Rows L2
def funW (B : List (List Int)) (g : Nat → Int → Int) : List (List Int) := (List.range B.length).map fun i => (List.range (mxR (B[i]?.getD [])).toNat).map fun j => g i ((j : Nat) + 1 : Int)
def prodN (f : Nat → Int) : Nat → Int
  | 0 => 1
  | n + 1 => prodN f n * f n
theorem prodN_congr {f g : Nat → Int} : ∀ n, (∀ i, i < n → f i = g i) → prodN f n = prodN g n
  | 0, _ => rfl
  | n + 1, h => by
    show prodN f n * f n = prodN g n * g n
    rw [prodN_congr n fun i hi => h i (by omega), h n (by omega)]
theorem funW_len (B : List (List Int)) (g : Nat → Int → Int) : (funW B g).length = B.length := by unfold funW; rw [List.length_map, List.length_range]
theorem funW_get {B : List (List Int)} {g : Nat → Int → Int} {k : Nat} {row : List Int} (e : B[k]? = some row) : (funW B g)[k]? = some ((List.range (mxR row).toNat).map fun j => g k ((j : Nat) + 1 : Int)) := by
  have hk : k < B.length := (List.getElem?_eq_some_iff.mp e).1
  unfold funW
  rw [List.getElem?_map, List.getElem?_range hk]
  show some ((List.range (mxR (B[k]?.getD [])).toNat).map fun j => g k ((j : Nat) + 1 : Int)) = _
  rw [e]; rfl
theorem wAt_fun {B : List (List Int)} {g : Nat → Int → Int} {k j : Nat} {row : List Int} (e : B[k]? = some row) (h : j < (mxR row).toNat) : wAt (funW B g) k j = g k ((j : Nat) + 1 : Int) :=
  wAt_get (funW_get e) (by rw [List.getElem?_map, List.getElem?_range h]; rfl)
theorem ones_fun (B : List (List Int)) : onesW B = funW B fun _ _ => 1 := by
  apply List.ext_getElem?
  intro i
  cases e : B[i]? with
  | none =>
    have h := List.getElem?_eq_none_iff.mp e
    rw [List.getElem?_eq_none (by rw [onesW_len]; exact h), List.getElem?_eq_none (by rw [funW_len]; exact h)]
  | some row =>
    rw [onesW_get e, funW_get e]
    congr 1
    apply List.ext_getElem?
    intro j
    by_cases hj : j < (mxR row).toNat
    · rw [List.getElem?_replicate, if_pos hj, List.getElem?_map, List.getElem?_range hj]; rfl
    · rw [List.getElem?_replicate, if_neg hj, List.getElem?_eq_none (by rw [List.length_map, List.length_range]; omega)]
theorem fun_set {B : List (List Int)} {g : Nat → Int → Int} {c : Nat} {row : List Int} {h : Int → Int} (e : B[c]? = some row) : (funW B g).set c ((List.range (mxR row).toNat).map fun j => h ((j : Nat) + 1 : Int)) = funW B fun i r => if i = c then h r else g i r := by
  have hc : c < B.length := (List.getElem?_eq_some_iff.mp e).1
  apply List.ext_getElem?
  intro i
  by_cases hi : i = c
  · subst hi
    rw [List.getElem?_set_self (by rw [funW_len]; exact hc), funW_get e]
    congr 1
    apply List.map_congr_left
    intro j _
    rw [if_pos rfl]
  · rw [List.getElem?_set_ne (fun z => hi z.symm)]
    cases e : B[i]? with
    | none =>
      have h := List.getElem?_eq_none_iff.mp e
      rw [List.getElem?_eq_none (by rw [funW_len]; exact h), List.getElem?_eq_none (by rw [funW_len]; exact h)]
    | some r =>
      rw [funW_get e, funW_get e]
      congr 1
      apply List.map_congr_left
      intro j _
      rw [if_neg hi]
theorem wok_fun {B : List (List Int)} {g : Nat → Int → Int} {hi : Int} (G : Tabs B hi) (hg : ∀ i r, 1 ≤ r → r ≤ hi → -(2 ^ 64) < g i r ∧ g i r < 2 ^ 64) : WOk B (funW B g) := by
  refine ⟨funW_len B g, fun k row e => ⟨_, funW_get e, ?_, fun x hx => ?_⟩⟩
  · have hr := G.full row (List.mem_of_getElem? e)
    have := (G.pos row (List.mem_of_getElem? e) _ (mxR_mem hr)).1
    rw [List.length_map, List.length_range]; omega
  · obtain ⟨j, hj, rfl⟩ := List.mem_map.mp hx
    have hr := G.full row (List.mem_of_getElem? e)
    have := (G.pos row (List.mem_of_getElem? e) _ (mxR_mem hr)).2
    have := List.mem_range.mp hj
    exact hg _ _ (by omega) (by omega)
theorem wg_fun {B : List (List Int)} {g : Nat → Int → Int} {R : List Int} {n i : Nat} (S : StandsTo B R n) (hi : i < n) : wg (funW B g) R i = g i (R[i]?.getD 0) := by
  obtain ⟨l, r, e1, e2, e3, e4⟩ := S i hi
  obtain ⟨row, k1, k2⟩ := len_mem e1
  have := mxR_ge k2
  unfold wg
  rw [e2]
  show wAt (funW B g) i (r - 1).toNat = g i r
  rw [wAt_fun k1 (by omega)]
  congr 1
  omega
theorem old_fun {B : List (List Int)} {g : Nat → Int → Int} {R : List Int} : ∀ n : Nat, StandsTo B R n → oldW (funW B g) R n = prodN (fun i => g i (R[i]?.getD 0)) n
  | 0, _ => rfl
  | n + 1, S => by
    show oldW (funW B g) R n * wg (funW B g) R n = _
    rw [old_fun n fun c hc => S c (by omega), wg_fun S (by omega)]; rfl
theorem wgt_fun {B : List (List Int)} {g : Nat → Int → Int} {R : List Int} (S : Stands B R) : wgt B (funW B g) R = prodN (fun i => g i (R[i]?.getD 0)) B.length := old_fun _ S.all
theorem prod_one {f : Nat → Int} : ∀ n : Nat, (∀ i, i < n → f i = 1) → prodN f n = 1
  | 0, _ => rfl
  | n + 1, h => by
    show prodN f n * f n = 1
    rw [prod_one n fun i hi => h i (by omega), h n (by omega)]; rfl
theorem prod_at {f : Nat → Int} {c : Nat} : ∀ n : Nat, c < n → (∀ i, i < n → i ≠ c → f i = 1) → prodN f n = f c
  | 0, h, _ => by omega
  | n + 1, h, k => by
    show prodN f n * f n = f c
    by_cases e : c = n
    · subst e
      rw [prod_one c fun i hi => k i (by omega) (by omega), Int.one_mul]
    · rw [prod_at n (by omega) fun i hi => k i (by omega), k n (by omega) (fun z => e z.symm), Int.mul_one]
theorem prod_bit {p : Nat → Bool} : ∀ n : Nat, prodN (fun i => if p i then 1 else 0) n = if (List.range n).all p then 1 else 0
  | 0 => rfl
  | n + 1 => by
    show prodN (fun i => if p i then 1 else 0) n * (if p n then 1 else 0) = _
    rw [prod_bit n, List.range_succ, List.all_append]
    cases (List.range n).all p <;> cases h : p n <;> simp [h]
/-- weights by which a rung of one climber counts -/
def rungW (B : List (List Int)) (c : Nat) : List (List Int) := funW B fun i r => if i = c then r else 1
theorem wok_rung {B : List (List Int)} {hi : Int} (G : Tabs B hi) (h : hi ≤ 100) (c : Nat) : WOk B (rungW B c) := wok_fun G fun i r h1 h2 => by split <;> omega
theorem wgt_rung {B : List (List Int)} {R : List Int} {c : Nat} (S : Stands B R) (hc : c < B.length) : wgt B (rungW B c) R = R[c]?.getD 0 := by
  unfold rungW
  rw [wgt_fun S, prod_at (c := c) _ hc fun i hi hne => if_neg hne, if_pos rfl]
theorem wgt_ones {B : List (List Int)} {R : List Int} (S : Stands B R) : wgt B (onesW B) R = 1 := by
  rw [ones_fun, wgt_fun S, prod_one _ fun _ _ => rfl]
/-- the weights of a wish -/
def meetI (o : Option Int) (r : Int) : Bool := match o with
  | none => true
  | some n => n == r
def wishW (B : List (List Int)) (w : List (Option Int)) : List (List Int) := funW B fun i r => if meetI (w[i]?.getD none) r then 1 else 0
def meets (w : List (Option Int)) (R : List Int) (n : Nat) : Bool := (List.range n).all fun i => meetI (w[i]?.getD none) (R[i]?.getD 0)
theorem wok_wish {B : List (List Int)} {hi : Int} (G : Tabs B hi) (w : List (Option Int)) : WOk B (wishW B w) := wok_fun G fun i r h1 h2 => by split <;> decide
theorem wgt_wish {B : List (List Int)} {R : List Int} {w : List (Option Int)} (S : Stands B R) : wgt B (wishW B w) R = if meets w R B.length then 1 else 0 := by
  unfold wishW meets
  rw [wgt_fun S, prod_bit]
/-! all standings of a book with weights -/
theorem sumT_full {B W : List (List Int)} {hi : Int} {S : List Int × List Int} (G : GoodB B hi) (h : Ok B S) {L : Nat} (hL : (L : Int) = 2 * manyN B) : sumT B W S L = 2 * allW B W := by
  have hN := many_pos G
  have r := clock_rg G h
  have oT := aft_ok (c := 0 - clockM B S) G h
  have cT := aft_clock (c := 0 - clockM B S) G h
  have gT := aft_signs (c := 0 - clockM B S) G h
  rw [show clockM B S + (0 - clockM B S) = 0 by omega, Int.zero_emod] at cT
  have u := clock_lt_up G oT (by omega)
  generalize aftM B S (0 - clockM B S) = T at oT cT gT u
  have h0 : clk B T.1 T.2 = 0 := by rw [clock_up u] at cT; exact cT
  obtain ⟨c, hc⟩ : ∃ c : Nat, (c : Int) = clockM B S := ⟨(clockM B S).toNat, by omega⟩
  have eS : S = itB B c T := it_of G oT h (by rw [cT, Int.zero_add, hc, Int.emod_eq_of_lt r.1 r.2]) gT.symm
  obtain ⟨N, hNn⟩ : ∃ N : Nat, (N : Int) = manyN B := ⟨(manyN B).toNat, by omega⟩
  have eL : L = 2 * N := by omega
  have e1 := sumT_add (B := B) (W := W) (S := T) c L
  rw [← eS, Nat.add_comm c L] at e1
  have e2 := sumT_round (W := W) G oT u h0 hNn 1 c
  rw [Nat.mul_one, ← eL] at e2
  have e3 : ((1 : Nat) : Int) * (2 * allW B W) = 2 * allW B W := by omega
  omega
end Af
/-! ### the youngest climber's ladder has always the same length -/
namespace Af
open PySem PySem.Spec PyProof.Rows L2
theorem sumN_cmul (c : Int) (f : Nat → Int) : ∀ n : Nat, sumN (fun j => c * f j) n = c * sumN f n
  | 0 => by show (0 : Int) = c * 0; rw [Int.mul_zero]
  | n + 1 => by
    show sumN (fun j => c * f j) n + c * f n = c * (sumN f n + f n)
    rw [sumN_cmul c f n, Int.mul_add]
theorem sumN_one : ∀ n : Nat, sumN (fun _ => (1 : Int)) n = (n : Int)
  | 0 => rfl
  | n + 1 => by
    show sumN (fun _ => (1 : Int)) n + 1 = _
    rw [sumN_one n]; omega
/-- how far the youngest is on the ladder -/
def dgt (L r f : Int) : Int := if f = 1 then r - 1 else L - r
section
variable {B : List (List Int)} {hi : Int} {k w : Nat} {L : Int}
theorem cnt_cst (G : GoodB B hi) (hk : B.length = k + 1) (eL : B[k]? = some (List.replicate w L)) : ∀ (d i : Nat), k - i = d → i ≤ k → ∀ j : Nat, (∀ row, B[i]? = some row → j < row.length) → cnt (B.drop i) j = L * cnt ((B.take k).drop i) j
  | 0, i, hd, hi', j, hj => by
    obtain rfl : i = k := by omega
    have hj := hj _ eL
    rw [List.length_replicate] at hj
    have e1 : B.drop i = List.replicate w L :: B.drop (i + 1) := drop_cons eL
    rw [e1, List.drop_eq_nil_of_le (show B.length ≤ i + 1 by omega), List.drop_eq_nil_of_le (show (B.take i).length ≤ i by rw [List.length_take]; omega)]
    have hL := (G.pos _ (List.mem_of_getElem? eL) L (by rw [List.mem_replicate]; exact ⟨by omega, rfl⟩)).1
    show sumN (fun _ => (1 : Int)) ((List.replicate w L)[j]?.getD 0).toNat = L * 1
    rw [List.getElem?_replicate, if_pos hj, sumN_one]
    show ((L.toNat : Nat) : Int) = _
    omega
  | d + 1, i, hd, hi', j, hj => by
    have hik : i < k := by omega
    have eB : B[i]? = some B[i] := List.getElem?_eq_getElem (by omega)
    have eA : (B.take k)[i]? = some B[i] := by rw [List.getElem?_take_of_lt hik]; exact eB
    generalize B[i] = row at eB eA
    rw [drop_cons eB, drop_cons eA]
    have hj := hj _ eB
    show sumN (cnt (B.drop (i + 1))) (row[j]?.getD 0).toNat = L * sumN (cnt ((B.take k).drop (i + 1))) (row[j]?.getD 0).toNat
    rw [← sumN_cmul]
    refine sumN_congr _ fun j' hj' => cnt_cst G hk eL d (i + 1) (by omega) (by omega) j' fun row2 e2 => ?_
    have hm := (mem_wide G eB (n := row[j]) (List.getElem_mem hj)).2 row2 e2
    rw [List.getElem?_eq_getElem hj] at hj'
    exact Nat.lt_of_lt_of_le hj' hm
theorem many_cst (G : GoodB B hi) (hk : B.length = k + 1) (eL : B[k]? = some (List.replicate w L)) : manyN B = L * manyN (B.take k) := by
  have := cnt_cst G hk eL k 0 (by omega) (by omega) 0 fun row e => by
    have := G.full row (List.mem_of_getElem? e)
    exact List.length_pos_iff.mpr this
  rw [List.drop_zero, List.drop_zero] at this
  exact this
theorem row_cst (G : GoodB B hi) (hk : B.length = k + 1) (eL : B[k]? = some (List.replicate w L)) {i : Nat} {R : List Int} {l : Int} (hik : i < k) (e : lenAt B R i = some l) {m : Nat} (hm : m ≤ l.toNat) : rowN B i m = L * rowN (B.take k) i m := by
  unfold rowN
  rw [← sumN_cmul]
  refine sumN_congr _ fun j hj => cnt_cst G hk eL (k - (i + 1)) (i + 1) rfl (by omega) j fun row2 e2 => ?_
  obtain ⟨row, e1, hmem⟩ := len_mem e
  have := (mem_wide G e1 hmem).2 row2 e2
  omega
theorem len_cst (hk : B.length = k + 1) (eL : B[k]? = some (List.replicate w L)) {R : List Int} {l : Int} (e : lenAt B R k = some l) : l = L := by
  obtain ⟨row, e1, hm⟩ := len_mem e
  rw [eL] at e1
  cases e1
  exact (List.mem_replicate.mp hm).2
theorem clk_cst (G : GoodB B hi) (hk : B.length = k + 1) (eL : B[k]? = some (List.replicate w L)) {R F : List Int} (h : OkP B R F) : clk B R F = L * clk (B.take k) R F + dgt L (R[k]?.getD 0) (F[k]?.getD 0) := by
  unfold clk
  rw [hk]
  show sumN (pas B R F) k + pas B R F k = _
  have hl : (B.take k).length = k := by rw [List.length_take]; omega
  rw [hl, ← sumN_cmul]
  congr 1
  · refine sumN_congr _ fun i hi' => ?_
    obtain ⟨l, r, e1, e2, h1, h2⟩ := h.st i (by omega)
    unfold pas
    rw [e1, lenAt_take hi', e1, e2]
    show pasN B i l r _ = L * pasN (B.take k) i l r _
    unfold pasN
    split
    · exact row_cst G hk eL hi' e1 (by omega)
    · rw [row_cst G hk eL hi' e1 (Nat.le_refl _), row_cst G hk eL hi' e1 (show r.toNat ≤ l.toNat by omega), Int.mul_sub]
  · obtain ⟨l, r, e1, e2, h1, h2⟩ := h.st k (by omega)
    obtain rfl := len_cst hk eL e1
    unfold pas
    rw [e1, e2]
    show pasN B k l r _ = dgt l r _
    have rw1 : ∀ m : Nat, rowN B k m = (m : Int) := fun m => by
      unfold rowN
      rw [List.drop_eq_nil_of_le (by omega)]
      exact sumN_one m
    unfold pasN dgt
    split
    · rw [rw1]; omega
    · rw [rw1, rw1]; omega
theorem dgt_neg {l r f : Int} (hf : f = 1 ∨ f = -1) : dgt l r (-f) = l - 1 - dgt l r f := by
  unfold dgt
  rcases hf with rfl | rfl
  · rw [if_neg (by decide), if_pos rfl]; omega
  · rw [if_pos (by decide), if_neg (by decide)]; omega
theorem clock_cst {S : List Int × List Int} (G : GoodB B hi) (hk : B.length = k + 1) (h1 : 1 ≤ k) (eL : B[k]? = some (List.replicate w L)) (h : Ok B S) {r f : Int} (er : S.1[k]? = some r) (ef : S.2[k]? = some f) :
    clockM B S = L * clockM (B.take k) (parS k S) + dgt L r f ∧ 0 ≤ dgt L r f ∧ dgt L r f < L := by
  have hf : f = 1 ∨ f = -1 := h.fo f (List.mem_of_getElem? ef)
  obtain ⟨l, r', e1, e2, b1, b2⟩ := h.st.all k (by omega)
  obtain rfl := len_cst hk eL e1
  rw [er] at e2
  cases e2
  refine ⟨?_, ?_, ?_⟩
  · have eN := many_cst G hk eL
    have c1 := clk_cst G hk eL h.whole
    have c2 := clk_cst G hk eL h.neg.whole
    have en : (negS S).2[k]? = some (-f) := by
      show (negL S.2)[k]? = _
      unfold negL
      rw [List.getElem?_map, ef]; rfl
    rw [er, ef] at c1
    rw [show (negS S).1[k]? = some r from er, en] at c2
    have c1 : clk B S.1 S.2 = l * clk (B.take k) S.1 S.2 + dgt l r f := c1
    have c2 : clk B (negS S).1 (negS S).2 = l * clk (B.take k) (negS S).1 (negS S).2 + dgt l r (-f) := c2
    have p1 : clk (B.take k) (parS k S).1 (parS k S).2 = clk (B.take k) S.1 S.2 := clk_par
    have p2 : clk (B.take k) (negS (parS k S)).1 (negS (parS k S)).2 = clk (B.take k) (negS S).1 (negS S).2 := by
      rw [← parS_neg]; exact clk_par
    unfold clockM
    rw [up_par h1, p1, p2]
    by_cases z : S.2[0]?.getD 0 = 1
    · rw [if_pos z, if_pos z]; exact c1
    · rw [if_neg z, if_neg z, c2, dgt_neg hf, eN, Int.mul_sub, Int.mul_sub, Int.mul_one, Int.mul_left_comm]
      generalize l * (manyN (B.take k)) = x
      generalize l * clk (B.take k) (negS S).1 (negS S).2 = y
      omega
  · unfold dgt; split <;> omega
  · unfold dgt; split <;> omega
theorem steps_cst {S : List Int × List Int} (G : GoodB B hi) (hk : B.length = k + 1) (h1 : 1 ≤ k) (eL : B[k]? = some (List.replicate w L)) (h : Ok B S) (m : Int) : stepsM B S k m = (clockM B S + m) / L - clockM B S / L := by
  have one : ∀ {T : List Int × List Int} {c : Int}, Ok B T → clockM B T = c % (2 * manyN B) → stp B k T c = c / L := fun {T c} hT hc => by
    have hlen := hT.st.len
    have hfl := hT.fl
    have er : T.1[k]? = some T.1[k] := List.getElem?_eq_getElem (by omega)
    have ef : T.2[k]? = some T.2[k] := List.getElem?_eq_getElem (by omega)
    obtain ⟨e, d0, d1⟩ := clock_cst G hk h1 eL hT er ef
    have eN := many_cst G hk eL
    have hL : 0 < L := by omega
    unfold stp
    rw [if_neg (by omega)]
    generalize dgt L T.1[k] T.2[k] = d at e d0 d1
    generalize clockM (B.take k) (parS k T) = x at e
    have hc2 := Int.mul_ediv_add_emod c (2 * manyN B)
    rw [← hc, e, eN] at hc2
    rw [eN]
    generalize c / (2 * (L * manyN (B.take k))) = q at hc2
    generalize manyN (B.take k) = N at hc2
    have : c = L * (q * (2 * N) + x) + d := by
      rw [← hc2, Int.mul_add, Int.mul_left_comm 2 L N, Int.mul_assoc L (2 * N) q, Int.mul_comm (2 * N) q]; omega
    have e9 : (L * (q * (2 * N) + x) + d) / L = q * (2 * N) + x := by
      rw [Int.add_comm (L * (q * (2 * N) + x)) d, Int.add_mul_ediv_left _ _ (by omega), Int.ediv_eq_zero_of_lt d0 d1, Int.zero_add]
    rw [this, e9]
  unfold stepsM
  have r := clock_rg G h
  rw [one (aft_ok G h) (aft_clock G h), one h (by rw [Int.emod_eq_of_lt r.1 r.2])]
theorem face_sign {S : List Int × List Int} (G : GoodB B hi) (hk : B.length = k + 1) (h1 : 1 ≤ k) (h : Ok B S) {f : Int} (ef : S.2[k]? = some f) : (signsM B S)[k - 1]? = some (flip (clockM (B.take k) (parS k S)) f) := by
  have hi' : k - 1 < B.length - 1 := by omega
  have ek : k - 1 + 1 = k := by omega
  have p1 : clk (B.take k) (parS k S).1 (parS k S).2 = clk (B.take k) S.1 S.2 := clk_par
  have p2 : clk (B.take k) (negS (parS k S)).1 (negS (parS k S)).2 = clk (B.take k) (negS S).1 (negS S).2 := by
    rw [← parS_neg]; exact clk_par
  unfold signsM
  rw [sg_get hi']
  unfold sgn clockM
  rw [up_par h1, p1, p2, ek]
  unfold upB
  by_cases z : S.2[0]?.getD 0 = 1
  · rw [if_pos z, if_pos z, ef]; rfl
  · rw [if_neg z, if_neg z]
    have en : (negS S).2[k]? = some (-f) := by
      show (negL S.2)[k]? = _
      unfold negL
      rw [List.getElem?_map, ef]; rfl
    rw [en]
    show some (flip (clk (B.take k) (negS S).1 (negS S).2) (-f)) = _
    generalize clk (B.take k) (negS S).1 (negS S).2 = x
    generalize manyN (B.take k) = N
    congr 1
    unfold flip
    by_cases y : x % 2 = 1
    · rw [if_pos y, if_neg (by omega)]; omega
    · rw [if_neg y, if_pos (by omega)]
theorem flip_mod (c N f : Int) : flip (c % (2 * N)) f = flip c f := by
  unfold flip
  rw [show c % (2 * N) % 2 = c % 2 from Int.emod_emod_of_dvd c ⟨N, rfl⟩]
/-- a further climber, on a ladder that is always so long -/
theorem good_cst {A : List (List Int)} {hi : Int} (G : GoodB A hi) {row : List Int} (eA : A[A.length - 1]? = some row) (h1 : 1 ≤ A.length) {L : Int} (l1 : 1 ≤ L) (l2 : L ≤ hi) : GoodB (A ++ [List.replicate (mxR row).toNat L]) hi := by
  have hne := G.full row (List.mem_of_getElem? eA)
  cases row with
  | nil => exact absurd rfl hne
  | cons n ns =>
    have e : A = A.take (A.length - 1) ++ [n :: ns] := by
      have e1 := List.take_append_drop (A.length - 1) A
      rw [drop_cons eA, List.drop_eq_nil_of_le (show A.length ≤ A.length - 1 + 1 by omega)] at e1
      exact e1.symm
    rw [e] at G ⊢
    have n1 := (G.pos (n :: ns) (by simp) n List.mem_cons_self).1
    have m1 := (foldl_max_ge ns n).1
    refine good_snoc G ?_ fun x hx => ?_
    · rw [List.length_replicate]
      show (((ns.foldl max n).toNat : Nat) : Int) = _
      omega
    · rw [(List.mem_replicate.mp hx).2]; exact ⟨l1, l2⟩
end
end Af
/-! ### all standings of a book, in their order; their weights -/
namespace Af
open PySem PySem.Spec PyProof.Rows L2
/-- the standings of the i eldest -/
def extS (B : List (List Int)) (i : Nat) (R : List Int) : List (List Int) := (List.range ((lenAt B R i).getD 0).toNat).map fun j => R ++ [((j : Nat) + 1 : Int)]
def stnN (B : List (List Int)) : Nat → List (List Int)
  | 0 => [[]]
  | i + 1 => (stnN B i).flatMap (extS B i)
def stnL (B : List (List Int)) : List (List Int) := stnN B B.length
section
variable {B W : List (List Int)} {hi : Int}
theorem stn_ok (G : GoodB B hi) : ∀ i : Nat, i ≤ B.length → ∀ R ∈ stnN B i, R.length = i ∧ StandsTo B R i
  | 0, _, R, h => by
    obtain rfl : R = [] := List.mem_singleton.mp h
    exact ⟨rfl, fun c hc => absurd hc (Nat.not_lt_zero c)⟩
  | i + 1, hi', R, h => by
    obtain ⟨R0, h0, h1⟩ := List.mem_flatMap.mp h
    obtain ⟨e0, s0⟩ := stn_ok G i (by omega) R0 h0
    obtain ⟨j, hj, rfl⟩ := List.mem_map.mp h1
    obtain ⟨n, e1, e2, e3⟩ := len_ex G hi' s0
    rw [e1] at hj
    have hj : j < n.toNat := List.mem_range.mp hj
    refine ⟨by rw [List.length_append, e0]; rfl, ?_⟩
    have := stands_snoc (x := ((j : Nat) + 1 : Int)) (by rw [e0]; exact s0) (by rw [e0]; exact e1) (by omega) (by omega)
    rwa [e0] at this
theorem stn_stands (G : GoodB B hi) {R : List Int} (h : R ∈ stnL B) : Stands B R := by
  obtain ⟨h1, h2⟩ := stn_ok G B.length (Nat.le_refl _) R h
  exact ⟨h1, h2⟩
theorem sum_flatMap {α β : Type} (g : β → Int) (f : α → List β) : ∀ l : List α, ((l.flatMap f).map g).sum = (l.map fun a => ((f a).map g).sum).sum
  | [] => rfl
  | a :: l => by
    rw [List.flatMap_cons, List.map_append, List.sum_append, sum_flatMap g f l, List.map_cons, List.sum_cons]
theorem sum_rangeN (f : Nat → Int) : ∀ n : Nat, ((List.range n).map f).sum = sumN f n
  | 0 => rfl
  | n + 1 => by
    rw [List.range_succ, List.map_append, List.sum_append, sum_rangeN f n]
    show _ + (f n + 0) = sumN f n + f n
    omega
theorem sumN_mul (c : Int) (f : Nat → Int) : ∀ n : Nat, sumN (fun j => c * f j) n = c * sumN f n
  | 0 => by show (0 : Int) = c * 0; rw [Int.mul_zero]
  | n + 1 => by
    show sumN (fun j => c * f j) n + c * f n = c * (sumN f n + f n)
    rw [sumN_mul c f n, Int.mul_add]
/-- one climber more -/
theorem qW_ext (G : GoodB B hi) {R : List Int} {i : Nat} (hi' : i < B.length) (h1 : R.length = i) (h2 : StandsTo B R i) : ((extS B i R).map fun S => qW B W S (i + 1)).sum = qW B W R i := by
  obtain ⟨n, e1, e2, e3⟩ := len_ex G hi' h2
  unfold extS
  rw [e1, List.map_map, sum_rangeN]
  have eq : qW B W R i = oldW W R i * rowF B W i n.toNat := by unfold qW; rw [if_pos hi', e1]; rfl
  rw [eq]
  unfold rowF
  rw [← sumN_mul]
  refine sumN_congr _ fun j hj => ?_
  have hj : j < n.toNat := hj
  have pre : ∀ c, c < i → (R ++ [((j : Nat) + 1 : Int)])[c]? = R[c]? := fun c hc => List.getElem?_append_left (by omega)
  have atR : (R ++ [((j : Nat) + 1 : Int)])[i]? = some ((j : Nat) + 1 : Int) := by rw [← h1]; simp
  have ew : wg W (R ++ [((j : Nat) + 1 : Int)]) i = wAt W i j := by
    unfold wg; rw [atR]; show wAt W i (((j : Nat) + 1 : Int) - 1).toNat = _
    rw [show (((j : Nat) + 1 : Int) - 1).toNat = j by omega]
  show oldW W (R ++ [((j : Nat) + 1 : Int)]) i * wg W (R ++ [((j : Nat) + 1 : Int)]) i * _ = _
  rw [oldW_pre pre, ew, Int.mul_assoc]
  congr 1
  congr 1
  by_cases h : i + 1 < B.length
  · rw [if_pos h]
    have st' : StandsTo B (R ++ [((j : Nat) + 1 : Int)]) (i + 1) := by
      have := stands_snoc (x := ((j : Nat) + 1 : Int)) (by rw [h1]; exact h2) (by rw [h1]; exact e1) (by omega) (by omega)
      rwa [h1] at this
    obtain ⟨n', g1, _⟩ := len_ex G h st'
    obtain ⟨row, r', k1, k2, k3, k4⟩ := lenAt_succ g1
    rw [atR] at k2; cases k2
    rw [g1]
    rw [show (((j : Nat) + 1 : Int) - 1).toNat = j by omega] at k4
    rw [yW_at k1 k4]; rfl
  · rw [if_neg h, List.drop_eq_nil_of_le (by omega)]; rfl
theorem stn_sum (G : GoodB B hi) : ∀ i : Nat, i ≤ B.length → ((stnN B i).map fun R => qW B W R i).sum = allW B W
  | 0, _ => by
    show qW B W [] 0 + 0 = _
    rw [qW_zero G, Int.add_zero]
  | i + 1, hi' => by
    show (((stnN B i).flatMap (extS B i)).map fun R => qW B W R (i + 1)).sum = _
    rw [sum_flatMap, ← stn_sum G i (by omega)]
    congr 1
    refine List.map_congr_left fun R hR => ?_
    obtain ⟨h1, h2⟩ := stn_ok G i (by omega) R hR
    exact qW_ext G hi' h1 h2
/-- the weights of all standings, added up -/
theorem stn_all (G : GoodB B hi) : ((stnL B).map fun R => wgt B W R).sum = allW B W := by
  have := stn_sum (W := W) G B.length (Nat.le_refl _)
  rw [← this]
  congr 1
  exact List.map_congr_left fun R _ => qW_end.symm
theorem sum_ones {α : Type} : ∀ l : List α, (l.map fun _ => (1 : Int)).sum = (l.length : Nat)
  | [] => rfl
  | a :: l => by
    rw [List.map_cons, List.sum_cons, sum_ones l, List.length_cons]; omega
theorem stn_len (G : GoodB B hi) : ((stnL B).length : Int) = allW B (onesW B) := by
  rw [← stn_all G, ← sum_ones]
  congr 1
  exact List.map_congr_left fun R hR => (wgt_ones (stn_stands G hR)).symm
theorem allW_ones (B : List (List Int)) : allW B (onesW B) = manyN B := yW_ones B 0
theorem stn_many (G : GoodB B hi) : ((stnL B).length : Int) = manyN B := by rw [stn_len G, allW_ones]
theorem flat_ge {α β : Type} (f : α → List β) : ∀ l : List α, (∀ a ∈ l, 1 ≤ (f a).length) → l.length ≤ (l.flatMap f).length
  | [], _ => Nat.le_refl _
  | a :: l, h => by
    rw [List.flatMap_cons, List.length_append, List.length_cons]
    have h1 := h a List.mem_cons_self
    have h2 := flat_ge f l fun b hb => h b (List.mem_cons_of_mem _ hb)
    omega
theorem stn_mono (G : GoodB B hi) {i : Nat} : ∀ d : Nat, i + d ≤ B.length → (stnN B i).length ≤ (stnN B (i + d)).length
  | 0, _ => Nat.le_refl _
  | d + 1, h => by
    have a := stn_mono G d (i := i) (by omega)
    refine Nat.le_trans a (flat_ge _ _ fun R hR => ?_)
    obtain ⟨h1, h2⟩ := stn_ok G (i + d) (by omega) R hR
    obtain ⟨n, e1, e2, e3⟩ := len_ex G (k := i + d) (by omega) h2
    unfold extS
    rw [List.length_map, List.length_range]
    show 1 ≤ ((lenAt B R (i + d)).getD 0).toNat
    rw [e1]
    show 1 ≤ n.toNat
    omega
theorem stn_le (G : GoodB B hi) {i : Nat} (h : i ≤ B.length) : ((stnN B i).length : Int) ≤ manyN B := by
  have := stn_mono G (i := i) (B.length - i) (by omega)
  rw [show i + (B.length - i) = B.length by omega] at this
  have e := stn_many G
  unfold stnL at e
  omega
/-- how many of them meet a wish -/
theorem stn_meet (G : GoodB B hi) (ws : List (Option Int)) : (((stnL B).filter fun R => meets ws R B.length).length : Int) = allW B (wishW B ws) := by
  rw [← stn_all G]
  have : ∀ l : List (List Int), (∀ R ∈ l, Stands B R) → ((l.filter fun R => meets ws R B.length).length : Int) = (l.map fun R => wgt B (wishW B ws) R).sum := by
    intro l
    induction l with
    | nil => intro _; rfl
    | cons R l ih =>
      intro h
      have e := wgt_wish (w := ws) (h R List.mem_cons_self)
      have ih := ih fun S hS => h S (List.mem_cons_of_mem _ hS)
      rw [List.map_cons, List.sum_cons, ← ih, e, List.filter_cons]
      by_cases z : meets ws R B.length = true
      · rw [if_pos z, if_pos z, List.length_cons]; omega
      · rw [if_neg z, if_neg z]; omega
  exact this _ fun R hR => stn_stands G hR
end
end Af
/-! ### weights that are 0 or 1: which standing is the number-th one -/
namespace Af
open PySem PySem.Spec PyProof.Rows L2
structure W01 (W : List (List Int)) : Prop where
  bit : ∀ k j, wAt W k j = 0 ∨ wAt W k j = 1
theorem wAt_out {W : List (List Int)} {k j : Nat} (h : ∀ w, W[k]? = some w → w[j]? = none) : wAt W k j = 0 := by
  unfold wAt
  cases e : W[k]? with
  | none => rfl
  | some w => show (w[j]?).getD 0 = 0; rw [h w e]; rfl
theorem w01_of {W : List (List Int)} (h : ∀ w ∈ W, ∀ x ∈ w, x = 0 ∨ x = 1) : W01 W := ⟨fun k j => by
  unfold wAt
  cases e : W[k]? with
  | none => exact .inl rfl
  | some w =>
    show (w[j]?).getD 0 = 0 ∨ (w[j]?).getD 0 = 1
    cases e2 : w[j]? with
    | none => exact .inl rfl
    | some x => exact h w (List.mem_of_getElem? e) x (List.mem_of_getElem? e2)⟩
theorem w01_fun (B : List (List Int)) {g : Nat → Int → Int} (hg : ∀ i r, g i r = 0 ∨ g i r = 1) : W01 (funW B g) := w01_of fun w hw x hx => by
  unfold funW at hw
  obtain ⟨i, _, rfl⟩ := List.mem_map.mp hw
  obtain ⟨j, _, rfl⟩ := List.mem_map.mp hx
  exact hg _ _
theorem w01_wish (B : List (List Int)) (ws : List (Option Int)) : W01 (wishW B ws) := w01_fun B fun i r => by
  split
  · exact .inr rfl
  · exact .inl rfl
theorem w01_ones (B : List (List Int)) : W01 (onesW B) := by rw [ones_fun]; exact w01_fun B fun _ _ => .inr rfl
section
variable {B W : List (List Int)} {hi : Int} {S T : List Int × List Int}
theorem W01.tail (h : W01 W) : W01 W.tail := ⟨fun k j => by
  have : wAt W.tail k j = wAt W (k + 1) j := by unfold wAt; rw [← List.drop_one, List.getElem?_drop, Nat.add_comm]
  rw [this]; exact h.bit _ _⟩
theorem W01.drop (h : W01 W) (n : Nat) : W01 (W.drop n) := ⟨fun k j => by
  have : wAt (W.drop n) k j = wAt W (n + k) j := by unfold wAt; rw [List.getElem?_drop]
  rw [this]; exact h.bit _ _⟩
theorem sumN_nn {f : Nat → Int} : ∀ n : Nat, (∀ i, i < n → 0 ≤ f i) → 0 ≤ sumN f n
  | 0, _ => Int.le_refl 0
  | n + 1, h => by
    show 0 ≤ sumN f n + f n
    have := sumN_nn n fun i hi => h i (by omega)
    have := h n (by omega)
    omega
theorem yW_nn : ∀ (T : List (List Int)) {W : List (List Int)} (j : Nat), W01 W → 0 ≤ yW T W j
  | [], _, _, _ => by show (0 : Int) ≤ 1; decide
  | t :: T, W, j, h => by
    show 0 ≤ sumN (fun i => wAt W 0 i * yW T W.tail i) (t[j]?.getD 0).toNat
    refine sumN_nn _ fun i _ => ?_
    have a := yW_nn T i h.tail
    rcases h.bit 0 i with e | e
    · show 0 ≤ wAt W 0 i * yW T W.tail i
      rw [e, Int.zero_mul]; decide
    · show 0 ≤ wAt W 0 i * yW T W.tail i
      rw [e, Int.one_mul]; exact a
theorem all_nn (h : W01 W) : 0 ≤ allW B W := yW_nn B 0 h
theorem old_bit (h : W01 W) (R : List Int) : ∀ n : Nat, oldW W R n = 0 ∨ oldW W R n = 1
  | 0 => .inr rfl
  | n + 1 => by
    show oldW W R n * wg W R n = 0 ∨ oldW W R n * wg W R n = 1
    rcases old_bit h R n with e | e
    · rw [e, Int.zero_mul]; exact .inl rfl
    · rw [e, Int.one_mul]; exact h.bit _ _
theorem wgt_bit (h : W01 W) (R : List Int) : wgt B W R = 0 ∨ wgt B W R = 1 := old_bit h R _
theorem sumT_mono (h : W01 W) {m n : Nat} (e : m ≤ n) : sumT B W S m ≤ sumT B W S n := by
  refine sumN_le e fun i _ _ => ?_
  rcases wgt_bit (B := B) h (itB B i S).1 with z | z <;> rw [z] <;> decide
theorem sumT_nn (h : W01 W) (n : Nat) : 0 ≤ sumT B W S n := sumT_mono (m := 0) h (Nat.zero_le n)
/-- the beat at which the number-th standing of weight 1 comes by -/
structure Nth (B W : List (List Int)) (S : List Int × List Int) (c : Int) (n : Nat) : Prop where
  sum : sumT B W S n = c
  one : wgt B W (itB B n S).1 = 1
theorem Nth.lt {c : Int} {n : Nat} (h : Nth B W S c n) : sumT B W S (n + 1) = c + 1 := by
  show sumT B W S n + wgt B W (itB B n S).1 = c + 1
  rw [h.sum, h.one]
theorem Nth.uniq (hW : W01 W) {c : Int} {n m : Nat} (h : Nth B W S c n) (h' : Nth B W S c m) : n = m := by
  rcases Nat.lt_trichotomy n m with z | z | z
  · have a := sumT_mono (B := B) (S := S) hW (show n + 1 ≤ m from z)
    rw [h.lt, h'.sum] at a; omega
  · exact z
  · have a := sumT_mono (B := B) (S := S) hW (show m + 1 ≤ n from z)
    rw [h'.lt, h.sum] at a; omega
/-- the second half, from the first one -/
theorem Nth.mirror (G : GoodB B hi) (h : Ok B T) (u : up T) (h0 : clk B T.1 T.2 = 0) {N : Nat} (hN : (N : Int) = manyN B) {c : Int} {n : Nat} (hn : n < N) (q : Nth B W T c n) : Nth B W T (2 * allW B W - 1 - c) (2 * N - 1 - n) := by
  have c0 : clockM B T = 0 := by rw [clock_up u]; exact h0
  refine ⟨?_, ?_⟩
  · have e := sumT_mirror (W := W) (r := n + 1) G h u h0 hN hn
    rw [q.lt] at e
    rw [show 2 * N - 1 - n = 2 * N - (n + 1) by omega, e]; omega
  · have e := it_mirror G h c0 (L := 2 * N) (j := n) (by omega) (by omega)
    rw [e]
    exact q.one
/-- from any state on -/
theorem Nth.from (G : GoodB B hi) (h : Ok B T) (u : up T) (h0 : clk B T.1 T.2 = 0) (hW : W01 W) {N : Nat} (hN : (N : Int) = manyN B) {x c : Int} {f t n : Nat} (hx : 0 ≤ x) (e : sumT B W T f + x = (t : Int) * (2 * allW B W) + c) (q : Nth B W T c n) : f ≤ 2 * N * t + n ∧ Nth B W (itB B f T) x (2 * N * t + n - f) := by
  have hp := many_pos G
  have e1 := sumT_round (W := W) G h u h0 hN t n
  rw [q.sum, ← e] at e1
  have per : itB B (2 * N * t + n) T = itB B n T := by
    refine Af.uniq G (itB_ok G _ h) (itB_ok G _ h) ?_ ?_
    · have e2 : ((2 * N * t : Nat) : Int) = 2 * manyN B * (t : Nat) := by rw [← hN]; simp
      rw [clock_it G h, clock_it G h, show clockM B T + ((2 * N * t + n : Nat) : Int) = clockM B T + (n : Nat) + 2 * manyN B * (t : Nat) by rw [Int.natCast_add, e2]; omega, Int.add_mul_emod_self_left]
    · rw [signs_it G h, signs_it G h]
  have w1 : wgt B W (itB B (2 * N * t + n) T).1 = 1 := by rw [per]; exact q.one
  generalize 2 * N * t + n = m at e1 w1
  have hm : f ≤ m := by
    rcases Nat.lt_or_ge m f with z | z
    · have a := sumT_mono (B := B) (S := T) hW (show m + 1 ≤ f from z)
      have b : sumT B W T (m + 1) = sumT B W T m + 1 := by
        show sumT B W T m + wgt B W (itB B m T).1 = _
        rw [w1]
      omega
    · exact z
  refine ⟨hm, ?_, ?_⟩
  · have a := sumT_add (B := B) (W := W) (S := T) f (m - f)
    rw [show f + (m - f) = m by omega] at a
    omega
  · rw [it_it, show f + (m - f) = m by omega]; exact w1
/-- met nowhere -/
theorem sumT_none (G : GoodB B hi) (h : Ok B S) (hW : W01 W) (hz : allW B W = 0) (n : Nat) : sumT B W S n = 0 := by
  have hN := many_pos G
  obtain ⟨L, hL⟩ : ∃ L : Nat, (L : Int) = 2 * manyN B := ⟨(2 * manyN B).toNat, by omega⟩
  have e := sumT_full (W := W) G h hL
  rw [hz, Int.mul_zero] at e
  have per : ∀ q : Nat, sumT B W S (L * q) = 0 := fun q => by
    induction q with
    | zero => rfl
    | succ q ih =>
      rw [Nat.mul_succ, Nat.add_comm, sumT_add, e, it_round G h hL, ih]; rfl
  have a := sumT_mono (B := B) (S := S) hW (show n ≤ L * n from Nat.le_mul_of_pos_left n (by omega))
  rw [per] at a
  have b := sumT_nn (B := B) (S := S) hW n
  omega
/-! first_half_state, with such weights -/
structure SoFarW (B W : List (List Int)) (M : List Int) (c : Int) (i : Nat) (R F : List Int) (rest : Int) : Prop where
  rl : R.length = i
  fl : F.length = i
  st : StandsTo B R i
  fo : FacesOk F
  u : 0 < i → F[0]? = some 1
  sg : ∀ j, j + 1 < i → M[j]? = some (sgn B R F j)
  eq : rest = c - sumN (pasW B W R F) i
  ow : oldW W R i = 1
  lo : 0 ≤ rest
  hi : rest < qW B W R i
theorem qW_next (G : GoodB B hi) {R : List Int} {i : Nat} {n r : Int} (hi' : i < B.length) (h1 : R.length = i) (h2 : StandsTo B R i) (e1 : lenAt B R i = some n) (r1 : 1 ≤ r) (r2 : r ≤ n) : qW B W (R ++ [r]) (i + 1) = oldW W R i * (wAt W i (r - 1).toNat * yW (B.drop (i + 1)) (W.drop (i + 1)) (r - 1).toNat) := by
  have pre : ∀ c, c < i → (R ++ [r])[c]? = R[c]? := fun c hc => List.getElem?_append_left (by omega)
  have atR : (R ++ [r])[i]? = some r := by rw [← h1]; simp
  have ew : wg W (R ++ [r]) i = wAt W i (r - 1).toNat := by unfold wg; rw [atR]; rfl
  show oldW W (R ++ [r]) i * wg W (R ++ [r]) i * _ = _
  rw [oldW_pre pre, ew, Int.mul_assoc]
  congr 1
  congr 1
  by_cases h : i + 1 < B.length
  · rw [if_pos h]
    have st' : StandsTo B (R ++ [r]) (i + 1) := by
      have := stands_snoc (x := r) (by rw [h1]; exact h2) (by rw [h1]; exact e1) r1 r2
      rwa [h1] at this
    obtain ⟨n', g1, _⟩ := len_ex G h st'
    obtain ⟨row, r', k1, k2, k3, k4⟩ := lenAt_succ g1
    rw [atR] at k2; cases k2
    rw [g1, yW_at k1 k4]; rfl
  · rw [if_neg h, List.drop_eq_nil_of_le (by omega)]; rfl
theorem pasW_pre {R F R' F' : List Int} {k : Nat} (h : ∀ i, i < k → R'[i]? = R[i]? ∧ F'[i]? = F[i]?) : sumN (pasW B W R' F') k = sumN (pasW B W R F) k := sumN_congr _ fun i hi => by
  unfold pasW
  rw [(h i hi).1, (h i hi).2, lenAt_pre fun j hj => (h j (by omega)).1, oldW_pre fun j hj => (h j (by omega)).1]
theorem SoFarW.next {M : List Int} {c : Int} {i : Nat} {R F : List Int} {rest hi l r s : Int} (h : SoFarW B W M c i R F rest) (hW : W01 W) (G : GoodB B hi) (hi' : i < B.length) (el : lenAt B R i = some l) (r1 : 1 ≤ r) (r2 : r ≤ l)
    (es : (1 :: M)[i]? = some s) (hs : s = 1 ∨ s = -1) (a1 : pasWN B W i l r (flip (clk (B.take i) R F) s) ≤ rest) (a2 : rest < pasWN B W i l r (flip (clk (B.take i) R F) s) + wAt W i (r - 1).toNat * yW (B.drop (i + 1)) (W.drop (i + 1)) (r - 1).toNat) :
    SoFarW B W M c (i + 1) (R ++ [r]) (F ++ [flip (clk (B.take i) R F) s]) (rest - pasWN B W i l r (flip (clk (B.take i) R F) s)) := by
  have hR := h.rl
  have hF := h.fl
  have preR : ∀ j, j < i → (R ++ [r])[j]? = R[j]? := fun j hj => List.getElem?_append_left (by omega)
  have preF : ∀ j, j < i → (F ++ [flip (clk (B.take i) R F) s])[j]? = F[j]? := fun j hj => List.getElem?_append_left (by omega)
  have atR : (R ++ [r])[i]? = some r := by rw [← hR]; simp
  have atF : (F ++ [flip (clk (B.take i) R F) s])[i]? = some (flip (clk (B.take i) R F) s) := by
    have : (F ++ [flip (clk (B.take i) R F) s])[F.length]? = some (flip (clk (B.take i) R F) s) := by simp
    rwa [hF] at this
  have el' : lenAt B (R ++ [r]) i = some l := by rw [lenAt_pre preR]; exact el
  have st' : StandsTo B (R ++ [r]) (i + 1) := by
    have := stands_snoc (x := r) (by rw [hR]; exact h.st) (by rw [hR]; exact el) r1 r2
    rwa [hR] at this
  have hpas : pasW B W (R ++ [r]) (F ++ [flip (clk (B.take i) R F) s]) i = pasWN B W i l r (flip (clk (B.take i) R F) s) := by
    rw [pasW_eq el' atR atF, oldW_pre preR, h.ow, Int.one_mul]
  have w1 : wAt W i (r - 1).toNat = 1 := by
    rcases hW.bit i (r - 1).toNat with z | z
    · rw [z, Int.zero_mul] at a2; omega
    · exact z
  refine ⟨by rw [List.length_append, hR]; rfl, by rw [List.length_append, hF]; rfl, st', fun x hx => ?_, fun _ => ?_, fun j hj => ?_, ?_, ?_, by omega, ?_⟩
  · rcases List.mem_append.mp hx with hx | hx
    · exact h.fo x hx
    · obtain rfl : x = flip (clk (B.take i) R F) s := by simpa using hx
      exact flip_ok hs
  · by_cases z : i = 0
    · subst z
      have e1 : s = 1 := by simpa using es.symm
      rw [atF, e1, List.take_zero]; rfl
    · rw [preF 0 (by omega)]; exact h.u (by omega)
  · unfold sgn
    have hc : clk (B.take (j + 1)) (R ++ [r]) (F ++ [flip (clk (B.take i) R F) s]) = clk (B.take (j + 1)) R F := clk_pre fun m hm => by
      rw [List.length_take] at hm
      exact ⟨preR m (by omega), preF m (by omega)⟩
    rw [hc]
    by_cases z : j + 1 < i
    · rw [preF (j + 1) z]; exact h.sg j z
    · have z2 : j + 1 = i := by omega
      rw [z2, atF]
      show _ = some (flip _ (flip _ _))
      rw [flip_flip]
      rw [← z2] at es
      simpa using es
  · show _ = c - (sumN _ i + pasW B W _ _ i)
    rw [hpas, pasW_pre (R := R) (F := F) fun j hj => ⟨preR j hj, preF j hj⟩]
    have := h.eq
    omega
  · show oldW W (R ++ [r]) i * wg W (R ++ [r]) i = 1
    rw [oldW_pre preR, h.ow, Int.one_mul]
    unfold wg; rw [atR]; exact w1
  · rw [qW_next G hi' hR h.st el r1 r2, h.ow, Int.one_mul]
    omega
end
end Af
set_option maxHeartbeats 4000000
/-! ### a tuple times an int of any small size -/
namespace Rep
open PySem PySem.Spec PyProof.Rows L2
theorem mul_one (p : Addr) (its : Array Value) (n : Nat) (dd : Option Addr) (sl : Array (Option Value)) (u : Tok) :
    Meets (Builtin.«tuple.__mul__» ⟨[.ref p, .int 1 u], []⟩) (fun _ R s => s.heap.get? p = some { cls := .type "tuple", dict := dd, data := .seq its n, slots := sl } ∧ R (.ok (.ret (Value.ref p))) s) :=
  .of_wp fun prog w A R s h => by
    obtain ⟨hp, g, d, tk, os⟩ := s; obtain ⟨hl, h⟩ := h; have f1 := AutoSeq1.idx_int; wp_walk using wpAny_loadPart' hl
    exact ⟨_, rfl, h⟩
theorem mul_none (p : Addr) (its : Array Value) (n : Nat) (dd : Option Addr) (sl : Array (Option Value)) (x : Int) (u : Tok) (c0 : (decide (x < -(2 ^ 63)) || decide (x ≥ 2 ^ 63)) = false) (c1 : (its.isEmpty || x == 1) = false) (c2 : (decide (x ≤ 0) || its.isEmpty) = true) :
    Meets (Builtin.«tuple.__mul__» ⟨[.ref p, .int x u], []⟩) (fun _ R s => s.heap.get? p = some { cls := .type "tuple", dict := dd, data := .seq its n, slots := sl } ∧
      R (.ok (.ret (Value.ref s.heap.objs.size))) { s with heap := s.heap.push { cls := Value.type "tuple", data := Data.seq #[] }, toks := s.toks }) :=
  .of_wp fun prog w A R s h => by
    obtain ⟨hp, g, d, tk, os⟩ := s; obtain ⟨hl, h⟩ := h; have f1 := AutoSeq1.idx_int; wp_walk using wpAny_loadPart' hl
    have d0 : ¬ ((decide (x < -(2 ^ 63)) || decide (x ≥ 2 ^ 63)) = true) := by rw [c0]; exact Bool.false_ne_true
    have d1 : ¬ ((its.isEmpty || x == 1) = true) := by rw [c1]; exact Bool.false_ne_true
    refine wpAny_ite_false (decide_eq_false d0) ?_; wp_walk using wpAny_loadPart' hl
    exact ⟨_, rfl, h⟩
def rRepA (K : PySem.W.Frag) : R2 := fun x y H Q => ∃ l k xs, x = .ref l ∧ y = .int k ∧ SqT K H l xs ∧ xs ≠ [] ∧ -1000 ≤ k ∧ k ≤ 1000 ∧ xs.length ≤ 1000 ∧ ∀ p H', Same H H' → SqT K H' p (List.replicate k.toNat xs).flatten → Q (.ref p) H'
section
variable {X : Cx}
theorem op_repA {K : PySem.W.Frag} (hK : X.K = K := by rfl) : OpR X (binaryOp .Mult) (rRepA K) := by
  subst hK
  intro pins s σ H x y va ub Q I rx ry h
  obtain ⟨l, k, xs, rfl, rfl, hT, hne, h1, h2, hz, q⟩ := h
  by_cases hk2 : 2 ≤ k
  · exact op_repT pins s σ H _ _ va ub Q I rx ry ⟨l, k, xs, rfl, rfl, hT, hne, hk2, h2, hz, fun p np => q p _ (Af.same_new np) (.inl (.inl upd_same))⟩
  cases rx
  obtain ⟨t, rfl⟩ := ry
  obtain ⟨its, r, ⟨⟨cl, dd, dt, sl⟩, ho, hc, n, hd⟩, _⟩ := I.tuple hT
  simp only at hc hd
  subst hc hd
  by_cases hk1 : k = 1
  · subst hk1
    refine wpAny_binaryOp_repeat_ref (T := "tuple") (U := "int") (by decide) ⟨_, ho, rfl⟩ (fun s' => typeIs_int s' 1 t) noFill_tuple_mul F.fills_int_mul F.slot_int_rmul repeat_tuple F.slot_int_index.lookup
      (call_meets F.slot_int_rmul (typeIs_int s 1 t) F.entry_int_rmul (F.args_int_rmul_2 _ _) (int_rmul_tuple 1 t l its.toArray n dd sl) ⟨ho, rfl, ⟨_, ho, rfl⟩, call_meets F.slot_tuple_mul ⟨_, ho, rfl⟩ F.entry_tuple_mul (F.args_tuple_mul_2 _ _) (mul_one l its.toArray n dd sl t) ⟨ho, ?_⟩⟩)
    refine ⟨.ref l, H, I, rfl, q l H (Same.refl _) ?_⟩
    rw [show (List.replicate (1 : Int).toNat xs).flatten = xs from List.append_nil xs]
    exact hT
  · have hk0 : k ≤ 0 := by omega
    have hn : its ≠ [] := fun e => hne (by have := r.length; rw [e] at this; exact List.eq_nil_of_length_eq_zero this)
    have ie : its.toArray.isEmpty = false := by cases its with | nil => exact absurd rfl hn | cons a b => rfl
    refine wpAny_binaryOp_repeat_ref (T := "tuple") (U := "int") (by decide) ⟨_, ho, rfl⟩ (fun s' => typeIs_int s' _ t) noFill_tuple_mul F.fills_int_mul F.slot_int_rmul repeat_tuple F.slot_int_index.lookup
      (call_meets F.slot_int_rmul (typeIs_int s k t) F.entry_int_rmul (F.args_int_rmul_2 _ _) (int_rmul_tuple k t l its.toArray n dd sl) ⟨ho, rfl, ⟨_, ho, rfl⟩, call_meets F.slot_tuple_mul ⟨_, ho, rfl⟩ F.entry_tuple_mul (F.args_tuple_mul_2 _ _) (mul_none l its.toArray n dd sl k t (by rw [decide_eq_false (by omega), decide_eq_false (by omega)] <;> rfl) (by rw [ie, Bool.false_or]; exact beq_eq_false_iff_ne.mpr (by omega)) (by rw [decide_eq_true hk0]; rfl)) ⟨ho, ?_⟩⟩)
    refine ⟨.ref s.heap.objs.size, _, I.laid (t' := s.toks) (o := .tup []) (fun b ob e => Heap.get?_push_of_some _ e) (Nat.le_refl _) ⟨by show 0 ≤ sizeLine; decide, [], .nil, IsTup.new _ _⟩, rfl, q _ _ (Af.same_new (I.hok.fresh (Nat.le_refl _))) ?_⟩
    rw [show k.toNat = 0 by omega]
    exact .inl (.inl upd_same)
end
end Rep
/-! ### a book with one climber more, on a ladder of always the same length -/
namespace Af
open PySem PySem.Spec PyProof.Rows L2
theorem drop_consA {α : Type} {B : List α} {i : Nat} {x : α} (e : B[i]? = some x) : B.drop i = x :: B.drop (i + 1) := by
  obtain ⟨h, rfl⟩ := List.getElem?_eq_some_iff.mp e
  exact List.drop_eq_getElem_cons h
/-- the book B with a further climber on a ladder that is always L long -/
def widB (B : List (List Int)) (row : List Int) (L : Int) : List (List Int) := B ++ [List.replicate (mxR row).toNat L]
section
variable {B : List (List Int)} {row : List Int} {hi L : Int} {S T : List Int × List Int}
theorem wid_len : (widB B row L).length = B.length + 1 := by unfold widB; rw [List.length_append]; rfl
theorem wid_row : (widB B row L)[B.length]? = some (List.replicate (mxR row).toNat L) := by
  unfold widB; rw [List.getElem?_append_right (Nat.le_refl _), Nat.sub_self]; rfl
theorem wid_take : (widB B row L).take B.length = B := by unfold widB; exact List.take_left' rfl
theorem wid_good (G : GoodB B hi) (eA : B[B.length - 1]? = some row) (h1 : 1 ≤ B.length) (l1 : 1 ≤ L) (l2 : L ≤ hi) : GoodB (widB B row L) hi := good_cst G eA h1 l1 l2
theorem good_up {h2 : Int} (G : GoodB B hi) (h : hi ≤ h2) : GoodB B h2 := ⟨G.first, G.wide, fun r hr x hx => ⟨(G.pos r hr x hx).1, Int.le_trans (G.pos r hr x hx).2 h⟩, G.full⟩
theorem stands_wid (h : Ok B S) : StandsTo (widB B row L) S.1 B.length := fun c hc => by
  obtain ⟨n, r, e1, e2⟩ := h.st.all c hc
  refine ⟨n, r, ?_, e2⟩
  rw [← wid_take (B := B) (row := row) (L := L), lenAt_take hc] at e1
  exact e1
theorem wid_ok (G : GoodB (widB B row L) hi) (h : Ok B S) {r f : Int} (r1 : 1 ≤ r) (r2 : r ≤ L) (hf : f = 1 ∨ f = -1) : Ok (widB B row L) (S.1 ++ [r], S.2 ++ [f]) := by
  have hlen := h.st.len
  have hfl := h.fl
  have hs := stands_wid (row := row) (L := L) h
  obtain ⟨n, en, n1, n2⟩ := len_ex G (by rw [wid_len]; omega) hs
  obtain rfl := len_cst (wid_len (B := B)) wid_row en
  rw [← hlen] at hs en
  refine ⟨⟨?_, ?_⟩, ?_, fun x hx => ?_⟩
  · show (S.1 ++ [r]).length = _; rw [wid_len, List.length_append, hlen]; rfl
  · rw [wid_len, ← hlen]; exact stands_snoc hs en r1 r2
  · show (S.2 ++ [f]).length = _; rw [wid_len, List.length_append, hfl]; rfl
  · rcases List.mem_append.mp hx with hx | hx
    · exact h.fo x hx
    · obtain rfl : x = f := by simpa using hx
      exact hf
theorem wid_par (h : Ok B S) {r f : Int} : parS B.length (S.1 ++ [r], S.2 ++ [f]) = S := by
  have e1 := h.st.len
  have e2 := h.fl
  unfold parS
  rw [List.take_left' e1, List.take_left' e2]
theorem wid_at (h : Ok B S) {r f : Int} : (S.1 ++ [r])[B.length]? = some r ∧ (S.2 ++ [f])[B.length]? = some f := by
  have e1 := h.st.len
  have e2 := h.fl
  constructor
  · rw [← e1, List.getElem?_append_right (Nat.le_refl _), Nat.sub_self]; rfl
  · rw [← e2, List.getElem?_append_right (Nat.le_refl _), Nat.sub_self]; rfl
theorem wid_many (G : GoodB (widB B row L) hi) : manyN (widB B row L) = L * manyN B := by
  have := many_cst G wid_len wid_row
  rw [wid_take] at this
  exact this
/-- the youngest climber of a state -/
theorem wid_last (h : Ok (widB B row L) T) : ∃ r f, T.1[B.length]? = some r ∧ T.2[B.length]? = some f ∧ 1 ≤ r ∧ r ≤ L ∧ (f = 1 ∨ f = -1) := by
  have hl := h.st.len
  have hf := h.fl
  rw [wid_len] at hl hf
  obtain ⟨n, r, e1, e2, b1, b2⟩ := h.st.all B.length (by rw [wid_len]; omega)
  obtain rfl := len_cst (wid_len (B := B)) wid_row e1
  refine ⟨r, T.2[B.length], e2, List.getElem?_eq_getElem (by omega), b1, b2, h.fo _ (List.getElem_mem _)⟩
theorem wid_clock (G : GoodB (widB B row L) hi) (h1 : 1 ≤ B.length) (h : Ok (widB B row L) T) {r f : Int} (er : T.1[B.length]? = some r) (ef : T.2[B.length]? = some f) : clockM (widB B row L) T = L * clockM B (parS B.length T) + dgt L r f ∧ 0 ≤ dgt L r f ∧ dgt L r f < L := by
  have := clock_cst G wid_len h1 wid_row h er ef
  rw [wid_take] at this
  exact this
theorem wid_signs (h1 : 1 ≤ B.length) (G : GoodB (widB B row L) hi) (h : Ok (widB B row L) T) {f : Int} (ef : T.2[B.length]? = some f) : signsM (widB B row L) T = signsM B (parS B.length T) ++ [flip (clockM B (parS B.length T)) f] := by
  have e1 := signs_par (B := widB B row L) (T := T) h1 (by rw [wid_len]; omega)
  have e2 := face_sign G wid_len h1 h ef
  rw [wid_take] at e1 e2
  have hl : (signsM (widB B row L) T).length = B.length := by unfold signsM; rw [sg_len, wid_len]; rfl
  have e3 := List.take_append_drop (B.length - 1) (signsM (widB B row L) T)
  rw [drop_consA e2, List.drop_eq_nil_of_le (by omega), ← e1] at e3
  exact e3.symm
theorem wid_steps (G : GoodB (widB B row L) hi) (h1 : 1 ≤ B.length) (h : Ok (widB B row L) T) (m : Int) : parS B.length (aftM (widB B row L) T m) = aftM B (parS B.length T) ((clockM (widB B row L) T + m) / L - clockM (widB B row L) T / L) := by
  have e := par_after (m := m) G h h1 (show B.length ≤ (widB B row L).length by rw [wid_len]; omega)
  rw [steps_cst G wid_len h1 wid_row h m, wid_take] at e
  exact e.symm
/-- the face of the youngest after some beats, by the parity of the steps of the others -/
theorem wid_face (G : GoodB (widB B row L) hi) (h1 : 1 ≤ B.length) (h : Ok (widB B row L) T) {m q f f' : Int} (ef : T.2[B.length]? = some f) (ef' : (aftM (widB B row L) T m).2[B.length]? = some f')
    (hq : (clockM (widB B row L) T + m) / L - clockM (widB B row L) T / L = q) : f' = if q % 2 = 0 then f else -f := by
  have GB : GoodB B hi := by have := good_take G h1; rw [wid_take] at this; exact this
  have hO := h.par (k := B.length) (by rw [wid_len]; omega)
  rw [wid_take] at hO
  have s1 := wid_signs h1 G h ef
  have s2 := wid_signs h1 G (aft_ok (c := m) G h) ef'
  rw [aft_signs G h, s1, wid_steps G h1 h m, hq, aft_clock GB hO, aft_signs GB hO, flip_mod] at s2
  have := List.append_cancel_left s2
  simp only [List.cons.injEq, and_true] at this
  unfold flip at this
  generalize clockM B (parS B.length T) = c at this
  by_cases z : q % 2 = 0
  · rw [if_pos z]
    by_cases y : c % 2 = 1
    · rw [if_pos y, if_pos (by omega)] at this; omega
    · rw [if_neg y, if_neg (by omega)] at this; exact this.symm
  · rw [if_neg z]
    by_cases y : c % 2 = 1
    · rw [if_pos y, if_neg (by omega)] at this; exact this.symm
    · rw [if_neg y, if_pos (by omega)] at this; omega
theorem dgt_one {r f : Int} (h1 : 1 ≤ r) (h2 : r ≤ 1) : dgt 1 r f = 0 := by unfold dgt; split <;> omega
theorem par_last {P : List (List Int)} {k : Nat} (hk : P.length = k + 1) (h : Ok P T) {r : Int} (er : T.1[k]? = some r) : atI (T.1.map V.int) (-1) = some (V.int r) := by
  have hl := h.st.len
  have e0 : T.1 = T.1.take k ++ [r] := by
    have := List.take_append_drop k T.1
    rw [drop_consA er, List.drop_eq_nil_of_le (by omega)] at this
    exact this.symm
  rw [e0, List.map_append]; exact atI_last _ _
theorem par_lastF {P : List (List Int)} {k : Nat} (hk : P.length = k + 1) (h : Ok P T) {f : Int} (ef : T.2[k]? = some f) : atI (T.2.map V.int) (-1) = some (V.int f) := by
  have hl := h.fl
  have e0 : T.2 = T.2.take k ++ [f] := by
    have := List.take_append_drop k T.2
    rw [drop_consA ef, List.drop_eq_nil_of_le (by omega)] at this
    exact this.symm
  rw [e0, List.map_append]; exact atI_last _ _
end
end Af
/-! ### one more climber: how many standings come before one of the older ones' -/
namespace Af
open PySem PySem.Spec PyProof.Rows L2
variable {B : List (List Int)} {hi : Int}
theorem flat_at {α β : Type} (f : α → List β) : ∀ (l : List α) (n : Nat) (x : β), (l.flatMap f)[n]? = some x → ∃ (j q : Nat) (a : α), l[j]? = some a ∧ (f a)[q]? = some x ∧ (l.flatMap f).take n = (l.take j).flatMap f ++ (f a).take q
  | [], n, x, h => by simp at h
  | a :: l, n, x, h => by
    rw [List.flatMap_cons] at h ⊢
    by_cases c : n < (f a).length
    · rw [List.getElem?_append_left c] at h
      exact ⟨0, n, a, rfl, h, by rw [List.take_append_of_le_length (by omega)]; rfl⟩
    · rw [List.getElem?_append_right (by omega)] at h
      obtain ⟨j, q, b, e1, e2, e3⟩ := flat_at f l (n - (f a).length) x h
      refine ⟨j + 1, q, b, e1, e2, ?_⟩
      rw [List.take_append, List.take_of_length_le (by omega), e3, List.take_succ_cons, List.flatMap_cons, List.append_assoc]
/-- those of the i eldest who stand as R, and all that can stand so behind them -/
def pfx (B : List (List Int)) (R : List Int) (i : Nat) : Int := sumN (fun c => rowN B c ((R[c]?.getD 0) - 1).toNat) i
theorem pfx_pre {R S : List Int} {i : Nat} (h : ∀ c, c < i → R[c]? = S[c]?) : pfx B R i = pfx B S i := by
  unfold pfx
  exact sumN_congr _ fun c hc => by rw [h c hc]
theorem tot_ext (G : GoodB B hi) {R : List Int} {i j : Nat} (hi' : i + 1 < B.length) (h1 : R.length = i) : totN B (R ++ [((j : Nat) + 1 : Int)]) (i + 1) = cnt (B.drop (i + 1)) j := by
  have eB : B[i + 1]? = some B[i + 1] := List.getElem?_eq_getElem hi'
  have atR : (R ++ [((j : Nat) + 1 : Int)])[i]? = some ((j : Nat) + 1 : Int) := by rw [← h1]; simp
  rw [drop_cons eB]
  show sumN _ _ = sumN _ _
  have e : (lenAt B (R ++ [((j : Nat) + 1 : Int)]) (i + 1)) = B[i + 1][j]? := by
    show lenS B _ i = _
    unfold lenS
    rw [eB, atR]
    show (if 1 ≤ ((j : Nat) + 1 : Int) then B[i + 1][((j : Nat) + 1 - 1 : Int).toNat]? else none) = _
    rw [if_pos (by omega), show ((j : Nat) + 1 - 1 : Int).toNat = j by omega]
  rw [e]
theorem ext_tot (G : GoodB B hi) {R : List Int} {i : Nat} (hi' : i + 1 < B.length) (h1 : R.length = i) (q : Nat) (hq : q ≤ ((lenAt B R i).getD 0).toNat) : (((extS B i R).take q).map fun S => totN B S (i + 1)).sum = rowN B i q := by
  unfold extS
  rw [← List.map_take, List.take_range, Nat.min_eq_left hq, List.map_map, sum_rangeN]
  exact sumN_congr _ fun j _ => tot_ext G hi' h1
theorem ext_all (G : GoodB B hi) {R : List Int} {i : Nat} (hi' : i + 1 < B.length) (h1 : R.length = i) : ((extS B i R).map fun S => totN B S (i + 1)).sum = totN B R i := by
  have e := ext_tot G hi' h1 ((lenAt B R i).getD 0).toNat (Nat.le_refl _)
  rw [List.take_of_length_le (by unfold extS; rw [List.length_map, List.length_range]; exact Nat.le_refl _)] at e
  exact e
theorem tot_sum (G : GoodB B hi) : ∀ i : Nat, i < B.length → ((stnN B i).map fun R => totN B R i).sum = manyN B
  | 0, h => by
    obtain ⟨n, e0⟩ := G.first
    show totN B [] 0 + 0 = _
    unfold totN
    have e1 : lenAt B [] 0 = some n := by show (B[0]?).bind _ = _; rw [e0]; rfl
    rw [e1]
    have : B = [n] :: B.drop 1 := by have := drop_cons e0; simpa using this
    rw [show manyN B = cnt ([n] :: B.drop 1) 0 from by rw [← this]; rfl]
    show sumN (cnt (B.drop 1)) n.toNat + 0 = sumN (cnt (B.drop 1)) _
    rw [Int.add_zero]; rfl
  | i + 1, h => by
    have ih := tot_sum G i (by omega)
    show (((stnN B i).flatMap (extS B i)).map _).sum = _
    rw [sum_flatMap, ← ih]
    congr 1
    refine List.map_congr_left fun R hR => ?_
    exact ext_all G h (stn_ok G i (by omega) R hR).1
theorem tot_before (G : GoodB B hi) : ∀ (i : Nat), i < B.length → ∀ (n : Nat) (R : List Int), (stnN B i)[n]? = some R → (((stnN B i).take n).map fun S => totN B S i).sum = pfx B R i
  | 0, _, n, R, h => by
    have hn : n = 0 := by
      have := (List.getElem?_eq_some_iff.mp h).1
      have e : (stnN B 0).length = 1 := rfl
      omega
    subst hn
    rfl
  | i + 1, hi', n, R, h => by
    obtain ⟨j, q, R0, e1, e2, e3⟩ := flat_at (extS B i) (stnN B i) n R h
    have ih := tot_before G i (by omega) j R0 e1
    have hR0 := (stn_ok G i (by omega) R0 (List.mem_of_getElem? e1)).1
    have hq : q < ((lenAt B R0 i).getD 0).toNat := by
      have := (List.getElem?_eq_some_iff.mp e2).1
      unfold extS at this
      rwa [List.length_map, List.length_range] at this
    have eR : R = R0 ++ [((q : Nat) + 1 : Int)] := by
      unfold extS at e2
      rw [List.getElem?_map, List.getElem?_range hq] at e2
      exact (Option.some.inj e2).symm
    show ((((stnN B i).flatMap (extS B i)).take n).map _).sum = _
    rw [e3, List.map_append, List.sum_append, ext_tot G hi' hR0 q (by omega), sum_flatMap]
    have e4 : ((((stnN B i).take j).map fun a => ((extS B i a).map fun S => totN B S (i + 1)).sum)).sum = (((stnN B i).take j).map fun S => totN B S i).sum := by
      congr 1
      refine List.map_congr_left fun S hS => ?_
      exact ext_all G hi' (stn_ok G i (by omega) S (List.mem_of_mem_take hS)).1
    rw [e4, ih, eR]
    show _ = pfx B _ i + rowN B i _
    rw [pfx_pre (S := R0) (fun c hc => List.getElem?_append_left (by omega))]
    have atR : (R0 ++ [((q : Nat) + 1 : Int)])[i]? = some ((q : Nat) + 1 : Int) := by rw [← hR0]; simp
    rw [atR, show ((some ((q : Nat) + 1 : Int)).getD 0 - 1).toNat = q by show ((q : Nat) + 1 - 1 : Int).toNat = q; omega]
section
variable {A : List (List Int)} {row : List Int}
theorem len_app {R : List Int} {i : Nat} (h : i < A.length) : lenAt (A ++ [row]) R i = lenAt A R i := by
  cases i with
  | zero => show ((A ++ [row])[0]?).bind _ = (A[0]?).bind _; rw [List.getElem?_append_left h]
  | succ c => show lenS _ _ _ = lenS _ _ _; unfold lenS; rw [List.getElem?_append_left h]
theorem stn_app : ∀ i : Nat, i ≤ A.length → stnN (A ++ [row]) i = stnN A i
  | 0, _ => rfl
  | i + 1, h => by
    show (stnN (A ++ [row]) i).flatMap _ = (stnN A i).flatMap _
    rw [stn_app i (by omega)]
    congr 1
    funext R
    unfold extS
    rw [len_app (by omega)]
theorem good_row (G : GoodB A hi) {lst : List Int} (eA : A[A.length - 1]? = some lst) (h1 : 1 ≤ A.length) (hl : (row.length : Int) = mxR lst) (hp : ∀ x ∈ row, 1 ≤ x ∧ x ≤ hi) : GoodB (A ++ [row]) hi := by
  have hne := G.full lst (List.mem_of_getElem? eA)
  cases lst with
  | nil => exact absurd rfl hne
  | cons n ns =>
    have e : A = A.take (A.length - 1) ++ [n :: ns] := by
      have e1 := List.take_append_drop (A.length - 1) A
      rw [drop_cons eA, List.drop_eq_nil_of_le (show A.length ≤ A.length - 1 + 1 by omega)] at e1
      exact e1.symm
    rw [e] at G ⊢
    exact good_snoc G hl hp
/-- the number of a standing with one more climber -/
theorem num_row (G : GoodB (A ++ [row]) hi) (h1 : 1 ≤ A.length) {R : List Int} {n : Nat} (e : (stnN A A.length)[n]? = some R) {x : Int} (x1 : 1 ≤ x) :
    clk (A ++ [row]) (R ++ [x]) (List.replicate (A ++ [row]).length 1) = (((stnN A A.length).take n).map fun S => totN (A ++ [row]) S A.length).sum + (x - 1) := by
  have hk : (A ++ [row]).length = A.length + 1 := by rw [List.length_append]; rfl
  have e' := e
  rw [← stn_app (row := row) A.length (Nat.le_refl _)] at e ⊢
  have hR := (stn_ok G A.length (by omega) R (List.mem_of_getElem? e)).1
  rw [tot_before G A.length (by omega) n R e]
  unfold clk
  rw [hk]
  show sumN (pas (A ++ [row]) (R ++ [x]) (List.replicate (A.length + 1) 1)) A.length + pas _ _ _ A.length = _
  have ep : ∀ c, c < A.length + 1 → pas (A ++ [row]) (R ++ [x]) (List.replicate (A.length + 1) 1) c = rowN (A ++ [row]) c (((R ++ [x])[c]?.getD 0) - 1).toNat := fun c hc => by
    unfold pas pasN
    rw [List.getElem?_replicate, if_pos hc]
    rfl
  rw [ep A.length (by omega)]
  have e1 : sumN (pas (A ++ [row]) (R ++ [x]) (List.replicate (A.length + 1) 1)) A.length = pfx (A ++ [row]) R A.length := by
    unfold pfx
    refine sumN_congr _ fun c hc => ?_
    rw [ep c (by omega), List.getElem?_append_left (by omega)]
  rw [e1]
  congr 1
  have ex : (R ++ [x])[A.length]? = some x := by rw [← hR]; simp
  rw [ex]
  unfold rowN
  rw [List.drop_eq_nil_of_le (by omega)]
  show sumN (fun _ => (1 : Int)) (x - 1).toNat = _
  rw [sumN_one]; omega
theorem tot_last (h1 : 1 ≤ A.length) {R : List Int} {l : Int} (e : lenAt (A ++ [row]) R A.length = some l) (l1 : 1 ≤ l) : totN (A ++ [row]) R A.length = l := by
  unfold totN
  rw [e]
  unfold rowN
  rw [List.drop_eq_nil_of_le (by rw [List.length_append]; show _ + 1 ≤ _; omega)]
  show sumN (fun _ => (1 : Int)) l.toNat = _
  rw [sumN_one]; omega
theorem stand_row (G : GoodB (A ++ [row]) hi) {R : List Int} (h : R ∈ stnN A A.length) {l x : Int} (e : lenAt (A ++ [row]) R A.length = some l) (x1 : 1 ≤ x) (x2 : x ≤ l) : Stands (A ++ [row]) (R ++ [x]) := by
  rw [← stn_app (row := row) A.length (Nat.le_refl _)] at h
  obtain ⟨hl, hs⟩ := stn_ok G A.length (by rw [List.length_append]; omega) R h
  have hs' : StandsTo (A ++ [row]) R R.length := by rw [hl]; exact hs
  have z := stands_snoc (x := x) hs' (by rw [hl]; exact e) x1 x2
  have hk : (A ++ [row]).length = R.length + 1 := by rw [List.length_append, hl]; rfl
  exact ⟨by rw [List.length_append, hk]; rfl, by rw [hk]; exact z⟩
end
theorem sqt_hide {K : PySem.W.Frag} {H : Hp} {a b : Addr} {xs l : List V} (h : SqT K H a xs) (hb : H b = some (.lst l)) : SqT K (hid H b) a xs := by
  rcases h with (h | ⟨o, h⟩) | h
  · have ne : a ≠ b := fun z => by rw [z, hb] at h; cases h
    exact .inl (.inl (by rw [hid_ne ne]; exact h))
  · have ne : a ≠ b := fun z => by rw [z, hb] at h; cases h
    exact .inl (.inr ⟨o, by rw [hid_ne ne]; exact h⟩)
  · exact .inr h
theorem rws_hide {K : PySem.W.Frag} {H : Hp} {b : Addr} {l : List V} (hb : H b = some (.lst l)) : ∀ {vs : List V} {L : List (List Int)}, DpAll K H vs (L.map rowT) → DpAll K (hid H b) vs (L.map rowT)
  | [], [], _ => .nil
  | [], _ :: _, h => by cases h
  | _ :: _, [], h => by cases h
  | v :: vs, S :: L, h => by
    cases h with
    | cons h1 h2 =>
      obtain ⟨a, rfl, h⟩ := rowT_at h1
      exact .cons (.tup (sqt_hide h hb) (dps_ints _)) (rws_hide hb h2)
end Af
/-! ### who goes or turns next -/
namespace Af
open PySem PySem.Spec PyProof.Rows L2
theorem dps_set {K : PySem.W.Frag} {G : Hp} {v : V} {d : PyData} (h1 : Dp K G v d) : ∀ {vs : List V} {ds : List PyData} (c : Nat), DpAll K G vs ds → DpAll K G (vs.set c v) (ds.set c d)
  | [], [], _, _ => .nil
  | [], _ :: _, _, h => by cases h
  | _ :: _, [], _, h => by cases h
  | x :: vs, e :: ds, 0, h => by
    cases h with
    | cons g h => exact .cons h1 h
  | x :: vs, e :: ds, c + 1, h => by
    cases h with
    | cons g h => exact .cons g (dps_set h1 c h)
theorem cut_drop {xs : List V} {k : Nat} (h : k ≤ xs.length) : cutV xs (some (k : Int)) none = xs.drop k := by
  unfold cutV
  rw [HT.sIx_none, HT.sIx_nat, Nat.min_eq_left h, List.take_of_length_le (by rw [List.length_drop]; omega)]
/-- the beats until one of the o eldest goes, or everybody turns -/
def btsM (B : List (List Int)) (S : List Int × List Int) (o : Nat) : Int := qN B S.1 o - 1 - (sumN (pas B S.1 S.2) B.length - sumN (pas B S.1 S.2) o)
section
variable {B : List (List Int)} {hi : Int} {S T : List Int × List Int} {o k : Nat}
theorem it_next (B : List (List Int)) (S : List Int × List Int) (n : Nat) : itB B (n + 1) S = itB B n (beatM B S) := by
  have := it_it B S 1 n
  rw [Nat.add_comm 1 n] at this
  exact this.symm
theorem bts_nn (G : GoodB B hi) (h : Ok B S) (ho : o ≤ B.length) : 0 ≤ btsM B S o := by
  have := (clk_bd G h.whole (B.length - o) o (by omega)).2
  unfold btsM; omega
theorem bts_zero (G : GoodB B hi) (h : Ok B S) (ho : o ≤ B.length) (hs : isStp B S o) : btsM B S o = 0 := by
  have hb : ∀ i, o ≤ i → i < B.length → ∃ l f, lenAt B S.1 i = some l ∧ S.2[i]? = some f ∧ S.1[i]? = some (endR l f) := fun i h1 h2 => by
    cases hm : moverO B S.1 S.2 with
    | none => exact stuck h hm i h2
    | some g =>
      obtain ⟨l, r, f, q⟩ := goes_of G (R := S.1) (F := S.2) h hm
      exact q.bl i (Nat.lt_of_lt_of_le (hs g hm) h1) h2
  have e := sumN_tele (p := pas B S.1 S.2) (q := qN B S.1) ho fun i h1 h2 => by
    obtain ⟨l, f, e1, e2, e3⟩ := hb i h1 h2
    exact pas_blocked G h.whole h2 e1 e2 e3
  have en : qN B S.1 B.length = 1 := by unfold qN; rw [if_neg (by omega)]
  unfold btsM
  omega
theorem bts_beat (G : GoodB B hi) (h : Ok B S) {g : Nat} (hm : moverO B S.1 S.2 = some g) (hg : o ≤ g) : btsM B (beatM B S) o = btsM B S o - 1 := by
  obtain ⟨l, r, f, q⟩ := goes_of G (R := S.1) (F := S.2) h hm
  have c := q.clk G h.whole
  have pre : ∀ i, i < o → (beatM B S).1[i]? = S.1[i]? ∧ (beatM B S).2[i]? = S.2[i]? := fun i hi => q.pre i (by omega)
  have e1 := pas_pre (P := B) (R := S.1) (F := S.2) (R' := (beatM B S).1) (F' := (beatM B S).2) pre
  have e2 : qN B (beatM B S).1 o = qN B S.1 o := by unfold qN totN; rw [lenAt_pre fun j hj => (pre j hj).1]
  unfold btsM
  rw [e1, e2]
  have c : sumN (pas B (beatM B S).1 (beatM B S).2) B.length = sumN (pas B S.1 S.2) B.length + 1 := c
  omega
theorem bts_stp (G : GoodB B hi) (h : Ok B S) (ho : o ≤ B.length) (e : btsM B S o = 0) : isStp B S o := fun g hm => by
  rcases Nat.lt_or_ge g o with z | z
  · exact z
  · have a := bts_beat G h hm z
    have b := bts_nn (o := o) G (beat_ok G h) ho
    omega
theorem bts_least (G : GoodB B hi) (ho : o ≤ B.length) : ∀ (n : Nat) {S : List Int × List Int}, Ok B S → btsM B S o = (n : Int) → isStp B (itB B n S) o ∧ ∀ j, j < n → ¬ isStp B (itB B j S) o
  | 0, S, h, e => ⟨bts_stp G h ho e, fun j hj => absurd hj (Nat.not_lt_zero j)⟩
  | n + 1, S, h, e => by
    have hns : ¬ isStp B S o := fun z => by rw [bts_zero G h ho z] at e; omega
    cases hm : moverO B S.1 S.2 with
    | none => exact absurd (fun g hg => by rw [hm] at hg; cases hg) hns
    | some g =>
      have hg : o ≤ g := by
        rcases Nat.lt_or_ge g o with z | z
        · exact absurd (fun g' hg' => by rw [hm] at hg'; cases hg'; exact z) hns
        · exact z
      have e2 := bts_beat G h hm hg
      obtain ⟨h1, h2⟩ := bts_least G ho n (beat_ok G h) (by omega)
      refine ⟨by rw [it_next]; exact h1, fun j hj => ?_⟩
      cases j with
      | zero => exact hns
      | succ j => rw [it_next]; exact h2 j (by omega)
/-! what the law says of them -/
structure FirstTurn (B : List (List Int)) (S : List Int × List Int) (k n : Nat) : Prop where
  at_ : goI B S n < (k : Int)
  lo : ∀ j, j < n → ¬ goI B S j < (k : Int)
structure FirstGo (B : List (List Int)) (S : List Int × List Int) (k n : Nat) : Prop where
  at_ : goI B S n = (k : Int)
  lo : ∀ j, j < n → goI B S j ≠ (k : Int)
theorem first_turn (G : GoodB B hi) (h : Ok B S) (hk : k ≤ B.length) {n : Nat} (e : btsM B S k = (n : Int)) : FirstTurn B S k n := by
  obtain ⟨h1, h2⟩ := bts_least G hk n h e
  exact ⟨isStp_iff.mp h1, fun j hj z => h2 j hj (isStp_iff.mpr z)⟩
theorem FirstGo.uniq {n m : Nat} (h : FirstGo B S k n) (h' : FirstGo B S k m) : n = m := by
  rcases Nat.lt_trichotomy n m with z | z | z
  · exact absurd h.at_ (h'.lo n z)
  · exact z
  · exact absurd h'.at_ (h.lo m z)
theorem FirstTurn.uniq {n m : Nat} (h : FirstTurn B S k n) (h' : FirstTurn B S k m) : n = m := by
  rcases Nat.lt_trichotomy n m with z | z | z
  · exact absurd h.at_ (h'.lo n z)
  · exact z
  · exact absurd h'.at_ (h.lo m z)
/-- the older ones stand still -/
theorem pre_keep (G : GoodB B hi) : ∀ (n : Nat) {S : List Int × List Int}, Ok B S → (∀ j, j < n → ¬ isStp B (itB B j S) o) → ∀ i, i < o → (itB B n S).1[i]? = S.1[i]? ∧ (itB B n S).2[i]? = S.2[i]?
  | 0, S, _, _, i, _ => ⟨rfl, rfl⟩
  | n + 1, S, h, hn, i, hi => by
    have h0 := hn 0 (by omega)
    cases hm : moverO B S.1 S.2 with
    | none => exact absurd (fun g hg => by rw [show moverO B (itB B 0 S).1 (itB B 0 S).2 = none from hm] at hg; cases hg) h0
    | some g =>
      have hg : o ≤ g := by
        rcases Nat.lt_or_ge g o with z | z
        · exact absurd (fun g' hg' => by rw [show moverO B (itB B 0 S).1 (itB B 0 S).2 = some g from hm] at hg'; cases hg'; exact z) h0
        · exact z
      obtain ⟨l, r, f, q⟩ := goes_of G (R := S.1) (F := S.2) h hm
      have p := q.pre i (by omega)
      have ih := pre_keep G n (beat_ok G h) (fun j hj => by have := hn (j + 1) (by omega); rwa [it_next] at this) i hi
      rw [it_next]
      exact ⟨ih.1.trans p.1, ih.2.trans p.2⟩
theorem bl_pre {R F R' F' : List Int} (h : ∀ i, i < k + 1 → R'[i]? = R[i]? ∧ F'[i]? = F[i]?) : isBl B R' F' k = isBl B R F k := by
  unfold isBl
  rw [(h k (by omega)).1, (h k (by omega)).2, lenAt_pre fun j hj => (h j (by omega)).1]
/-- who is not blocked goes as soon as the younger ones can't -/
theorem free_go (G : GoodB B hi) (h : Ok B S) (hk : k < B.length) (hb : isBl B S.1 S.2 k = false) {n : Nat} (e : btsM B S (k + 1) = (n : Int)) : FirstGo B S k n := by
  obtain ⟨h1, h2⟩ := bts_least G (o := k + 1) (by omega) n h e
  have hp := pre_keep G n h h2
  have hb' : isBl B (itB B n S).1 (itB B n S).2 k = false := by rw [bl_pre hp]; exact hb
  refine ⟨?_, fun j hj z => ?_⟩
  · cases hm : moverO B (itB B n S).1 (itB B n S).2 with
    | none =>
      have := movN_none (n := B.length) hm k hk
      rw [hb'] at this; cases this
    | some g =>
      obtain ⟨g1, g2, g3⟩ := movN_some (n := B.length) hm
      have g4 := h1 g hm
      have : g = k := by
        rcases Nat.lt_or_ge g k with z | z
        · have := g3 k z hk
          rw [hb'] at this; cases this
        · omega
      unfold goI
      rw [hm, this]; rfl
  · refine h2 j hj (isStp_iff.mpr ?_)
    have z : movI (moverO B (itB B j S).1 (itB B j S).2) = (k : Int) := z
    omega
theorem bl_notgo (hb : isBl B S.1 S.2 k = true) : goI B S 0 ≠ (k : Int) := fun z => by
  have z : movI (moverO B S.1 S.2) = (k : Int) := z
  cases hm : moverO B S.1 S.2 with
  | none => rw [hm] at z; have z : (-1 : Int) = (k : Int) := z; omega
  | some g =>
    rw [hm] at z
    have z : (g : Int) = (k : Int) := z
    have : g = k := by omega
    subst this
    obtain ⟨_, g2, _⟩ := movN_some (n := B.length) hm
    rw [hb] at g2; cases g2
theorem go_it (B : List (List Int)) (S : List Int × List Int) (i j : Nat) : goI B (itB B i S) j = goI B S (i + j) := by
  unfold goI; rw [it_it]
/-- who is blocked stays so until an older one goes -/
theorem bl_wait (G : GoodB B hi) : ∀ (n : Nat) {S : List Int × List Int}, Ok B S → isBl B S.1 S.2 k = true → (∀ j, j < n → ¬ isStp B (itB B j S) k) → (∀ j, j < n → ¬ isStp B (itB B j S) (k + 1)) ∧ isBl B (itB B n S).1 (itB B n S).2 k = true
  | 0, S, _, hb, _ => ⟨fun j hj => absurd hj (Nat.not_lt_zero j), hb⟩
  | n + 1, S, h, hb, hn => by
    have h0 := hn 0 (by omega)
    cases hm : moverO B S.1 S.2 with
    | none => exact absurd (fun g hg => by rw [show moverO B (itB B 0 S).1 (itB B 0 S).2 = none from hm] at hg; cases hg) h0
    | some g =>
      have hg : k ≤ g := by
        rcases Nat.lt_or_ge g k with z | z
        · exact absurd (fun g' hg' => by rw [show moverO B (itB B 0 S).1 (itB B 0 S).2 = some g from hm] at hg'; cases hg'; exact z) h0
        · exact z
      obtain ⟨_, g2, _⟩ := movN_some (n := B.length) hm
      have hg1 : k + 1 ≤ g := by
        rcases Nat.lt_or_ge k g with z | z
        · exact z
        · have : g = k := by omega
          rw [this, hb] at g2; cases g2
      obtain ⟨l, r, f, q⟩ := goes_of G (R := S.1) (F := S.2) h hm
      have hb1 : isBl B (beatM B S).1 (beatM B S).2 k = true := by rw [bl_pre fun i hi => q.pre i (by omega)]; exact hb
      obtain ⟨i1, i2⟩ := bl_wait G n (beat_ok G h) hb1 fun j hj => by have := hn (j + 1) (by omega); rwa [it_next] at this
      refine ⟨fun j hj => ?_, by rw [it_next]; exact i2⟩
      cases j with
      | zero => intro z; have := z g hm; omega
      | succ j => rw [it_next]; exact i1 j (by omega)
/-- at the end that they face away from -/
def Aw (B : List (List Int)) (S : List Int × List Int) (k : Nat) : Prop := ∃ n b, lenAt B S.1 k = some n ∧ 1 ≤ n ∧ (b = 1 ∨ b = -1) ∧ S.2[k]? = some (-b) ∧ S.1[k]? = some (endR n b)
theorem aw_beat (G : GoodB B hi) (h : Ok B S) (hk : k < B.length) (hs : isStp B S k) : Aw B (beatM B S) k := by
  cases hm : moverO B S.1 S.2 with
  | none =>
    obtain ⟨l, f, e1, e2, e3⟩ := stuck h hm k hk
    rw [beat_stuck hm]
    obtain ⟨l', r, g1, g2, g3, g4⟩ := h.st.all k hk
    rw [e1] at g1; cases g1
    have hf := h.fo f (List.mem_of_getElem? e2)
    refine ⟨l, f, e1, by omega, hf, ?_, e3⟩
    show (negL S.2)[k]? = _
    unfold negL
    rw [List.getElem?_map, e2]; rfl
  | some g =>
    obtain ⟨l, r, f, q⟩ := goes_of G (R := S.1) (F := S.2) h hm
    obtain ⟨n, b, a1, a2, a3, _, a4, a5⟩ := q.aw k (hs g hm) hk
    exact ⟨n, b, a1, a2, a3, a4, a5⟩
theorem aw_free {n : Int} (h : Aw B S k) (e : lenAt B S.1 k = some n) (hn : 1 < n) : isBl B S.1 S.2 k = false := by
  obtain ⟨n', b, a1, a2, a3, a4, a5⟩ := h
  rw [e] at a1; cases a1
  unfold isBl
  rw [a5, e, a4]
  show decide (endR n b = endR n (-b)) = false
  refine decide_eq_false ?_
  unfold endR
  rcases a3 with rfl | rfl
  · rw [if_pos rfl, if_neg (by decide)]; omega
  · rw [if_neg (by decide), if_pos (by decide)]; omega
theorem one_bl (h : Ok B S) (hk : k < B.length) (e : lenAt B S.1 k = some 1) : isBl B S.1 S.2 k = true := by
  obtain ⟨n, r, g1, g2, g3, g4⟩ := h.st.all k hk
  rw [e] at g1; cases g1
  unfold isBl
  rw [g2, e]
  refine decide_eq_true ?_
  show r = endR 1 _
  unfold endR
  split <;> omega
/-- while the ladder has one rung, and when it has more again -/
theorem aw_wait (G : GoodB B hi) (hk : k < B.length) : ∀ (m : Nat) {S : List Int × List Int}, Ok B S → Aw B S k → (∀ j, j < m → lenAt B (itB B j S).1 k = some 1) → ∀ n : Int, lenAt B (itB B m S).1 k = some n → 1 < n → Aw B (itB B m S) k
  | 0, S, _, ha, _, n, _, _ => ha
  | m + 1, S, h, ha, hl, n, e, hn => by
    have oT := itB_ok G m h
    have eT := hl m (by omega)
    show Aw B (beatM B (itB B m S)) k
    refine aw_beat G oT hk fun g hm => ?_
    rcases Nat.lt_or_ge g k with z | z
    · exact z
    · obtain ⟨l, r, f, q⟩ := goes_of G (R := (itB B m S).1) (F := (itB B m S).2) oT hm
      have e' : lenAt B (beatM B (itB B m S)).1 k = some n := e
      have : lenAt B (beatM B (itB B m S)).1 k = lenAt B (itB B m S).1 k := lenAt_pre fun i hi => (q.pre i (by omega)).1
      rw [this, eT] at e'
      cases e'
      omega
/-! weights: a ladder of more than one rung -/
def longW (B : List (List Int)) (k : Nat) : List (List Int) := match k with
  | 0 => onesW B
  | c + 1 => (onesW B).set c ((B[c + 1]?.getD []).map fun l => if decide (1 < l) then (1 : Int) else 0)
theorem long_fun {c : Nat} {row : List Int} (Tb : Tabs B hi) (e : B[c]? = some row) {next : List Int} (e2 : B[c + 1]? = some next) : longW B (c + 1) = funW B fun i r => if i = c then (if decide (1 < (next[(r - 1).toNat]?.getD 0)) then (1 : Int) else 0) else 1 := by
  have := fun_set (g := fun _ _ => 1) (h := fun r => if decide (1 < (next[(r - 1).toNat]?.getD 0)) then (1 : Int) else 0) e
  rw [← this, ← ones_fun]
  show (onesW B).set c _ = _
  congr 1
  rw [e2]
  have hl := Tb.wide c row next e e2
  apply List.ext_getElem?
  intro j
  show (next.map _)[j]? = _
  rw [List.getElem?_map, List.getElem?_map]
  by_cases hj : j < next.length
  · rw [List.getElem?_eq_getElem hj, List.getElem?_range (by omega)]
    show some (if decide (1 < next[j]) = true then (1 : Int) else 0) = some (if decide (1 < next[(((j : Nat) + 1 : Int) - 1).toNat]?.getD 0) = true then (1 : Int) else 0)
    rw [show (((j : Nat) + 1 : Int) - 1).toNat = j by omega, List.getElem?_eq_getElem hj]; rfl
  · rw [List.getElem?_eq_none (by omega), List.getElem?_eq_none (by rw [List.length_range]; omega)]; rfl
theorem w01_long (Tb : Tabs B hi) (hk : k < B.length) : W01 (longW B k) := by
  cases k with
  | zero => exact w01_ones B
  | succ c =>
    rw [long_fun Tb (List.getElem?_eq_getElem (show c < B.length by omega)) (List.getElem?_eq_getElem hk)]
    refine w01_fun B fun i r => ?_
    split
    · split
      · exact .inr rfl
      · exact .inl rfl
    · exact .inr rfl
theorem wok_long (Tb : Tabs B hi) (hk : k < B.length) : WOk B (longW B k) := by
  cases k with
  | zero => exact wok_ones Tb
  | succ c =>
    rw [long_fun Tb (List.getElem?_eq_getElem (show c < B.length by omega)) (List.getElem?_eq_getElem hk)]
    refine wok_fun Tb fun i r _ _ => ?_
    split
    · split <;> decide
    · decide
theorem wgt_long (Tb : Tabs B hi) (S : Stands B R) (hk : k < B.length) (h0 : k ≠ 0) {n : Int} (e : lenAt B R k = some n) : wgt B (longW B k) R = if decide (1 < n) then (1 : Int) else 0 := by
  cases k with
  | zero => exact absurd rfl h0
  | succ c =>
    obtain ⟨next, r, g1, g2, g3, g4⟩ := lenAt_succ e
    rw [long_fun Tb (List.getElem?_eq_getElem (show c < B.length by omega)) g1, wgt_fun S, prod_at (c := c) _ (by omega) fun i hi hne => if_neg hne, if_pos rfl, g2]
    show (if decide (1 < next[(r - 1).toNat]?.getD 0) = true then (1 : Int) else 0) = _
    rw [g4]; rfl
/-- whoever goes at no beat of a round -/
theorem never (G : GoodB B hi) (h : Ok B S) (hk : k < B.length) (hl : ∀ j, lenAt B (itB B j S).1 k = some 1) : rndN B (k + 1) - rndN B k = 0 := by
  have hN := many_pos G
  obtain ⟨L, hL⟩ : ∃ L : Nat, (L : Int) = 2 * manyN B := ⟨(2 * manyN B).toNat, by omega⟩
  rw [rnd_goes G h hk hL]
  have : (equals k ((List.range L).map (goI B S))).count true = 0 := by
    rw [List.count_eq_zero]
    intro hm
    unfold equals at hm
    obtain ⟨g, hg, e⟩ := List.mem_map.mp hm
    obtain ⟨j, _, rfl⟩ := List.mem_map.mp hg
    have ej : goI B S j = (k : Int) := of_decide_eq_true e
    have nb := bl_notgo (one_bl (itB_ok G j h) hk (hl j))
    rw [go_it, Nat.add_zero] at nb
    exact nb ej
  rw [this]; rfl
/-- who goes next, if blocked -/
theorem wait_go (G : GoodB B hi) (h : Ok B S) (hk : k < B.length) (hr : rndN B (k + 1) - rndN B k ≠ 0) (hb : isBl B S.1 S.2 k = true) {a m c : Nat} (e1 : btsM B S k = (a : Int)) (e2 : Nth B (longW B k) (itB B (a + 1) S) 0 m) (e3 : btsM B (itB B (a + 1 + m) S) (k + 1) = (c : Int)) : FirstGo B S k (a + 1 + m + c) := by
  have Tb := G.tabs
  obtain ⟨h1, h2⟩ := bts_least G (o := k) (by omega) a h e1
  obtain ⟨w1, w2⟩ := bl_wait G a h hb h2
  have oA := itB_ok G a h
  have o1 : Ok B (itB B (a + 1) S) := itB_ok G (a + 1) h
  have aw1 : Aw B (itB B (a + 1) S) k := aw_beat G oA hk h1
  have zero : ∀ j, j < m → wgt B (longW B k) (itB B j (itB B (a + 1) S)).1 = 0 := fun j hj => by
    have hw := w01_long Tb hk
    have s1 := sumT_mono (B := B) (S := itB B (a + 1) S) hw (show j + 1 ≤ m from hj)
    have s0 := sumT_nn (B := B) (S := itB B (a + 1) S) hw j
    have s2 : sumT B (longW B k) (itB B (a + 1) S) (j + 1) = sumT B (longW B k) (itB B (a + 1) S) j + wgt B (longW B k) (itB B j (itB B (a + 1) S)).1 := rfl
    have s3 := e2.sum
    rcases wgt_bit (B := B) hw (itB B j (itB B (a + 1) S)).1 with z | z
    · exact z
    · omega
  have ones0 : k = 0 → m = 0 := fun z => by
    subst z
    rcases Nat.eq_zero_or_pos m with q | q
    · exact q
    · have := zero 0 q
      have : wgt B (onesW B) (itB B (a + 1) S).1 = 0 := this
      rw [wgt_ones o1.st] at this; exact absurd this (by decide)
  have oM := itB_ok G m o1
  obtain ⟨n, r, g1, g2, g3, g4⟩ := oM.st.all k hk
  have hn1 : 1 < n := by
    by_cases z : k = 0
    · by_cases q : 1 < n
      · exact q
      · exfalso
        subst z
        refine hr (never G h hk fun j => ?_)
        have : lenAt B (itB B j S).1 0 = lenAt B (itB B m (itB B (a + 1) S)).1 0 := rfl
        rw [this, g1, show n = 1 by omega]
    · have w := e2.one
      rw [wgt_long Tb oM.st hk z g1] at w
      by_cases q : 1 < n
      · exact q
      · rw [decide_eq_false q] at w; exact absurd w (by decide)
  have len1 : ∀ j, j < m → lenAt B (itB B j (itB B (a + 1) S)).1 k = some 1 := fun j hj => by
    have z : k ≠ 0 := fun z => by have := ones0 z; omega
    have oJ := itB_ok G j o1
    obtain ⟨n', r', q1, q2, q3, q4⟩ := oJ.st.all k hk
    have w := zero j hj
    rw [wgt_long Tb oJ.st hk z q1] at w
    have : n' = 1 := by
      by_cases q : 1 < n'
      · rw [decide_eq_true q] at w; exact absurd w (by decide)
      · omega
    rw [q1, this]
  have awM := aw_wait G hk m o1 aw1 len1 n g1 hn1
  have frM := aw_free awM g1 hn1
  rw [it_it] at frM
  have oM' : Ok B (itB B (a + 1 + m) S) := itB_ok G _ h
  have fg := free_go G oM' hk frM e3
  refine ⟨?_, fun j hj z => ?_⟩
  · have := fg.at_
    rwa [go_it] at this
  · rcases Nat.lt_or_ge j a with q | q
    · refine w1 j q (isStp_iff.mpr ?_)
      have z : movI (moverO B (itB B j S).1 (itB B j S).2) = (k : Int) := z
      omega
    · rcases Nat.lt_or_ge j (a + 1) with q2 | q2
      · have : j = a := by omega
        subst this
        have := isStp_iff.mp h1
        have z : movI (moverO B (itB B j S).1 (itB B j S).2) = (k : Int) := z
        omega
      · rcases Nat.lt_or_ge j (a + 1 + m) with q3 | q3
        · have nb := bl_notgo (one_bl (itB_ok G (j - (a + 1)) o1) hk (len1 (j - (a + 1)) (by omega)))
          rw [go_it, go_it, show a + 1 + (j - (a + 1) + 0) = j by omega] at nb
          exact nb z
        · have := fg.lo (j - (a + 1 + m)) (by omega)
          rw [go_it, show a + 1 + m + (j - (a + 1 + m)) = j by omega] at this
          exact this z
theorem long_all (G : GoodB B hi) (h : Ok B S) (hk : k < B.length) (hr : rndN B (k + 1) - rndN B k ≠ 0) : allW B (longW B k) ≠ 0 := fun z => by
  by_cases k0 : k = 0
  · subst k0
    have e : allW B (onesW B) = 0 := z
    rw [allW_ones] at e
    have := many_pos G
    omega
  · refine hr (never G h hk fun j => ?_)
    have hw := w01_long G.tabs hk
    have s0 := sumT_none G h hw z j
    have s1 := sumT_none G h hw z (j + 1)
    have s2 : sumT B (longW B k) S (j + 1) = sumT B (longW B k) S j + wgt B (longW B k) (itB B j S).1 := rfl
    obtain ⟨n, r, g1, g2, g3, g4⟩ := (itB_ok G j h).st.all k hk
    have w : wgt B (longW B k) (itB B j S).1 = 0 := by omega
    rw [wgt_long G.tabs (itB_ok G j h).st hk k0 g1] at w
    have : n = 1 := by
      by_cases q : 1 < n
      · rw [decide_eq_true q] at w; exact absurd w (by decide)
      · omega
    rw [g1, this]
/-- who goes at no beat of a round goes at none -/
theorem rnd_none (G : GoodB B hi) (h : Ok B S) (hk : k < B.length) (hr : rndN B (k + 1) - rndN B k = 0) {L : Nat} (hL : (L : Int) = 2 * manyN B) : ∀ j, j < L → goI B S j ≠ (k : Int) := fun j hj z => by
  rw [rnd_goes G h hk hL] at hr
  have : 0 < (equals k ((List.range L).map (goI B S))).count true := by
    rw [List.count_pos_iff]
    unfold equals
    exact List.mem_map.mpr ⟨goI B S j, List.mem_map.mpr ⟨j, List.mem_range.mpr hj, rfl⟩, decide_eq_true z⟩
  omega
theorem bts_le (G : GoodB B hi) (h : Ok B S) (ho : o ≤ B.length) : btsM B S o ≤ manyN B - 1 := by
  have hq : btsM B S 0 ≤ manyN B - 1 := by
    have := (clk_rg G h).1
    obtain ⟨n, e⟩ := G.first
    have h0 : 0 < B.length := (List.getElem?_eq_some_iff.mp e).1
    have q0 : qN B S.1 0 = manyN B := by unfold qN; rw [if_pos h0, tot_zero e]; rfl
    have s0 : sumN (pas B S.1 S.2) 0 = 0 := rfl
    have c : clk B S.1 S.2 = sumN (pas B S.1 S.2) B.length := rfl
    unfold btsM
    omega
  have a0 := bts_nn (o := 0) G h (Nat.zero_le _)
  have a1 := bts_nn (o := o) G h ho
  obtain ⟨n0, e0⟩ : ∃ n : Nat, btsM B S 0 = (n : Int) := ⟨(btsM B S 0).toNat, by omega⟩
  obtain ⟨n1, e1⟩ : ∃ n : Nat, btsM B S o = (n : Int) := ⟨(btsM B S o).toNat, by omega⟩
  obtain ⟨h1, _⟩ := bts_least G (Nat.zero_le _) n0 h e0
  obtain ⟨_, h2⟩ := bts_least G ho n1 h e1
  have : n1 ≤ n0 := by
    rcases Nat.lt_or_ge n0 n1 with z | z
    · exact absurd (fun g hg => Nat.lt_of_lt_of_le (h1 g hg) (Nat.zero_le o)) (h2 n0 z)
    · exact z
  omega
end
end Af
set_option maxHeartbeats 4000000
/-! ### sorted(set(a list of ints)) -/
namespace St
open PySem PySem.Spec PyProof.Rows L2
/-- the object that a call of set makes first -/
def raw (w : World) : Obj := { cls := .type "set", dict := none, data := .set #[] 0 (.fresh 0 0 (!w.params.followText "set-order")) }
section
variable {prg : Program} {w : World} {ar : Around} {Er : Value → Shared → Prop} {z : Shared}
/-- what is left of z when the set holds the ints -/
def Filled (w : World) (z : Shared) (ms : List Int) (v : Value) (z2 : Shared) : Prop :=
  v = .none ∧ ∃ hp tk c, z2 = { z with heap := hp, toks := tk } ∧ SetR w hp z.heap.objs.size (fun j => decide (j ∈ ms)) c ∧ c ≤ ms.length ∧ (∀ b o, z.heap.get? b = some o → hp.get? b = some o)
theorem init_list {l : Addr} {vs : Array Value} (ms : List Int) {br : Around} (hd : br.handled = none) (hl : z.heap.IsList l vs) (hI : IntsAre vs.toList ms) (few : ms.length + 1 < scanBound)
    {G : PySem.Fin → Shared → Prop} (fin : ∀ z2, Filled w z ms .none z2 → G (.done (.ret .none)) z2) :
    wpAny (model prg w) br (Builtin.«set.__init__» ⟨[.ref z.heap.objs.size, .ref l], []⟩) G Er { z with heap := z.heap.push (raw w) } := by
  have len : vs.size = ms.length := by have q := IntsAre.length hI; rwa [Array.length_toList] at q
  have own : (z.heap.push (raw w)).get? z.heap.objs.size = some (raw w) := Heap.get?_push_size _ rfl
  have ty : Shared.TypeIs { z with heap := z.heap.push (raw w) } (.ref z.heap.objs.size) "set" := ⟨_, own, rfl⟩
  obtain ⟨⟨ocl, odi, oda, osl⟩, at0, ec, k0, ed⟩ := hl
  simp only at ec ed; subst ec; subst ed
  have at1 : (z.heap.push (raw w)).get? l = some { cls := .type "list", dict := odi, data := .seq vs k0, slots := osl } := Heap.get?_push_of_some _ at0
  have s1 := F.sub_list_set; have s2 := F.sub_list_frozenset; have nd : (Value.type "list" == Value.type "dict") = false := by decide
  have isl : (z.heap.push (raw w)).IsList l vs := ⟨_, at1, rfl, k0, rfl⟩
  unfold Builtin.«set.__init__» noKeywords Builtin.Frozenset.updateFrom
  generalize hJ : pyIter = J; wp_walk; subst hJ
  refine wpAny_pyIter_list isl (wpAny_bind (wpAny_runValue ?_))
  have lt : l < z.heap.objs.size := Heap.lt_size at0
  have nI : l ≠ (z.heap.push (raw w)).objs.size := by rw [Heap.size_push]; exact Nat.ne_of_lt (Nat.lt_succ_of_lt lt)
  have out : z.heap.objs.size ∉ [(z.heap.push (raw w)).objs.size, l] := by
    intro m; rw [Heap.size_push] at m
    rcases List.mem_cons.mp m with e | m
    · exact Nat.ne_of_lt (Nat.lt_succ_self _) e
    · rcases List.mem_cons.mp m with e | m
      · exact Nat.ne_of_lt lt e.symm
      · exact nomatch m
  have nth : ∀ (i : Nat) (v : Value), vs[i]? = some v → ∃ k t, ms[i]? = some k ∧ v = .int k t := fun i v e => by
    have hi : i < ms.length := len ▸ (Array.getElem?_eq_some_iff.mp e).1
    obtain ⟨t, ev⟩ := PyProof.Rows.IntsAre.int_at hI i v ((Array.getElem?_toList ..).trans e)
    exact ⟨ms[i], t, List.getElem?_eq_getElem hi, by rw [ev, List.getD_eq_getElem?_getD, List.getElem?_eq_getElem hi]; rfl⟩
  refine set_update_ints ((Walks.list (by simp [hd]) _ l nI vs).toS) z.heap.objs.size out ms len few nth (vs.size - 0) 0 _ (by omega) (Nat.zero_le _) ⟨⟨_, Heap.get?_push_size _ rfl, rfl, rfl⟩, isl.push _⟩
    ⟨0, Nat.le_refl 0, setR_new_at (Heap.get?_push_of_some _ own)⟩ fun z3 c mv hc R => ?_
  obtain ⟨h3, g3, d3, t3, o3⟩ := z3
  obtain rfl : g3 = z.gens := mv.gens
  obtain rfl : d3 = z.drawn := mv.drawn
  obtain rfl : o3 = z.os := mv.os
  show wpAny _ _ _ _ _ _
  refine wpAny_pure ?_
  show wpAny _ _ (ret Value.none) _ _ _
  refine wpAny_pure (fin _ ⟨rfl, h3, t3, c, rfl, R, len ▸ hc, fun b o e => ?_⟩)
  have lb : b < z.heap.objs.size := Heap.lt_size e
  refine mv.heap b o (fun m => ?_) (Heap.get?_push_of_some _ (Heap.get?_push_of_some _ e))
  rcases List.mem_cons.mp m with e | m
  · exact Nat.ne_of_lt lb e
  · rcases List.mem_cons.mp m with e | m
    · rw [Heap.size_push] at e; exact Nat.ne_of_lt (Nat.lt_succ_of_lt lb) e
    · exact nomatch m
theorem call_list {l : Addr} {vs : Array Value} (ms : List Int) {Q : Value → Shared → Prop} (hd : ar.handled = none) (hl : z.heap.IsList l vs) (hI : IntsAre vs.toList ms) (few : ms.length + 1 < scanBound)
    (q : ∀ v z2, Filled w z ms v z2 → Q (.ref z.heap.objs.size) z2) : wpAny (model prg w) ar (call (.type "set") [.ref l]) Q Er z := by
  obtain ⟨c0, tl, hm⟩ := F.called_set.mro
  have a1 := F.called_set.made; have a2 := F.called_set.sub; have a3 := F.called_set.notType; have a4 := F.called_set.canCreate; have a5 := F.typeCall_set_1 (.ref l)
  refine wpAny_call (codeAny_of_tree ?_)
  show wpAny _ _ (callAny (.type "set") _) _ _ _
  refine wpAny_pure ⟨Code.quiet_builtin _ (by decide +kernel), codeAny_builtin F.entry_type_call ?_⟩
  rw [Around.under_plain (weight_type_call_type "set" [.ref l] []) rfl]
  repeat (any_goals (first | assumption | wp_step))
  refine codeAny_mono (code_set_led1 (.ref l) (E := Er) (Q₁ := fun v z1 => v = .ref z.heap.objs.size ∧ z1 = { z with heap := z.heap.push (raw w) }) ⟨rfl, rfl⟩) fun r z1 hr => ?_
  rcases r with e | fl
  · exact hr
  cases fl with
  | ret v =>
    obtain ⟨rfl, rfl⟩ := hr
    have own : (z.heap.push (raw w)).get? z.heap.objs.size = some (raw w) := Heap.get?_push_size _ rfl
    have ty : Shared.TypeIs { z with heap := z.heap.push (raw w) } (.ref z.heap.objs.size) "set" := ⟨_, own, rfl⟩
    have b1 := F.called_set.init.lookup; have b2 := F.called_set.init.bind (.ref z.heap.objs.size)
    repeat (any_goals (first | assumption | wp_step))
    refine codeAny_mono (codeAny_call_builtin (R := wants (Filled w z ms) Er) F.called_set.init.plain F.entry_set_init (check_set_init_1 ty (init_list ms ?hd hl hI few fun z2 f => f))) fun r2 z2 h2 => ?_
    case hd => simp [hd]
    rcases r2 with e | fl2
    · exact h2
    cases fl2 with
    | ret v2 =>
      have h3 : Filled w z ms v2 z2 := h2
      have e2 := h3.1; subst e2
      repeat (any_goals (first | assumption | wp_step))
      exact q _ _ h3
    | _ => exact h2.elim
  | _ => exact hr.elim
end
section
variable {X : Cx}
def rSetL (K : PySem.W.Frag) (w : World) : List V → Hp → VK → Prop := fun vs H Q => ∃ (a : Addr) (ms : List Int), vs = [V.ref a] ∧ SqL K H a (ms.map V.int) ∧ ms.length < 64 ∧
  ∀ (p : Addr) (c : Nat), H p = none → c ≤ ms.length → Q (.ref p) (upd H p (SetO w p (fun j => decide (j ∈ ms)) c))
theorem cr_setL (hc : X.calm = true) : CallR X (.type "set") (rSetL X.K X.w) := by
  intro pins s σ H vs us Q I r h
  obtain ⟨a, ms, rfl, ha, few, q⟩ := h
  rw [Vals.ref1 r]
  obtain ⟨its, rv, pl, hz⟩ := I.list ha
  have hi : IntsAre its.toArray.toList ms := ints_of_vals rv
  refine call_list ms (I.ok.hd hc) pl.isList hi (by unfold scanBound; omega) fun v z2 ⟨_, hp, tk, c, e, R, hcn, k⟩ => ?_
  subst e
  have hn : H s.heap.objs.size = none := I.hok.fresh (Nat.le_refl _)
  exact ⟨.ref _, upd H s.heap.objs.size (SetO X.w s.heap.objs.size (fun j => decide (j ∈ ms)) c), I.laid (t' := tk) k (Nat.le_refl _) (setO_new R), rfl, q _ _ hn hcn⟩
theorem set_ints {K : PySem.W.Frag} {w : World} (hc : X.calm = true) (hK : X.K = K := by rfl) (hw : X.w = w := by rfl) : CallR X (.type "set") (rSetL K w) := by
  subst hK hw; exact cr_setL hc
theorem sort_ints {w : World} (hc : X.calm = true) (hw : X.w = w := by rfl) : CallR X (.builtin "sorted") (rSortedSet w) := by
  subst hw; exact cr_sortedSet hc
theorem len_at {K : PySem.W.Frag} (hK : X.K = K := by rfl) : CallR X (.builtin "len") (fun xs H Q => ∃ p ys, xs = [.ref p] ∧ (SqL K H p ys ∨ SqT K H p ys) ∧ Q (.int ys.length) H) := by
  subst hK; exact call_len_seq
end
end St
namespace Af
open PySem PySem.Spec PyProof.Rows L2
theorem bSet : bootBuiltins "set" = some (.type "set") := boot_set
theorem bSorted : bootBuiltins "sorted" = some (.builtin "sorted") := boot_sorted
section
variable {B : List (List Int)} {hi : Int} {S : List Int × List Int} {k n : Nat}
theorem cnt_no (f : Nat → Bool) (h : ∀ j, j < n → f j = false) : ((List.range n).map f).count true = 0 := by
  refine List.count_eq_zero.mpr fun m => ?_
  obtain ⟨j, hj, e⟩ := List.mem_map.mp m
  rw [h j (List.mem_range.mp hj)] at e
  exact nomatch e
theorem cnt_one (f : Nat → Bool) (h : ∀ j, j < n → f j = false) (e : f n = true) : ((List.range (n + 1)).map f).count true = 1 := by
  rw [List.range_succ, List.map_append, List.count_append, cnt_no f h]
  show 0 + [f n].count true = 1
  rw [e]; rfl
/-- how often somebody older than k has gone when the first of them does -/
theorem turn_far (G : GoodB B hi) (h : Ok B S) (hk : k ≤ B.length) (f : FirstTurn B S k n) : stepsM B S k (n : Int) = 0 ∧ stepsM B S k ((n : Int) + 1) = 1 := by
  have lo : ∀ j, j < n → decide (goI B S j < (k : Int)) = false := fun j hj => decide_eq_false (f.lo j hj)
  have e0 := steps_count (k := k) G h hk n
  have e1 := steps_count (k := k) G h hk (n + 1)
  unfold below at e0 e1
  rw [List.map_map] at e0 e1
  rw [show (((List.range n).map ((fun g => decide (g < (k : Int))) ∘ goI B S)).count true) = 0 from cnt_no _ lo] at e0
  rw [show (((List.range (n + 1)).map ((fun g => decide (g < (k : Int))) ∘ goI B S)).count true) = 1 from cnt_one _ lo (decide_eq_true f.at_)] at e1
  exact ⟨e0, e1⟩
theorem go_far (G : GoodB B hi) (h : Ok B S) (hk : k < B.length) (f : FirstGo B S k n) : stepsM B S (k + 1) (n : Int) - stepsM B S k (n : Int) = 0 ∧ stepsM B S (k + 1) ((n : Int) + 1) - stepsM B S k ((n : Int) + 1) = 1 := by
  have lo : ∀ j, j < n → decide (goI B S j = (k : Int)) = false := fun j hj => decide_eq_false (f.lo j hj)
  have e0 := equals_count k ((List.range n).map (goI B S))
  have e1 := equals_count k ((List.range (n + 1)).map (goI B S))
  rw [← steps_count G h hk n, ← steps_count G h (Nat.le_of_lt hk) n] at e0
  rw [← steps_count G h hk (n + 1), ← steps_count G h (Nat.le_of_lt hk) (n + 1)] at e1
  unfold equals at e0 e1
  rw [List.map_map] at e0 e1
  rw [show (((List.range n).map ((fun g => decide (g = (k : Int))) ∘ goI B S)).count true) = 0 from cnt_no _ lo] at e0
  rw [show (((List.range (n + 1)).map ((fun g => decide (g = (k : Int))) ∘ goI B S)).count true) = 1 from cnt_one _ lo (decide_eq_true f.at_)] at e1
  exact ⟨e0.symm, e1.symm⟩
end
end Af
set_option maxHeartbeats 4000000
/-! ### sorted of a list of data, of any length -/
namespace Srt
open PySem PySem.Spec PyProof.Rows L2 PySem.W Af
def dLe (a b : PyData) : Bool := sortLe (listOrd itemOrd) false keyToks a b
def pLe (a b : V × PyData) : Bool := dLe a.2 b.2
def rSortD (K : PySem.W.Frag) : List V → Hp → VK → Prop := fun vs H Q => ∃ (a : Addr) (xs : List V) (ds : List PyData), vs = [.ref a] ∧ SqL K H a xs ∧ DpAll K H xs ds ∧ AllAlike ds ∧ PySem.W.Sortable ds ∧ (∀ d ∈ ds, d.depth ≤ 60) ∧
  ∀ p : Addr, H p = none → Q (.ref p) (upd H p (.lst (((xs.zip ds).mergeSort pLe).map Prod.fst)))
theorem eachR {K : PySem.W.Frag} {X : Cx} (hK : X.K = K) {pins : List (Addr × Obj)} {σ : L2.St} {H : Hp} {s : Shared} (I : Inv X pins σ H s) : ∀ {xs : List V} {us : List Value} {ds : List PyData}, Vals xs us → DpAll K H xs ds → EachIs (fun u (b : V × PyData) => RelV b.1 u ∧ ∃ as, Reads s.heap u b.2 as) us (xs.zip ds)
  | [], [], [], _, _ => .nil
  | [], [], _ :: _, _, h => by cases h
  | [], _ :: _, _, h, _ => by cases h
  | _ :: _, [], _, h, _ => by cases h
  | _ :: _, _ :: _, [], _, h => by cases h
  | x :: xs, u :: us, d :: ds, h, g => by
    cases h with
    | cons h1 h2 =>
      cases g with
      | cons g1 g2 =>
        subst hK
        exact .cons ⟨h1, Dp.reads I d x u g1 h1⟩ (eachR rfl I h2 g2)
theorem each_vals : ∀ {us : List Value} {bs : List (V × PyData)} {h : Heap}, EachIs (fun u (b : V × PyData) => RelV b.1 u ∧ ∃ as, Reads h u b.2 as) us bs → Vals (bs.map Prod.fst) us
  | _, _, _, .nil => .nil
  | _, _, _, .cons a b => .cons a.1 (each_vals b)
theorem each_data : ∀ {us : List Value} {xs : List V} {ds : List PyData} {h : Heap}, xs.length = ds.length → EachIs (fun u (b : V × PyData) => RelV b.1 u ∧ ∃ as, Reads h u b.2 as) us (xs.zip ds) → EachIs (fun u d => ∃ as, Reads h u d as) us ds
  | [], [], [], _, _, _ => .nil
  | _, [], _ :: _, _, e, _ => by cases e
  | _, _ :: _, [], _, e, _ => by cases e
  | _ :: _, [], [], _, _, h => by cases h
  | [], _ :: _, _ :: _, _, _, h => by cases h
  | u :: us, x :: xs, d :: ds, _, e, h => by
    cases h with
    | cons a b => exact .cons a.2 (each_data (by simpa using e) b)
theorem each_keys {h : Heap} {ds0 : List PyData} (hal : AllAlike ds0) : ∀ {us : List Value} {bs : List (V × PyData)}, (∀ b ∈ bs, b.2 ∈ ds0) → EachIs (fun u (b : V × PyData) => RelV b.1 u ∧ ∃ as, Reads h u b.2 as) us bs → EachIs (fun v (b : V × PyData) => (dataKind h ds0).keyOf v = some (keyToks b.2)) us bs
  | _, _, _, .nil => .nil
  | _, _, hm, .cons a b => by
    obtain ⟨as, r⟩ := a.2
    exact .cons (dataKind_some hal (hm _ List.mem_cons_self) r) (each_keys hal (fun b hb => hm b (List.mem_cons_of_mem _ hb)) b)
theorem cr_sortD {X : Cx} {K : PySem.W.Frag} (hu : X.A.units + 64 < cLine) (hK : X.K = K := by rfl) : CallR X (.builtin "sorted") (rSortD K) := by
  intro pins s σ H vs us Q I r h
  obtain ⟨a, xs, ds, rfl, hs, hd, hal, hso, hdp, q⟩ := h
  obtain ⟨its, rv, hl, hz⟩ := I.list (by rw [hK]; exact hs)
  rw [Vals.ref1 r]
  have e0 := eachR hK I rv hd
  have keep : ∀ b o, s.heap.get? b = some o → (sortingHeap (copyHeap s.heap its) (s.heap.objs.size + 1) its).get? b = some o := fun b o e => sorting_copy_old e
  have e1 : EachIs (fun u (b : V × PyData) => RelV b.1 u ∧ ∃ as, Reads (sortingHeap (copyHeap s.heap its) (s.heap.objs.size + 1) its) u b.2 as) its (xs.zip ds) := e0.mono fun u b z => ⟨z.1, z.2.elim fun as y => ⟨as, PyProof.Rows.Reads.keeps keep y⟩⟩
  have lx : xs.length = ds.length := dps_len hd
  have hun : ∀ d, d ∈ ds → (X.A.in1.in1).units + d.depth < cLine := fun d hm => by
    have h1 := hdp d hm
    have h2 : X.A.in1.in1.units = X.A.units + 2 := rfl
    omega
  have S := SortsAt.data (prog := X.prog) (w := X.w) (A := X.A.in1.in1) (s := { s with heap := sortingHeap (copyHeap s.heap its) (s.heap.objs.size + 1) its }) (each_data lx e1) hal hso hun
  refine sorted_vals hl.isList S (by rw [← rv.length]; exact hz) ?_
  have ev := sortVals_each (κ := dataKind (sortingHeap (copyHeap s.heap its) (s.heap.objs.size + 1) its) ds) (rev := false) (ks := its) (fun b : V × PyData => keyToks b.2) e1 (each_keys hal (fun b hb => (List.of_mem_zip hb).2) e1)
  have hv := each_vals ev
  obtain ⟨ep, he'⟩ := PyProof.Rows.sortedAll_at s.heap its (sortVals (dataKind (sortingHeap (copyHeap s.heap its) (s.heap.objs.size + 1) its) ds) false its its).toArray
  have hlen : (((xs.zip ds).mergeSort pLe).map Prod.fst).length ≤ sizeLine := by
    rw [List.length_map, List.length_mergeSort, List.length_zip]
    exact Nat.le_trans (Nat.min_le_left _ _) hz
  exact ⟨.ref _, upd H (s.heap.objs.size + 1) (.lst (((xs.zip ds).mergeSort pLe).map Prod.fst)), I.laid (t' := s.toks) (fun _ _ => PyProof.Rows.sortedAll_old) (Nat.le_succ _) ⟨hlen, _, ep, hv, he'⟩, rfl, q _ (I.hok.fresh (Nat.le_succ _))⟩
end Srt
/-! ### a wish, and its kinds with one climber's rung put in -/
namespace St
open PySem PySem.Spec PyProof.Rows L2
theorem min_at {X : Cx} {K : PySem.W.Frag} (hc : X.calm = true) (hK : X.K = K := by rfl) : CallR X (.builtin "min") (rMin K) := by subst hK; exact cr_min hc
end St
namespace Af
open PySem PySem.Spec PyProof.Rows L2
/-- the wish with rung j + 1 put in for c -/
def kindW (ws : List (Option Int)) (c : Nat) (j : Nat) : List (Option Int) := ws.set c (some ((j : Nat) + 1 : Int))
theorem sumN_plus (f g : Nat → Int) : ∀ n, sumN (fun j => f j + g j) n = sumN f n + sumN g n
  | 0 => rfl
  | n + 1 => by
    show sumN (fun j => f j + g j) n + (f n + g n) = (sumN f n + f n) + (sumN g n + g n)
    rw [sumN_plus f g n]; omega
theorem sumN_at (r : Int) (b : Bool) : ∀ n : Nat, sumN (fun j => if (b && (((j : Nat) + 1 : Int) == r)) = true then (1 : Int) else 0) n = if b = true ∧ 1 ≤ r ∧ r ≤ (n : Int) then 1 else 0
  | 0 => by
    show (0 : Int) = _
    rw [if_neg fun q => by have := q.2; omega]
  | n + 1 => by
    show sumN _ n + (if (b && (((n : Nat) + 1 : Int) == r)) = true then (1 : Int) else 0) = _
    rw [sumN_at r b n]
    cases b with
    | false => simp
    | true =>
      by_cases e : ((n : Nat) + 1 : Int) = r
      · rw [if_neg (fun q => by have := q.2; omega), if_pos (by simpa using e), if_pos ⟨rfl, by omega, by omega⟩]; rfl
      · rw [show (if (true && (((n : Nat) + 1 : Int) == r)) = true then (1 : Int) else 0) = 0 from if_neg (by simpa using e), Int.add_zero]
        by_cases z : 1 ≤ r ∧ r ≤ (n : Int)
        · rw [if_pos ⟨rfl, z⟩, if_pos ⟨rfl, by omega, by omega⟩]
        · rw [if_neg (fun q => z q.2), if_neg (fun q => z ⟨q.2.1, by omega⟩)]
section
variable {B : List (List Int)} {hi : Int} {S : List Int × List Int} {ws : List (Option Int)} {R row : List Int} {c n : Nat}
theorem meets_put (hc : c < n) (hl : c < ws.length) (ew : ws[c]? = some none) (r : Int) : meets (ws.set c (some r)) R n = (meets ws R n && (r == R[c]?.getD 0)) := by
  unfold meets
  rw [Bool.eq_iff_iff, Bool.and_eq_true, List.all_eq_true, List.all_eq_true]
  constructor
  · intro h
    refine ⟨fun i hi => ?_, ?_⟩
    · by_cases e : i = c
      · subst e; rw [ew]; rfl
      · have := h i hi
        rwa [List.getElem?_set_ne (by omega)] at this
    · have := h c (List.mem_range.mpr hc)
      rwa [List.getElem?_set_self hl] at this
  · rintro ⟨h1, h2⟩ i hi
    by_cases e : i = c
    · subst e; rw [List.getElem?_set_self hl]; exact h2
    · rw [List.getElem?_set_ne (by omega)]; exact h1 i hi
theorem rung_in (hS : Stands B R) (hc : c < B.length) (eB : B[c]? = some row) : 1 ≤ R[c]?.getD 0 ∧ R[c]?.getD 0 ≤ mxR row := by
  obtain ⟨l, r, g1, g2, g3, g4⟩ := hS.all c hc
  obtain ⟨row', q1, q2⟩ := len_mem g1
  rw [eB] at q1; cases q1
  have := mxR_ge q2
  rw [g2]
  exact ⟨g3, Int.le_trans g4 this⟩
theorem kind_wgt (hS : Stands B R) (hc : c < B.length) (hl : ws.length = B.length) (eB : B[c]? = some row) (ew : ws[c]? = some none) :
    wgt B (wishW B ws) R = sumN (fun j => wgt B (wishW B (kindW ws c j)) R) (mxR row).toNat := by
  obtain ⟨r1, r2⟩ := rung_in hS hc eB
  rw [wgt_wish hS]
  have e : ∀ j, wgt B (wishW B (kindW ws c j)) R = if (meets ws R B.length && (((j : Nat) + 1 : Int) == R[c]?.getD 0)) = true then (1 : Int) else 0 := fun j => by
    rw [wgt_wish hS]
    unfold kindW
    rw [meets_put hc (by omega) ew]
  rw [sumN_congr _ fun j _ => e j, sumN_at]
  by_cases z : meets ws R B.length = true
  · rw [if_pos z, if_pos ⟨z, r1, by omega⟩]
  · rw [if_neg z, if_neg fun q => z q.1]
theorem kind_sum (G : GoodB B hi) (h : Ok B S) (hc : c < B.length) (hl : ws.length = B.length) (eB : B[c]? = some row) (ew : ws[c]? = some none) : ∀ n : Nat,
    sumT B (wishW B ws) S n = sumN (fun j => sumT B (wishW B (kindW ws c j)) S n) (mxR row).toNat
  | 0 => by
    show (0 : Int) = sumN (fun _ => 0) _
    generalize (mxR row).toNat = k
    induction k with
    | zero => rfl
    | succ k ih => show (0 : Int) = sumN (fun _ => 0) k + 0; omega
  | n + 1 => by
    show sumT B (wishW B ws) S n + wgt B (wishW B ws) (itB B n S).1 = sumN (fun j => sumT B (wishW B (kindW ws c j)) S n + wgt B (wishW B (kindW ws c j)) (itB B n S).1) _
    rw [sumN_plus, ← kind_sum G h hc hl eB ew n, ← kind_wgt (itB_ok G n h).1 hc hl eB ew]
theorem kind_all (G : GoodB B hi) (h : Ok B S) (hc : c < B.length) (hl : ws.length = B.length) (eB : B[c]? = some row) (ew : ws[c]? = some none) :
    allW B (wishW B ws) = sumN (fun j => allW B (wishW B (kindW ws c j))) (mxR row).toNat := by
  have hN := many_pos G
  obtain ⟨L, hL⟩ : ∃ L : Nat, (L : Int) = 2 * manyN B := ⟨(2 * manyN B).toNat, by omega⟩
  have e := kind_sum G h hc hl eB ew L
  rw [sumT_full G h hL, sumN_congr _ fun j _ => sumT_full G h hL, sumN_mul] at e
  omega
theorem zero_sum {W : List (List Int)} (hz : ∀ R, Stands B R → wgt B W R = 0) (G : GoodB B hi) (h : Ok B S) : ∀ n : Nat, sumT B W S n = 0
  | 0 => rfl
  | n + 1 => by
    show sumT B W S n + wgt B W (itB B n S).1 = 0
    rw [zero_sum hz G h n, hz _ (itB_ok G n h).1]; rfl
/-- a rung that no ladder has is on no standing -/
theorem none_all (G : GoodB B hi) (h : Ok B S) (hc : c < B.length) (hl : ws.length = B.length) (eB : B[c]? = some row) (ew : ws[c]? = some none) : allW B (wishW B (ws.set c (some 0))) = 0 := by
  have hN := many_pos G
  obtain ⟨L, hL⟩ : ∃ L : Nat, (L : Int) = 2 * manyN B := ⟨(2 * manyN B).toNat, by omega⟩
  have e := sumT_full (W := wishW B (ws.set c (some 0))) G h hL
  rw [zero_sum (fun R hS => ?_) G h L] at e
  · omega
  · obtain ⟨r1, r2⟩ := rung_in hS hc eB
    rw [wgt_wish hS, meets_put hc (by omega) ew, if_neg]
    intro q
    rw [Bool.and_eq_true, beq_iff_eq] at q
    omega
/-- who counts nowhere counts at no beat -/
theorem all_zero {W : List (List Int)} (G : GoodB B hi) (h : Ok B S) (hW : W01 W) (e0 : allW B W = 0) : wgt B W S.1 = 0 := by
  have hN := many_pos G
  obtain ⟨L, hL⟩ : ∃ L : Nat, (L : Int) = 2 * manyN B := ⟨(2 * manyN B).toNat, by omega⟩
  have e := sumT_full (W := W) G h hL
  have e1 := sumT_mono (B := B) (S := S) hW (show 1 ≤ L by omega)
  have e2 : sumT B W S 1 = wgt B W S.1 := by show (0 : Int) + wgt B W S.1 = _; omega
  rcases wgt_bit hW S.1 (B := B) with z | z
  · exact z
  · omega
/-- the first time of a wish is the least of those of its kinds -/
theorem kind_first (G : GoodB B hi) (h : Ok B S) (hc : c < B.length) (hl : ws.length = B.length) (eB : B[c]? = some row) (ew : ws[c]? = some none) {n0 : Nat} (q : Nth B (wishW B ws) S 0 n0) :
    (∃ j, j < (mxR row).toNat ∧ allW B (wishW B (kindW ws c j)) ≠ 0 ∧ Nth B (wishW B (kindW ws c j)) S 0 n0) ∧ ∀ j m, j < (mxR row).toNat → Nth B (wishW B (kindW ws c j)) S 0 m → n0 ≤ m := by
  have nn : ∀ j, 0 ≤ wgt B (wishW B (kindW ws c j)) (itB B n0 S).1 := fun j => by
    rcases wgt_bit (w01_wish B (kindW ws c j)) (B := B) (itB B n0 S).1 with z | z <;> omega
  have sn : ∀ j, 0 ≤ sumT B (wishW B (kindW ws c j)) S n0 := fun j => sumT_nn (w01_wish B _) n0
  have some_of : ∀ (f : Nat → Int) (k : Nat), (∀ j, f j = 0 ∨ f j = 1) → sumN f k = 1 → ∃ j, j < k ∧ f j = 1 := fun f k hf => by
    induction k with
    | zero => intro e; exact absurd e (by show ¬ (0 : Int) = 1; decide)
    | succ k ih =>
      intro e
      have e : sumN f k + f k = 1 := e
      rcases hf k with z | z
      · obtain ⟨j, h1, h2⟩ := ih (by omega)
        exact ⟨j, by omega, h2⟩
      · exact ⟨k, by omega, z⟩
  have each : ∀ (f : Nat → Int) (k : Nat), (∀ j, 0 ≤ f j) → sumN f k = 0 → ∀ j, j < k → f j = 0 := fun f k hf => by
    induction k with
    | zero => intro _ j hj; omega
    | succ k ih =>
      intro e j hj
      have e : sumN f k + f k = 0 := e
      have h1 := sumN_nn (f := f) k fun i _ => hf i
      have h2 := hf k
      rcases Nat.lt_or_ge j k with z | z
      · exact ih (by omega) j z
      · have : j = k := by omega
        subst this; omega
  have es := q.sum
  rw [kind_sum G h hc hl eB ew] at es
  have eo := q.one
  rw [kind_wgt (itB_ok G n0 h).1 hc hl eB ew] at eo
  refine ⟨?_, fun j m hj hm => ?_⟩
  · obtain ⟨j, hj, e1⟩ := some_of _ _ (fun j => wgt_bit (w01_wish B (kindW ws c j)) (itB B n0 S).1) eo
    refine ⟨j, hj, fun z => ?_, ⟨each _ _ sn es j hj, e1⟩⟩
    have := all_zero G (itB_ok G n0 h) (w01_wish B (kindW ws c j)) z
    omega
  · rcases Nat.lt_or_ge m n0 with z | z
    · exfalso
      have e1 := sumT_mono (B := B) (S := S) (w01_wish B (kindW ws c j)) (show m + 1 ≤ n0 by omega)
      have e2 := hm.lt
      have e3 := each _ _ sn es j hj
      have e3 : sumT B (wishW B (kindW ws c j)) S n0 = 0 := e3
      omega
    · exact z
/-- a wish that a standing meets is met -/
theorem met_once (G : GoodB B hi) (h : Ok B S) (hm : meets ws S.1 B.length = true) : allW B (wishW B ws) ≠ 0 := fun z => by
  have := all_zero G h (w01_wish B ws) z
  rw [wgt_wish h.1, if_pos hm] at this
  omega
end
/-! lists of bools as data -/
def bitL (bs : List Bool) : PyData := .list (bs.map PyData.bool)
theorem dps_bits {K : PySem.W.Frag} {H : Hp} : ∀ bs : List Bool, DpAll K H (bs.map V.bl) (bs.map PyData.bool)
  | [] => .nil
  | b :: bs => .cons (.bl b) (dps_bits bs)
theorem lay_bits (bs : List Bool) : (bitL bs).canLay0 = true := by
  have : ∀ bs : List Bool, PyData.canLayAll0 (bs.map PyData.bool) = true := fun bs => by
    induction bs with
    | nil => simp [PyData.canLayAll0]
    | cons n bs ih => simp only [List.map_cons, PyData.canLayAll0, PyData.canLay0, ih]; rfl
  show (PyData.list (bs.map PyData.bool)).canLay0 = true
  simp only [PyData.canLay0]
  exact this bs
theorem depth_bits (bs : List Bool) : (bitL bs).depth ≤ 1 := by
  have : ∀ bs : List Bool, PyData.depthAll (bs.map PyData.bool) = 0 := fun bs => by
    induction bs with
    | nil => simp [PyData.depthAll]
    | cons n bs ih => simp only [List.map_cons, PyData.depthAll, PyData.depth, ih]; rfl
  show (PyData.list (bs.map PyData.bool)).depth ≤ 1
  simp only [PyData.depth, this]
  decide
theorem shaped_bits (bs : List Bool) : SeqAt.shaped (bitL bs) = true := shapedT (lay_bits bs) (by have := depth_bits bs; omega)
theorem last_bits (f : Nat → Bool) (n : Nat) : ((List.range (n + 1)).map f).map V.bl = ((List.range n).map f).map V.bl ++ [V.bl (f n)] := by
  rw [List.range_succ, List.map_append, List.map_append]; rfl
end Af
set_option maxHeartbeats 4000000
/-! ### zip of any two sources: what is asked of each is that its iterator gives the next thing, or stops -/
namespace Zx
open PySem PySem.Spec PyProof.Rows L2 RZ
/-- an iterator at a over what lies at l: cur k, it stands at k; seq, what it goes over is there; val, the things -/
structure Feed (prg : Program) (w : World) (a l : Addr) (val : Nat → Option Value) (cur : Nat → Heap → Prop) (seq : Heap → Prop) : Prop where
  obj : ∀ k h, cur k h → ∃ o, h.get? a = some o ∧ ∀ v, o.data ≠ .cell v
  kc : ∀ {k h h'}, cur k h → (∀ o, h.get? a = some o → h'.get? a = some o) → cur k h'
  ks : ∀ {h h'}, seq h → (∀ o, h.get? l = some o → h'.get? l = some o) → seq h'
  item : ∀ {A : Around} {E : Value → Shared → Prop} {s : Shared} {Q : Value → Shared → Prop} {k : Nat} {x : Value}, cur k s.heap → seq s.heap → val k = some x →
    (∀ h', cur (k + 1) h' → Heap.SameBut a s.heap h' → Q x { s with heap := h' }) → wpAny (model prg w) A (Builtin.SmallTypes.nextOf (.ref a)) Q E s
  last : ∀ {A : Around} {E : Value → Shared → Prop} {s : Shared} {Q : Value → Shared → Prop} {k : Nat}, A.handled = none → cur k s.heap → seq s.heap → val k = none →
    (∀ h' e, Heap.ExtBut a s.heap h' → (∃ o, h'.get? e = some o ∧ o.cls = .type "StopIteration") → E (.ref e) { s with heap := h' }) → wpAny (model prg w) A (Builtin.SmallTypes.nextOf (.ref a)) Q E s
section
variable {prg : Program} {w : World}
theorem feed_list (a l : Addr) (vs : Array Value) : Feed prg w a l (fun k => vs[k]?) (fun k h => h.IsListIter a l k) (fun h => h.IsList l vs) where
  obj := fun k h ⟨o, e, _, d⟩ => ⟨o, e, fun v q => by rw [d] at q; cases q⟩
  kc := fun c k => c.at fun o e => k o e
  ks := fun ⟨o, e, r⟩ k => ⟨o, k o e, r⟩
  item := fun c q e h => wpAny_nextOf_list_item c q e h
  last := fun hh c q e h => wpAny_nextOf_list_end hh c q e h
theorem feed_tuple (a l : Addr) (vs : Array Value) : Feed prg w a l (fun k => vs[k]?) (fun k h => h.IsTupleIter a l k) (fun h => h.IsTuple l vs) where
  obj := fun k h ⟨o, e, _, d⟩ => ⟨o, e, fun v q => by rw [d] at q; cases q⟩
  kc := fun c k => c.at fun o e => k o e
  ks := fun ⟨o, e, r⟩ k => ⟨o, k o e, r⟩
  item := fun c q e h => nextOf_tuple_item c q e h
  last := fun hh c q e h => nextOf_tuple_end hh c q e h
variable {A : Around} {E : Value → Shared → Prop} {s : Shared} {zz pr ou a1 a2 l1 l2 : Addr} {v1 v2 : Nat → Option Value} {c1 c2 : Nat → Heap → Prop} {q1 q2 : Heap → Prop} {k : Nat}
/-- what the two iterators and what they go over need to be kept -/
def Kept (zz ou a1 a2 : Addr) (h h' : Heap) : Prop := ∀ c o, c ≠ zz → c ≠ ou → c ≠ a1 → c ≠ a2 → h.get? c = some o → h'.get? c = some o
theorem next_both (F1 : Feed prg w a1 l1 v1 c1 q1) (F2 : Feed prg w a2 l2 v2 c2 q2) {x y p0 p1 : Value} {Q : Value → Shared → Prop} (D : ZipApart zz pr ou a1 a2 l1 l2)
    (hz : IsZip s.heap zz pr ou .none) (hp : IsPair s.heap pr (.ref a1) (.ref a2)) (ho : IsPair s.heap ou p0 p1) (hc1 : c1 k s.heap) (hc2 : c2 k s.heap) (hs1 : q1 s.heap) (hs2 : q2 s.heap) (hx : v1 k = some x) (hy : v2 k = some y)
    (fin : ∀ h', IsZip h' zz pr ou (rawInt s.heap.objs.size) → IsPair h' ou x y → c1 (k + 1) h' → c2 (k + 1) h' → IsPair h' s.heap.objs.size x y → Kept zz ou a1 a2 s.heap h' → Q (.ref s.heap.objs.size) { s with heap := h' }) :
    wpAny (model prg w) A (Builtin.«zip.__next__» ⟨[.ref zz], []⟩) (fun r t => ∃ v, r = .done (.ret v) ∧ Q v t) E s := by
  show wpAny _ _ (field (.ref zz) 2 >>= _) _ _ _
  refine wpAny_bind (wpAny_field hz rfl (x := .bool false) rfl ?_); show wpAny _ _ (field (.ref zz) 3 >>= _) _ _ _
  refine wpAny_bind (wpAny_field hz rfl (x := .ref pr) rfl (wpAny_bind (wpAny_seqItems hp rfl ?_)))
  show wpAny _ _ (Builtin.SmallTypes.ownedTupleIsFree (.ref zz) >>= _) _ _ _
  refine wpAny_bind ?_; unfold Builtin.SmallTypes.ownedTupleIsFree
  refine wpAny_bind (wpAny_field hz rfl (x := .none) rfl (wpAny_pure ?_)); simp only [if_true]
  refine wpAny_bind (wpAny_rule (wpAny_bind (wpAny_field hz rfl (x := .ref ou) rfl (wpAny_bind (wpAny_setField_rec hz (by simp) fun g1 z1 b1 => ?_)))))
  have z1 : IsZip g1 zz pr ou .ellipsis := z1
  refine wpAny_bind ?_; simp only [List.zipIdx_cons, List.zipIdx_nil, List.forIn_cons, List.forIn_nil]
  -- the first
  refine wpAny_bind (wpAny_bind (wpAny_onRaise ?_)); show wpAny _ _ (Builtin.SmallTypes.nextOf (.ref a1) >>= _) _ _ _
  refine wpAny_bind (F1.item (F1.kc hc1 fun o e => b1.extBut _ _ D.i1z e) (F1.ks hs1 fun o e => b1.extBut _ _ D.l1z e) hx fun g2 n1 b2 => wpAny_pure ?_)
  have o2 : IsPair g2 ou p0 p1 := b2.extBut _ _ D.TOi1 (b1.extBut _ _ D.TOz ho)
  refine wpAny_bind (wpAny_seqItems o2 rfl (wpAny_bind (wpAny_updateSeq_pair o2 fun g3 o3 b3 => wpAny_bind (wpAny_letGo (wpAny_pure ?_)))))
  have o3 : IsPair g3 ou x p1 := o3
  -- the second
  refine wpAny_bind (wpAny_bind (wpAny_onRaise ?_)); show wpAny _ _ (Builtin.SmallTypes.nextOf (.ref a2) >>= _) _ _ _
  have up3 : ∀ c o, c ≠ zz → c ≠ a1 → c ≠ ou → s.heap.get? c = some o → g3.get? c = some o := fun c o d1 d2 d3 e => b3.extBut _ _ d3 (b2.extBut _ _ d2 (b1.extBut _ _ d1 e))
  refine wpAny_bind (F2.item (F2.kc hc2 fun o e => up3 _ o D.i2z D.i12.symm D.TOi2.symm e) (F2.ks hs2 fun o e => up3 _ o D.l2z D.l2i1 D.l2TO e) hy fun g4 n2 b4 => wpAny_pure ?_)
  have o4 : IsPair g4 ou x p1 := b4.extBut _ _ D.TOi2 o3
  refine wpAny_bind (wpAny_seqItems o4 rfl (wpAny_bind (wpAny_updateSeq_pair o4 fun g5 o5 b5 => wpAny_bind (wpAny_letGo (wpAny_pure (wpAny_pure ?_))))))
  have o5 : IsPair g5 ou x y := o5
  refine wpAny_bind (wpAny_seqItems o5 rfl (wpAny_bind (wpAny_newTuple ?_)))
  have sz : g5.objs.size = s.heap.objs.size := by rw [b5.1, b4.1, b3.1, b2.1, b1.1]
  have z5 : IsZip g5 zz pr ou .ellipsis := b5.extBut _ _ D.TOz.symm (b4.extBut _ _ D.i2z.symm (b3.extBut _ _ D.TOz.symm (b2.extBut _ _ D.i1z.symm z1)))
  have m1 : c1 (k + 1) g5 := F1.kc n1 fun o e => b5.extBut _ _ D.TOi1.symm (b4.extBut _ _ D.i12 (b3.extBut _ _ D.TOi1.symm e))
  have m2 : c2 (k + 1) g5 := F2.kc n2 fun o e => b5.extBut _ _ D.TOi2.symm e
  have lz : zz < g5.objs.size := Heap.lt_size z5
  show wpAny _ _ (Builtin.SmallTypes.ownedTupleHandOut (.ref zz) (.ref g5.objs.size) >>= _) _ _ _
  refine wpAny_bind ?_; unfold Builtin.SmallTypes.ownedTupleHandOut
  have z6 : IsZip (g5.push { cls := .type "tuple", data := .seq #[x, y] }) zz pr ou .ellipsis := Heap.get?_push_of_some _ z5
  refine wpAny_bind (wpAny_setField_rec z6 (by simp) fun g7 z7 b7 => ?_)
  have z7 : IsZip g7 zz pr ou (rawInt g5.objs.size) := z7
  refine wpAny_setField_rec z7 (by simp) fun g8 z8 b8 => ?_
  have z8 : IsZip g8 zz pr ou (rawInt g5.objs.size) := z8
  have up8 : ∀ c o, c ≠ zz → g5.get? c = some o → g8.get? c = some o := fun c o d e => b8.extBut _ _ d (b7.extBut _ _ d (Heap.get?_push_of_some _ e))
  have t8 : IsPair g8 g5.objs.size x y := b8.extBut _ _ (Nat.ne_of_gt lz) (b7.extBut _ _ (Nat.ne_of_gt lz) (Heap.get?_push_size _ rfl))
  rw [sz] at z8 t8
  refine wpAny_pure ⟨_, rfl, ?_⟩
  show Q (.ref g5.objs.size) _
  rw [sz]
  exact fin g8 z8 (up8 _ _ D.TOz o5) (F1.kc m1 fun o e => up8 _ o D.i1z e) (F2.kc m2 fun o e => up8 _ o D.i2z e) t8 fun c o d1 d2 d3 d4 e => up8 c o d1 (b5.extBut _ _ d2 (b4.extBut _ _ d4 (up3 c o d1 d3 d2 e)))
theorem next_stop (F1 : Feed prg w a1 l1 v1 c1 q1) (F2 : Feed prg w a2 l2 v2 c2 q2) {p0 p1 : Value} {Q : PySem.Fin → Shared → Prop} (hh : A.handled = none) (D : ZipApart zz pr ou a1 a2 l1 l2)
    (hz : IsZip s.heap zz pr ou .none) (hp : IsPair s.heap pr (.ref a1) (.ref a2)) (ho : IsPair s.heap ou p0 p1) (hc1 : c1 k s.heap) (hc2 : c2 k s.heap) (hs1 : q1 s.heap) (hs2 : q2 s.heap) (hend : v1 k = none ∨ v2 k = none)
    (fin : ∀ h' e, Kept zz ou a1 a2 s.heap h' → (∃ o, h'.get? e = some o ∧ o.cls = .type "StopIteration") → E (.ref e) { s with heap := h' }) :
    wpAny (model prg w) A (Builtin.«zip.__next__» ⟨[.ref zz], []⟩) Q E s := by
  show wpAny _ _ (field (.ref zz) 2 >>= _) _ _ _
  refine wpAny_bind (wpAny_field hz rfl (x := .bool false) rfl ?_); show wpAny _ _ (field (.ref zz) 3 >>= _) _ _ _
  refine wpAny_bind (wpAny_field hz rfl (x := .ref pr) rfl (wpAny_bind (wpAny_seqItems hp rfl ?_)))
  show wpAny _ _ (Builtin.SmallTypes.ownedTupleIsFree (.ref zz) >>= _) _ _ _
  refine wpAny_bind ?_; unfold Builtin.SmallTypes.ownedTupleIsFree
  refine wpAny_bind (wpAny_field hz rfl (x := .none) rfl (wpAny_pure ?_)); simp only [if_true]
  refine wpAny_bind (wpAny_rule (wpAny_bind (wpAny_field hz rfl (x := .ref ou) rfl (wpAny_bind (wpAny_setField_rec hz (by simp) fun g1 z1 b1 => ?_)))))
  have z1 : IsZip g1 zz pr ou .ellipsis := z1
  refine wpAny_bind ?_; simp only [List.zipIdx_cons, List.zipIdx_nil, List.forIn_cons, List.forIn_nil]
  refine wpAny_bind (wpAny_bind (wpAny_onRaise ?_)); show wpAny _ _ (Builtin.SmallTypes.nextOf (.ref a1) >>= _) _ _ _
  have k1 := F1.kc hc1 fun o e => b1.extBut _ _ D.i1z e
  have r1 := F1.ks hs1 fun o e => b1.extBut _ _ D.l1z e
  cases hx : v1 k with
  | none =>
    refine wpAny_bind (F1.last hh k1 r1 hx fun g2 e b2 ⟨oe, he, hc⟩ => ?_)
    have z2 : IsZip g2 zz pr ou .ellipsis := b2 _ _ D.i1z.symm z1
    have ne : e ≠ zz := fun q => by subst q; rw [z2] at he; cases he; simp at hc
    exact wpAny_setField_rec z2 (by simp) fun g3 _ b3 => fin g3 e (fun c o d1 _ d3 _ q => b3.extBut _ _ d1 (b2 _ _ d3 (b1.extBut _ _ d1 q))) ⟨oe, b3.extBut _ _ ne he, hc⟩
  | some x =>
    have hy : v2 k = none := by
      rcases hend with q | q
      · rw [hx] at q; cases q
      · exact q
    refine wpAny_bind (F1.item k1 r1 hx fun g2 n1 b2 => wpAny_pure ?_)
    have o2 : IsPair g2 ou p0 p1 := b2.extBut _ _ D.TOi1 (b1.extBut _ _ D.TOz ho)
    refine wpAny_bind (wpAny_seqItems o2 rfl (wpAny_bind (wpAny_updateSeq_pair o2 fun g3 o3 b3 => wpAny_bind (wpAny_letGo (wpAny_pure ?_)))))
    refine wpAny_bind (wpAny_bind (wpAny_onRaise ?_)); show wpAny _ _ (Builtin.SmallTypes.nextOf (.ref a2) >>= _) _ _ _
    have up3 : ∀ c o, c ≠ zz → c ≠ a1 → c ≠ ou → s.heap.get? c = some o → g3.get? c = some o := fun c o d1 d2 d3 e => b3.extBut _ _ d3 (b2.extBut _ _ d2 (b1.extBut _ _ d1 e))
    refine wpAny_bind (F2.last hh (F2.kc hc2 fun o e => up3 _ o D.i2z D.i12.symm D.TOi2.symm e) (F2.ks hs2 fun o e => up3 _ o D.l2z D.l2i1 D.l2TO e) hy fun g4 e b4 ⟨oe, he, hc⟩ => ?_)
    have z4 : IsZip g4 zz pr ou .ellipsis := b4 _ _ D.i2z.symm (b3.extBut _ _ D.TOz.symm (b2.extBut _ _ D.i1z.symm z1))
    have ne : e ≠ zz := fun q => by subst q; rw [z4] at he; cases he; simp at hc
    exact wpAny_setField_rec z4 (by simp) fun g5 _ b5 => fin g5 e (fun c o d1 d2 d3 d4 q => b5.extBut _ _ d1 (b4 _ _ d4 (up3 c o d1 d3 d2 q))) ⟨oe, b5.extBut _ _ ne he, hc⟩
theorem py_both (F1 : Feed prg w a1 l1 v1 c1 q1) (F2 : Feed prg w a2 l2 v2 c2 q2) {x y p0 p1 : Value} {Q : Option Value → Shared → Prop} (D : ZipApart zz pr ou a1 a2 l1 l2)
    (hz : IsZip s.heap zz pr ou .none) (hp : IsPair s.heap pr (.ref a1) (.ref a2)) (ho : IsPair s.heap ou p0 p1) (hc1 : c1 k s.heap) (hc2 : c2 k s.heap) (hs1 : q1 s.heap) (hs2 : q2 s.heap) (hx : v1 k = some x) (hy : v2 k = some y)
    (fin : ∀ h', IsZip h' zz pr ou (rawInt s.heap.objs.size) → IsPair h' ou x y → c1 (k + 1) h' → c2 (k + 1) h' → IsPair h' s.heap.objs.size x y → Kept zz ou a1 a2 s.heap h' → Q (some (.ref s.heap.objs.size)) { s with heap := h' }) :
    wpAny (model prg w) A (pyNext (.ref zz)) Q E s := by
  have ty : s.TypeIs (.ref zz) "zip" := ⟨_, hz, rfl⟩
  unfold pyNext
  refine wpAny_bind (wpAny_attempt (wpAny_callSpecial?_slot (name := Str.ofString "__next__") ty F.slot_zip_next (wpAny_call_entry F.slot_zip_next ty F.entry_zip_next (next_both F1 F2 D hz hp ho hc1 hc2 hs1 hs2 hx hy fun h' e1 e2 e3 e4 e5 e6 => ?_) (F.args_zip_next_1 _))))
  exact wpAny_pure (fin h' e1 e2 e3 e4 e5 e6)
theorem py_stop (F1 : Feed prg w a1 l1 v1 c1 q1) (F2 : Feed prg w a2 l2 v2 c2 q2) {p0 p1 : Value} {Q : Option Value → Shared → Prop} (hh : A.handled = none) (D : ZipApart zz pr ou a1 a2 l1 l2)
    (hz : IsZip s.heap zz pr ou .none) (hp : IsPair s.heap pr (.ref a1) (.ref a2)) (ho : IsPair s.heap ou p0 p1) (hc1 : c1 k s.heap) (hc2 : c2 k s.heap) (hs1 : q1 s.heap) (hs2 : q2 s.heap) (hend : v1 k = none ∨ v2 k = none)
    (fin : ∀ h', Kept zz ou a1 a2 s.heap h' → Q none { s with heap := h' }) : wpAny (model prg w) A (pyNext (.ref zz)) Q E s := by
  have ty : s.TypeIs (.ref zz) "zip" := ⟨_, hz, rfl⟩
  unfold pyNext
  refine wpAny_bind (wpAny_attempt (wpAny_callSpecial?_slot (name := Str.ofString "__next__") ty F.slot_zip_next (wpAny_call_entry F.slot_zip_next ty F.entry_zip_next (next_stop F1 F2 hh D hz hp ho hc1 hc2 hs1 hs2 hend fun h' e kk ⟨o, g1, g2⟩ => ?_) (F.args_zip_next_1 _))))
  exact wpAny_bind (wpAny_isInstance (T := "StopIteration") (b := true) ⟨o, g1, g2⟩ isSubtype_stop (wpAny_pure (fin h' kk)))
end
/-- a tuple beside a list -/
def ItzM (K : PySem.W.Frag) (a b : Addr) : It :=
  ⟨fun i H => ∃ (xs ys : List V) (x y : V), SqT K H a xs ∧ SqL K H b ys ∧ xs[i]? = some x ∧ ys[i]? = some y,
    fun i H v H' => ∃ T x y, v = .ref T ∧ H T = none ∧ H' = upd H T (.tup [x, y]) ∧ (∀ xs, SqT K H a xs → xs[i]? = some x) ∧ ∀ ys, SqL K H b ys → ys[i]? = some y,
    fun i H => ∃ xs ys : List V, SqT K H a xs ∧ SqL K H b ys ∧ (xs.length ≤ i ∨ ys.length ≤ i)⟩
theorem turnM {P : Program} {w : World} {K : PySem.W.Frag} {els : List Expr} {kk : Nat} {tp : Pos} {a b zz pr ou a1 a2 : Addr} (D : ZipApart zz pr ou a1 a2 a b) :
    Turn P w K (.Tuple els kk tp) (ItzM K a b) [zz, pr, ou, a1, a2] zz (fun i h => IsZip h zz pr ou .none ∧ IsPair h pr (.ref a1) (.ref a2) ∧ (∃ x y, IsPair h ou x y) ∧ h.IsTupleIter a1 a i ∧ h.IsListIter a2 b i) where
  mem := List.mem_cons_self
  obj := fun i h ⟨g1, g2, ⟨x, y, g3⟩, ⟨o1, e1, _, d1⟩, ⟨o2, e2, _, d2⟩⟩ c hc => by
    simp only [List.mem_cons, List.not_mem_nil, or_false] at hc
    rcases hc with rfl | rfl | rfl | rfl | rfl
    · exact ⟨_, g1, fun v q => nomatch q⟩
    · exact ⟨_, g2, fun v q => nomatch q⟩
    · exact ⟨_, g3, fun v q => nomatch q⟩
    · exact ⟨o1, e1, fun v q => by rw [d1] at q; cases q⟩
    · exact ⟨o2, e2, fun v q => by rw [d2] at q; cases q⟩
  keep := fun i h h' ⟨g1, g2, ⟨x, y, g3⟩, g4, g5⟩ k =>
    ⟨k zz (by simp) _ g1, k pr (by simp) _ g2, ⟨x, y, k ou (by simp) _ g3⟩, g4.at fun o q => k a1 (by simp) o q, g5.at fun o q => k a2 (by simp) o q⟩
  item := by
    intro X hP hw hK hc i pins s σ H E I hf ⟨g1, g2, ⟨x0, y0, g3⟩, g4, g5⟩ ⟨xs, ys, x, y, hqx, hqy, hx, hy⟩
    subst hP hw hK
    obtain ⟨its, rv, pt, _⟩ := I.tuple hqx
    obtain ⟨jts, rw2, pl, _⟩ := I.list hqy
    obtain ⟨u, hu, ru⟩ := rv.get hx
    obtain ⟨v, hv, rv2⟩ := rw2.get hy
    have lz : zz < s.heap.objs.size := Heap.lt_size g1
    refine py_both (feed_tuple _ _ its.toArray) (feed_list _ _ jts.toArray) D g1 g2 g3 g4 g5 pt pl.isList (x := u) (y := v) (by simpa using hu) (by simpa using hv) fun h' z' o' m1 m2 t' hk => ?_
    refine ⟨_, rfl, wpAny_letOwnedTupleGo_zip (s := { s with heap := h' }) z' fun h2 z2 sb => ?_⟩
    have t2 : h2.get? s.heap.objs.size = some { cls := .type "tuple", data := .seq #[u, v] } := (sb.2 _ (Nat.ne_of_gt lz)).trans t'
    have ok : ObjOk X.prog X.w (upd H s.heap.objs.size (.tup [x, y])) h2 s.heap.objs.size (.tup [x, y]) := ⟨by show 2 ≤ sizeLine; decide, [u, v], .cons ru (.cons rv2 .nil), ⟨_, t2, rfl, _, rfl⟩⟩
    have J : Inv X pins σ (upd H s.heap.objs.size (.tup [x, y])) { s with heap := h2 } := I.turnedNew (t' := s.toks) (ch := [zz, pr, ou, a1, a2]) (fun c o hb q => by
      simp only [List.mem_cons, List.not_mem_nil, or_false, not_or] at hb
      exact (sb.2 c hb.1).trans (hk c o hb.1 hb.2.2.1 hb.2.2.2.1 hb.2.2.2.2 q)) hf (Nat.le_refl _) ok
    refine ⟨.ref s.heap.objs.size, _, J, rfl, ⟨_, x, y, rfl, I.hok.fresh (Nat.le_refl _), rfl, fun l hl => by rw [I.tuple_inj hl hqx]; exact hx, fun l hl => by rw [I.list_inj hl hqy]; exact hy⟩,
      ⟨z2, (sb.2 _ D.TIz).trans (hk _ _ D.TIz D.TITO D.TIi1 D.TIi2 g2), ⟨u, v, (sb.2 _ D.TOz).trans o'⟩, m1.at fun o q => (sb.2 _ D.i1z).trans q, m2.at fun o q => (sb.2 _ D.i2z).trans q⟩, fun c hcm => ?_⟩
    have lt : c < s.heap.objs.size := by
      have hc := hcm
      simp only [List.mem_cons, List.not_mem_nil, or_false] at hc
      rcases hc with rfl | rfl | rfl | rfl | rfl
      · exact lz
      · exact Heap.lt_size g2
      · exact Heap.lt_size g3
      · obtain ⟨_, e, _⟩ := g4; exact Heap.lt_size e
      · obtain ⟨_, e, _⟩ := g5; exact Heap.lt_size e
    rw [upd_ne (Nat.ne_of_lt lt)]
    exact (hf c hcm).1
  done := by
    intro X hP hw hK hc i pins s σ H E I hf ⟨g1, g2, ⟨x0, y0, g3⟩, g4, g5⟩ ⟨xs, ys, hqx, hqy, hend⟩
    subst hP hw hK
    obtain ⟨its, rv, pt, _⟩ := I.tuple hqx
    obtain ⟨jts, rw2, pl, _⟩ := I.list hqy
    have n1 := rv.length
    have n2 := rw2.length
    have he : its.toArray[i]? = none ∨ jts.toArray[i]? = none := by
      rcases hend with q | q
      · exact .inl (by simp; omega)
      · exact .inr (by simp; omega)
    refine py_stop (feed_tuple _ _ its.toArray) (feed_list _ _ jts.toArray) (I.ok.hd hc) D g1 g2 g3 g4 g5 pt pl.isList he fun h' hk => ⟨rfl, I.turnedL (t' := s.toks) (ch := [zz, pr, ou, a1, a2]) (fun c o hb q => ?_) hf⟩
    simp only [List.mem_cons, List.not_mem_nil, or_false, not_or] at hb
    exact hk c o hb.1 hb.2.2.1 hb.2.2.2.1 hb.2.2.2.2 q
  self := fun A i s Q E st h => wpAny_pyIter_zip st.1 h
/-! zip(a tuple, a list) -/
abbrev M1 (h : Heap) (p : Addr) : Heap := h.push { cls := .type "tuple_iterator", data := .fields #[.ref p, .int 0 0] }
abbrev M2 (h : Heap) (p q : Addr) : Heap := (M1 h p).push { cls := .type "list_iterator", data := .fields #[.ref q, .int 0 0] }
abbrev M3 (h : Heap) (p q : Addr) : Heap := (M2 h p q).push { cls := .type "tuple", data := .seq #[.ref h.objs.size, .ref (M1 h p).objs.size] }
abbrev M4 (h : Heap) (p q : Addr) : Heap := (M3 h p q).push { cls := .type "tuple", data := .seq #[.none, .none] }
abbrev M5 (h : Heap) (p q : Addr) : Heap := (M4 h p q).push { cls := .type "zip", data := .fields #[.none, .bool false, .bool false, .ref (M2 h p q).objs.size, .ref (M3 h p q).objs.size] }
theorem new_mixed (p q : Addr) (xs ys : Array Value) : Meets (Builtin.«zip.__new__» ⟨[.type "zip", .ref p, .ref q], []⟩)
    (fun _ R s => s.heap.IsTuple p xs ∧ s.heap.IsList q ys ∧ R (.ok (.ret (.ref (M4 s.heap p q).objs.size))) { s with heap := M5 s.heap p q }) :=
  .of_wp fun prog w A R s ⟨h1, h2, fin⟩ => by
    obtain ⟨hp, g, d, tk, os⟩ := s
    have su := sub_zip; have b1 : Heap.IsTuple (Shared.heap ⟨hp, g, d, tk, os⟩) p xs := h1
    have b2 : Heap.IsList (Shared.heap ⟨M1 hp p, g, d, tk, os⟩) q ys := h2.push _
    wp_walk using wpAny_pyIter_tuple b1, wpAny_pyIter_list b2
    exact ⟨_, rfl, fin⟩
theorem call_mixed {prg : Program} {w : World} {A : Around} {E : Value → Shared → Prop} {s : Shared} {p q : Addr} {xs ys : Array Value} {Q : Value → Shared → Prop} (h1 : s.heap.IsTuple p xs) (h2 : s.heap.IsList q ys)
    (fin : ∀ h', IsZip h' (s.heap.objs.size + 4) (s.heap.objs.size + 2) (s.heap.objs.size + 3) .none → IsPair h' (s.heap.objs.size + 2) (.ref s.heap.objs.size) (.ref (s.heap.objs.size + 1)) → IsPair h' (s.heap.objs.size + 3) .none .none →
      h'.IsTupleIter s.heap.objs.size p 0 → h'.IsListIter (s.heap.objs.size + 1) q 0 → (∀ c o, s.heap.get? c = some o → h'.get? c = some o) → Q (.ref (s.heap.objs.size + 4)) { s with heap := h' }) :
    wpAny (model prg w) A (call (.type "zip") [.ref p, .ref q]) Q E s := by
  refine callType_new F.called_zip (by decide) (F.typeCall_zip_2 _ _) (F.newCall_zip_2 _ _) (fun x => F.args_object_init_3 x _ _) F.entry_zip_new (new_mixed p q xs ys) ⟨h1, h2, ?_⟩
  have n1 : (M1 s.heap p).objs.size = s.heap.objs.size + 1 := Heap.size_push ..
  have n2 : (M2 s.heap p q).objs.size = s.heap.objs.size + 2 := by rw [Heap.size_push, n1]
  have n3 : (M3 s.heap p q).objs.size = s.heap.objs.size + 3 := by rw [Heap.size_push, n2]
  have n4 : (M4 s.heap p q).objs.size = s.heap.objs.size + 4 := by rw [Heap.size_push, n3]
  have up : ∀ {c o}, (M1 s.heap p).get? c = some o → (M5 s.heap p q).get? c = some o := fun e => Heap.get?_push_of_some _ (Heap.get?_push_of_some _ (Heap.get?_push_of_some _ (Heap.get?_push_of_some _ e)))
  have e5 : (M5 s.heap p q).get? (M4 s.heap p q).objs.size = some _ := Heap.get?_push_size _ rfl
  have e4 : (M5 s.heap p q).get? (M3 s.heap p q).objs.size = some _ := Heap.get?_push_of_some _ (Heap.get?_push_size _ rfl)
  have e3 : (M5 s.heap p q).get? (M2 s.heap p q).objs.size = some _ := Heap.get?_push_of_some _ (Heap.get?_push_of_some _ (Heap.get?_push_size _ rfl))
  have e2 : (M5 s.heap p q).get? (M1 s.heap p).objs.size = some _ := Heap.get?_push_of_some _ (Heap.get?_push_of_some _ (Heap.get?_push_of_some _ (Heap.get?_push_size _ rfl)))
  have e1 : (M5 s.heap p q).get? s.heap.objs.size = some _ := up (Heap.get?_push_size _ rfl)
  show _ ∧ _
  rw [n2, n3, n4] at e5; rw [n1, n2] at e3; rw [n3] at e4; rw [n1] at e2; rw [n4]
  exact ⟨⟨_, e5, rfl⟩, fin _ e5 e3 e4 ⟨_, e1, rfl, rfl⟩ ⟨_, e2, rfl, rfl⟩ fun c o e => up (Heap.get?_push_of_some _ e)⟩
/-- zip of two tuples, of two lists, of a tuple and a list -/
def iZip3 (K : PySem.W.Frag) (ta : TA) : TI := fun σ H R => ta σ H fun vs H1 => ∃ a b xs ys, vs = [.ref a, .ref b] ∧
  ((SqL K H1 a xs ∧ SqL K H1 b ys ∧ R (Itz K a b) H1) ∨ (SqT K H1 a xs ∧ SqT K H1 b ys ∧ R (ItzT K a b) H1) ∨ (SqT K H1 a xs ∧ SqL K H1 b ys ∧ R (ItzM K a b) H1))
theorem pi_zip3 {X : Cx} {e e2 : Expr} {ta : TA} {p pos tp : Pos} {els : List Expr} {kk : Nat} (hg : Gl X "zip") (hm : X.mg "zip" = none) (ha : PA X [e, e2] ta)
    (hs : starEach [e, e2] X.env = (false, eval e X.env) :: starEach [e2] X.env := by rfl) (hpl : (backTo pos (starEach [e2] X.env)).any (·.1) = false := by rfl) :
    PI X (.Tuple els kk tp) (.Call (.Name "zip" p) [e, e2] [] pos) (iZip3 X.K ta) := by
  refine ⟨fun pins s σ H R I h => ?_⟩
  refine Call_ (ld_blt I hg hm PyProof.Rows.boot_zip (PyProof.Rows.callWith_type1 (thn (ha.run pos pins s σ H _ I h) fun us s1 ⟨vs, H1, I1, r1, q1⟩ => ?_) hs hpl))
  obtain ⟨a, b, xs, ys, ex, q1⟩ := q1
  subst ex
  have eu : us = [.ref a, .ref b] := by
    cases r1 with
    | cons r rr => cases rr with
      | cons r' rr => cases rr; cases r; cases r'; rfl
  subst eu
  have low : ∀ c, c ∈ [s1.heap.objs.size + 4, s1.heap.objs.size + 2, s1.heap.objs.size + 3, s1.heap.objs.size, s1.heap.objs.size + 1] → FpOk X pins H1 c := fun c hc => by
    have le : s1.heap.objs.size ≤ c := by
      simp only [List.mem_cons, List.not_mem_nil, or_false] at hc
      rcases hc with h | h | h | h | h <;> rw [h]
      · exact Nat.le_add_right _ _
      · exact Nat.le_add_right _ _
      · exact Nat.le_add_right _ _
      · exact Nat.le_refl _
      · exact Nat.le_add_right _ _
    exact I1.fpOk le (I1.hok.fresh le)
  rcases q1 with ⟨h1, h2, q⟩ | ⟨h1, h2, q⟩ | ⟨h1, h2, q⟩
  · obtain ⟨its, _, p1, _⟩ := I1.list h1
    obtain ⟨jts, _, p2, _⟩ := I1.list h2
    refine call_zip_2 p1.isList p2.isList fun h' g1 g2 g3 g4 g5 _ kp => wpAny_pyIter_zip g1 ?_
    exact ⟨_, _, _, _, H1, rfl, I1.kept (t' := s1.toks) kp, turn_zip (PySem.W.ktu_apart s1.heap.objs.size a b p1.lt p2.lt), ⟨g1, g2, ⟨_, _, g3⟩, g4, g5⟩, low, q⟩
  · obtain ⟨its, _, p1, _⟩ := I1.tuple h1
    obtain ⟨jts, _, p2, _⟩ := I1.tuple h2
    obtain ⟨_, o1, _⟩ := id p1
    obtain ⟨_, o2, _⟩ := id p2
    refine call_zipT (show s1.heap.IsTuple a its.toArray from p1) (show s1.heap.IsTuple b jts.toArray from p2) fun h' g1 g2 g3 g4 g5 _ kp => wpAny_pyIter_zip g1 ?_
    exact ⟨_, _, _, _, H1, rfl, I1.kept (t' := s1.toks) kp, turn_zipT (PySem.W.ktu_apart s1.heap.objs.size a b (Heap.lt_size o1) (Heap.lt_size o2)), ⟨g1, g2, ⟨_, _, g3⟩, g4, g5⟩, low, q⟩
  · obtain ⟨its, _, p1, _⟩ := I1.tuple h1
    obtain ⟨jts, _, p2, _⟩ := I1.list h2
    obtain ⟨_, o1, _⟩ := id p1
    refine call_mixed (show s1.heap.IsTuple a its.toArray from p1) p2.isList fun h' g1 g2 g3 g4 g5 kp => wpAny_pyIter_zip g1 ?_
    exact ⟨_, _, _, _, H1, rfl, I1.kept (t' := s1.toks) kp, turnM (PySem.W.ktu_apart s1.heap.objs.size a b (Heap.lt_size o1) p2.lt), ⟨g1, g2, ⟨_, _, g3⟩, g4, g5⟩, low, q⟩
theorem walkM {K : PySem.W.Frag} {a b : Addr} {xs ys : List V} {n : Nat} (hn : n = min xs.length ys.length) : Walk (ItzM K a b) n (fun H => SqT K H a xs ∧ SqL K H b ys) (YPair (fun i => xs[i]?) (fun i => ys[i]?)) := by
  subst hn
  refine ⟨fun i _ hi q => ⟨xs, ys, xs[i]'(by omega), ys[i]'(by omega), q.1, q.2, List.getElem?_eq_getElem (by omega), List.getElem?_eq_getElem (by omega)⟩, fun _ q => ⟨xs, ys, q.1, q.2, by omega⟩, fun i H v H' _ q ⟨T, x, z, e1, e2, e3, e4, e5⟩ => ⟨T, x, z, e1, e2, e3, e4 xs q.1, e5 ys q.2⟩⟩
end Zx
/-! ### every standing is listed once -/
namespace Af
open PySem PySem.Spec PyProof.Rows L2
section
variable {B : List (List Int)} {hi : Int}
theorem ext_once {S R : List Int} {i : Nat} {x : Int} (hS : S.length = i) (hR : R.length = i + 1) (ex : R[i]? = some x) (h1 : 1 ≤ x) (h2 : S = R.take i → x ≤ (((lenAt B S i).getD 0).toNat : Int)) :
    ((extS B i S).map fun T => if T = R then (1 : Int) else 0).sum = if S = R.take i then 1 else 0 := by
  have eR : R = R.take i ++ [x] := by
    apply List.ext_getElem?
    intro j
    by_cases z : j < i
    · rw [List.getElem?_append_left (by rw [List.length_take]; omega), List.getElem?_take_of_lt z]
    · by_cases z2 : j = i
      · subst z2
        rw [ex, List.getElem?_append_right (by rw [List.length_take]; omega), List.length_take, show j - min j R.length = 0 by omega]; rfl
      · rw [List.getElem?_eq_none (by omega), List.getElem?_eq_none (by rw [List.length_append, List.length_take, List.length_singleton]; omega)]
  unfold extS
  rw [List.map_map, sum_rangeN]
  have e : ∀ j, ((fun T => if T = R then (1 : Int) else 0) ∘ fun j => S ++ [((j : Nat) + 1 : Int)]) j = if (decide (S = R.take i) && (((j : Nat) + 1 : Int) == x)) = true then (1 : Int) else 0 := fun j => by
    show (if S ++ [((j : Nat) + 1 : Int)] = R then (1 : Int) else 0) = _
    by_cases z : S ++ [((j : Nat) + 1 : Int)] = R
    · rw [if_pos z]
      rw [eR] at z
      obtain ⟨g1, g2⟩ := List.append_inj z (by rw [hS, List.length_take]; omega)
      have g2 : ((j : Nat) + 1 : Int) = x := by injection g2
      rw [if_pos (by rw [decide_eq_true g1, g2]; simp)]
    · rw [if_neg z, if_neg]
      intro q
      rw [Bool.and_eq_true, beq_iff_eq] at q
      exact z (by rw [of_decide_eq_true q.1, q.2]; exact eR.symm)
  rw [sumN_congr _ fun j _ => e j, sumN_at]
  by_cases z : S = R.take i
  · rw [if_pos z, if_pos ⟨decide_eq_true z, h1, h2 z⟩]
  · rw [if_neg z, if_neg fun q => z (of_decide_eq_true q.1)]
theorem stn_once (G : GoodB B hi) : ∀ i : Nat, i ≤ B.length → ∀ R : List Int, R.length = i → StandsTo B R i → ((stnN B i).map fun S => if S = R then (1 : Int) else 0).sum = 1
  | 0, _, R, hR, _ => by
    have : R = [] := List.eq_nil_of_length_eq_zero hR
    subst this; rfl
  | i + 1, h, R, hR, hS => by
    obtain ⟨n, x, g1, g2, g3, g4⟩ := hS i (by omega)
    show (((stnN B i).flatMap (extS B i)).map fun S => if S = R then (1 : Int) else 0).sum = 1
    rw [sum_flatMap]
    have e : (stnN B i).map (fun S => ((extS B i S).map fun T => if T = R then (1 : Int) else 0).sum) = (stnN B i).map fun S => if S = R.take i then (1 : Int) else 0 :=
      List.map_congr_left fun S hSm => ext_once (stn_ok G i (by omega) S hSm).1 hR g2 g3 fun z => by
        have : lenAt B S i = lenAt B R i := lenAt_pre fun j hj => by rw [z, List.getElem?_take_of_lt hj]
        rw [this, g1]
        show x ≤ ((n.toNat : Nat) : Int)
        omega
    rw [e]
    refine stn_once G i (by omega) (R.take i) (by rw [List.length_take]; omega) fun c hc => ?_
    obtain ⟨n', r', k1, k2, k3, k4⟩ := hS c (by omega)
    exact ⟨n', r', by rw [← k1]; exact lenAt_pre fun j hj => by rw [List.getElem?_take_of_lt (by omega)], by rw [List.getElem?_take_of_lt hc]; exact k2, k3, k4⟩
theorem meets_all {R S : List Int} {n : Nat} (hR : R.length = n) (hS : S.length = n) : meets (R.map some) S n = decide (S = R) := by
  unfold meets
  rw [Bool.eq_iff_iff, List.all_eq_true, decide_eq_true_iff]
  constructor
  · intro h
    apply List.ext_getElem (by omega)
    intro i h1 h2
    have := h i (List.mem_range.mpr (by omega))
    rw [List.getElem?_map, List.getElem?_eq_getElem h2, List.getElem?_eq_getElem h1] at this
    have : (R[i] == S[i]) = true := this
    exact (beq_iff_eq.mp this).symm
  · rintro rfl i hi
    have hi := List.mem_range.mp hi
    rw [List.getElem?_map, List.getElem?_eq_getElem (by omega)]
    show (S[i] == S[i]) = true
    simp
/-- a standing meets itself alone -/
theorem one_all (G : GoodB B hi) {R : List Int} (hR : R ∈ stnL B) : allW B (wishW B (R.map some)) = 1 := by
  have S0 := stn_stands G hR
  rw [← stn_all G, ← stn_once G B.length (Nat.le_refl _) R S0.len fun c hc => S0.all c hc]
  show _ = ((stnL B).map _).sum
  congr 1
  refine List.map_congr_left fun S hS => ?_
  have S1 := stn_stands G hS
  rw [wgt_wish S1, meets_all S0.len S1.len]
  by_cases z : S = R
  · rw [if_pos z, if_pos (decide_eq_true z)]
  · rw [if_neg z, if_neg (by rw [decide_eq_false z]; exact Bool.false_ne_true)]
end
end Af
set_option maxHeartbeats 4000000
/-! ### errors of the program's own classes, over any built-in base: made, raised, caught, kept, asked -/
namespace Af
open PySem PySem.Spec PyProof.Rows L2
/-- a built-in class over which an own one stands -/
structure BaseE (b : Str) (B nw ini : String) (mro : List Value) : Prop where
  F : ExcBaseFacts B nw ini mro
  S : StoreFacts B mro "object.__setattr__" "object"
  bt : bootBuiltins b = some (.type B)
  ty : typeOf (.type B) = pure (.type "type")
  st : Manifest.isStub B = false
  hi : PySem.W.handedIn (.builtin ini) = true
  nn : b ≠ "__name__"
  nd : (b == ("__debug__" : Str)) = false
abbrev mroL : List Value := [.type "LookupError", .type "Exception", .type "BaseException", .type "object"]
abbrev mroV : List Value := [.type "ValueError", .type "Exception", .type "BaseException", .type "object"]
abbrev mroR : List Value := [.type "RuntimeError", .type "Exception", .type "BaseException", .type "object"]
abbrev mroO : List Value := [.type "OverflowError", .type "ArithmeticError", .type "Exception", .type "BaseException", .type "object"]
theorem baseL : BaseE "LookupError" "LookupError" "LookupError.__new__" "LookupError.__init__" mroL :=
  ⟨PySem.F.excBase_LookupError, PySem.F.store_LookupError, by decide +kernel, by kernel_rfl, by decide +kernel, by decide +kernel, by decide, by decide⟩
theorem baseV : BaseE "ValueError" "ValueError" "ValueError.__new__" "ValueError.__init__" mroV :=
  ⟨PySem.F.excBase_ValueError, PySem.F.store_ValueError, by decide +kernel, by kernel_rfl, by decide +kernel, by decide +kernel, by decide, by decide⟩
theorem baseR : BaseE "RuntimeError" "RuntimeError" "RuntimeError.__new__" "RuntimeError.__init__" mroR :=
  ⟨PySem.F.excBase_RuntimeError, PySem.F.store_RuntimeError, by decide +kernel, by kernel_rfl, by decide +kernel, by decide +kernel, by decide, by decide⟩
theorem baseO : BaseE "OverflowError" "OverflowError" "OverflowError.__new__" "OverflowError.__init__" mroO :=
  ⟨PySem.F.excBase_OverflowError, PySem.F.store_OverflowError, by decide +kernel, by kernel_rfl, by decide +kernel, by decide +kernel, by decide, by decide⟩
/-- what the top has written of an own error class at C -/
structure ErrC (K : PySem.W.Frag) (nw : String) (mro : List Value) (C : Addr) : Prop where
  ini : PySem.W.excInitIn K C mro nw = true
  ovr : PySem.W.excOver K C mro = true
  sa : PySem.W.findIn K (.ref C) "__setattr__" = some (some (.builtin "object.__setattr__"))
  ga : PySem.W.findIn K (.ref C) "__getattribute__" = some (some (.builtin "BaseException.__getattribute__"))
  gg : PySem.W.findIn K (.ref C) "__getattr__" = some none
  ca : PySem.W.findIn K (.ref C) "__class__" = some (some (.builtin "object.__class__"))
  ex : PySem.W.subIn K (.ref C) (.type "BaseException") = some true
  ty : PySem.W.typeIn K (.ref C) = some (.type "type")
  kp : PySem.W.keepIn K (.ref C) = true
  hd : PySem.W.hasDictIn K C = true
  ob : PySem.W.mroIn K C (.type "object") = some true
/-- what it says of object.__class__ -/
structure ObjC (K : PySem.W.Frag) : Prop where
  gs : PySem.W.specialIn K (.builtin "object.__class__") "__get__" = some (some (.builtin "getset_descriptor.__get__"))
  tk : PySem.W.takesIn K (.builtin "object.__class__") = some true
theorem objC {K : PySem.W.Frag} : ObjC K := ⟨by kernel_rfl, by kernel_rfl⟩
section
variable {X : Cx} {pins : List (Addr × Obj)} {σ : L2.St} {H : Hp} {s : Shared} {a C dx : Addr} {f : Str} {y : V} {u : Value} {fs : List (Str × V)} {nw ini B : String} {b : Str} {mro : List Value}
/-- the base's own __init__, called on an object that is being made: its arguments are not told -/
theorem base_init {A : Around} {E : Value → Shared → Prop} {us : List Value} {Q : Value → Shared → Prop} (Y : BaseE b B nw ini mro) (T : PySem.W.excInitIn X.K C mro nw = true) (I : Inv X pins σ H s) (e : H a = some (exo a C none)) (hl : us.length ≤ sizeLine)
    (h : ∀ s', Inv X pins σ H s' → Q .none s') : wpAny (model X.prog X.w) A (call (.builtin ini) (.ref a :: us)) Q E s := by
  obtain ⟨nm, N, qn, bs, bm, hdct, sn, sub, ab, col, dd, k0, k1, k2, k3, k5, hC, hT⟩ := PySem.W.excInit_of I.kIn T
  obtain ⟨t1, ho⟩ := exo_at I.hok e
  obtain ⟨hp, g, d, t, os⟩ := s
  refine wpAny_call (PySem.HandSPX.init_base Y.F hT hC ho hl (fun h' t2 k hx => ?_))
  have J := I.write (t' := t) (x := a) (e := a) (o := exo a C none) (by rw [e]; trivial) (.inl rfl) k ⟨_, hx⟩ (exo_ok hx)
  have same : upd H a (exo a C none) = H := funext fun c => by
    by_cases z : c = a
    · subst z; rw [upd_same, e]
    · exact upd_ne z
  rw [same] at J
  exact h _ J
/-- the first field of an object that is being made -/
theorem err_field {A : Around} {E : Value → Shared → Prop} {Q : Unit → Shared → Prop} (Y : BaseE b B nw ini mro) (T : ErrC X.K nw mro C) (I : Inv X pins σ H s) (e : H a = some (exo a C none)) (hno : PySem.W.findIn X.K (.ref C) f = some none) (ry : RelV y u)
    (h : ∀ dx s', H dx = none → dx ≠ a → Inv X pins σ (upd (upd H dx (exd dx [(f, y)])) a (exo a C (some dx))) s' → Q () s') : wpAny (model X.prog X.w) A (setAttr (.ref a) f u) Q E s := by
  obtain ⟨t1, ho⟩ := exo_at I.hok e
  obtain ⟨hp, g, d, t, os⟩ := s
  have hxs : a ≠ hp.objs.size := Nat.ne_of_lt (Heap.lt_size ho)
  have IA : PySem.W.InstAt hp a { cls := .ref C, dict := none, data := .fields #[.ref t1, .none, .none, .none, .bool false, .none] } C none := ⟨ho, rfl, rfl, trivial⟩
  have htk : PySem.W.takerIn X.K C f = some none := by unfold PySem.W.takerIn; rw [hno]; rfl
  have hh := T.hd
  obtain ⟨cd, hcd, hcdd⟩ := PySem.W.any_some hh
  have hcls : PySem.W.Looks (model X.prog X.w) hp (classData C) cd := PySem.W.looks_clsIn I.kIn hcd
  have fin : ∀ (h' : Heap) (tk' : Nat), h'.Ns1 hp.objs.size (fun z => if z = f then some u else none) →
      Heap.SameBut hp.objs.size (Heap.update (hp.push { cls := .type "dict", data := .dict #[] }) a (fun o => { o with dict := some hp.objs.size })) h' → Q () ⟨h', g, d, tk', os⟩ := fun h' tk' hn hs => by
    have hx₁ : (hp.push { cls := .type "dict", data := .dict #[] }).get? a = some { cls := .ref C, dict := none, data := .fields #[.ref t1, .none, .none, .none, .bool false, .none] } := Heap.get?_push_of_some _ ho
    have hx : h'.get? a = some { cls := .ref C, dict := some hp.objs.size, data := .fields #[.ref t1, .none, .none, .none, .bool false, .none] } := (hs.2 a hxs).trans (Heap.get?_update_self _ hx₁ rfl)
    have k : ∀ c o, c ≠ a → hp.get? c = some o → h'.get? c = some o := fun c o hc hb =>
      (hs.2 c (Nat.ne_of_lt (Heap.lt_size hb))).trans ((Heap.get?_update_ne _ _ _ _ hc).trans (Heap.get?_push_of_some _ hb))
    have hnd : H hp.objs.size = none := I.hok.fresh (Nat.le_refl _)
    have ndx : ∀ {c : Addr} {o : Obj}, hp.get? c = some o → c ≠ hp.objs.size := fun q => Nat.ne_of_lt (Heap.lt_size q)
    have na : ∀ {c : Addr}, H c = none → c ≠ a := fun n z => by rw [z, e] at n; cases n
    have U : Un X.fs [] H (upd (upd H hp.objs.size (exd hp.objs.size [(f, y)])) a (exo a C (some hp.objs.size))) hp h' := {
      keep := fun c o q n _ _ => k c o (na n) q
      slot := fun c o q n _ _ => ⟨o.slots, k c o (na n) q⟩
      free := fun c o q n _ => by rw [upd_ne (na n), upd_ne (ndx q)]; exact n
      there := fun c o q _ => by
        by_cases z : c = a
        · exact ⟨_, z ▸ hx⟩
        · exact ⟨o, k c o z q⟩
      tups := fun c xs q => by rw [upd_ne (at_ne e q exo_tup), upd_ne (ne_of_none q hnd)]; exact q
      frzs := fun c o v q => by rw [upd_ne (at_ne e q exo_frz), upd_ne (ne_of_none q hnd)]; exact q
      tbls := fun c ps q => ⟨#[], by rw [upd_ne (at_ne e q exo_tbl), upd_ne (ne_of_none q hnd), q]; simp⟩ }
    refine h hp.objs.size _ hnd hxs.symm (I.un (t' := tk') U (fun c o q => ?_))
    by_cases z : c = a
    · subst z
      rw [upd_same] at q; cases q
      exact exo_ok hx
    · rw [upd_ne z] at q
      by_cases z2 : c = hp.objs.size
      · subst z2
        rw [upd_same] at q; cases q
        exact exd_ok hn (relO_put (fs := []) ry fun _ => True.intro)
      · rw [upd_ne z2] at q
        refine (I.hok c o q).stay (fun c' v hc r => k c' v ?_ r) (fun c' hc => ?_) (fun c' xs hc => ?_)
        · rcases hc with hc | hc
          · rw [hc]; exact z
          · exact at_ne e hc exo_own
        · rw [upd_ne (at_ne e hc exo_own), upd_ne (ne_of_none hc hnd)]; exact hc
        · rw [upd_ne (at_ne e hc exo_tup), upd_ne (ne_of_none hc hnd)]; exact hc
  refine PySem.W.set_plain I.kIn IA T.sa (PySem.W.osa_openX Y.S I.kIn IA T.ovr htk fun flag => ?_)
  show wpAny _ _ (Builtin.ObjectAttr.storeInOwnDict (.ref a) (.ref C) (.str f t) f u flag) _ _ _
  obtain ⟨nm, bs, mr, ns, qn, hd, sn, sb, ab, col, del⟩ := cd
  dsimp only at hcdd
  subst hcdd
  unfold Builtin.ObjectAttr.storeInOwnDict Builtin.ObjectAttr.ownDictForStores
  repeat (first | with_reducible refine PySem.HandSPX.store_in_new ?_ ?_ | with_reducible refine wpAny_loadPart_at ho ?_ | with_reducible refine hcls.at ?_ | wp_step)
  · exact ⟨_, #[], _, (Heap.get?_update_ne _ _ _ _ hxs.symm).trans (Heap.get?_push_at rfl rfl), rfl, fun e he => absurd he (by simp), fun _ => rfl⟩
  · intro h' tk' hn hs
    exact fin h' tk' hn hs
end
end Af
set_option maxHeartbeats 4000000
/-! ### errors: the rules -/
namespace Af
open PySem PySem.Spec PyProof.Rows L2
/-! the base's __init__, a field, the making -/
/-- B.__init__(self, ..) within an own __init__ -/
def tBaseInit (K : PySem.W.Frag) (mro : List Value) (nw : String) (ta : TA) : TE := fun σ H Q => ta σ H fun vs H1 => ∃ (a C : Addr) (ws : List V),
  vs = .ref a :: ws ∧ ws.length ≤ 1000 ∧ PySem.W.excInitIn K C mro nw = true ∧ H1 a = some (exo a C none) ∧ Q .non H1
/-- self.f = e within it -/
def tErrField (K : PySem.W.Frag) (mro : List Value) (nw : String) (f : Str) (to te : TE) : TS := fun D σ H => te σ H fun y H1 => to σ H1 fun x H2 => ∃ a C : Addr,
  x = .ref a ∧ ErrC K nw mro C ∧ PySem.W.findIn K (.ref C) f = some none ∧ H2 a = some (exo a C none) ∧
    ∀ dx, H2 dx = none → dx ≠ a → D.nx σ (upd (upd H2 dx (exd dx [(f, y)])) a (exo a C (some dx)))
/-- raise C(e): the error's dict is new, and holds the field -/
def tRaiseErr (C : Addr) (f : Str) (W : WX) (ta : TA) : TS := fun _ σ H => ta σ H fun vs H1 => ∃ v : V, vs = [v] ∧ ∀ d, H1 d = none → W (.ref C) (some d) σ (upd H1 d (.xd [(f, v)]))
/-- what an own __init__ of one field promises -/
def spErrInit (C : Addr) (f : Str) : Sp := fun vs H Q _ => ∃ (a : Addr) (v : V), vs = [.ref a, v] ∧ H a = some (exo a C none) ∧
  ∀ dx, H dx = none → dx ≠ a → Q .non (upd (upd H dx (exd dx [(f, v)])) a (exo a C (some dx)))
section
variable {X : Cx} {b : Str} {B nw ini : String} {mro : List Value} {o e : Expr} {es : List Expr} {ta : TA} {to te : TE} {f : Str} {p p' p1 p2 pos pos2 : Pos} {C fI : Addr}
theorem pe_baseInit {pl : Sem Bool} (Y : BaseE b B nw ini mro) (hg : Gl X b) (hm : X.mg b = none) (hv : PySem.W.findCls X.K (.type B) (.type "type") "__init__" = some (.val (.builtin ini))) (ha : PA X (e :: es) ta)
    (hcall : eval (.Call (.Attribute (.Name b p1) "__init__" p2) (e :: es) [] pos) X.env = (do
      let base ← eval (.Name b p1) X.env
      standAt p2.atName
      let (fn, own) ← holding [base] (getMethod base "__init__" pl)
      callWith pos fn own (backTo pos (starEach (e :: es) X.env)) (backToKw pos (keywordEach [] X.env))) := by rfl)
    (he : starEach (e :: es) X.env = (false, eval e X.env) :: starEach es X.env := by rfl) (hp : (backTo pos (starEach es X.env)).any (·.1) = false := by rfl) :
    PE X (.Call (.Attribute (.Name b p1) "__init__" p2) (e :: es) [] pos) (tBaseInit X.K mro nw ta) := by
  refine ⟨fun pins s σ H Q I h => PySem.W.methodCall_KW (ld_blt I hg hm Y.bt ?_ Y.nn Y.nd) hcall⟩
  obtain ⟨m, fr⟩ := I.fr
  refine PySem.W.method_type fr I.ok.mod.kin Y.ty Y.st hv Y.hi ?_
  refine PyProof.Rows.callWith_method1 (first := []) (thn (ha.run pos pins _ σ H _ (I.tok _) h) fun us s1 hh => ?_) he hp
  obtain ⟨vs, H1, I1, r1, a, C, ws, rfl, hl, T, ea, q⟩ := hh
  cases r1 with
  | @cons _ u0 _ ur ra rw' =>
    obtain rfl : u0 = Value.ref a := ra
    exact base_init Y T I1 ea (Nat.le_trans (Nat.le_of_eq rw'.length.symm) (Nat.le_of_lt (small1000 hl))) fun s' J => ⟨.non, H1, J, rfl, q⟩
theorem ps_errField (Y : BaseE b B nw ini mro) (ho : PE X o to) (he : PE X e te) (hs : swapsWith e (some (.Attribute o f p')) pos.line X.env = pure false := by rfl) : PS X (.Assign [.Attribute o f p'] e pos) (tErrField X.K mro nw f to te) := by
  refine ⟨fun pins s σ H D I h => plainObj_wpAny_Assign_Attribute (thn (he.run pins s σ H _ I h) fun v s1 h1 => ?_) hs⟩
  obtain ⟨y, H1, I1, r1, q1⟩ := h1
  refine thn (ho.run pins s1 σ H1 _ I1 q1) fun u s2 h2 => ?_
  obtain ⟨x, H2, I2, r2, a, C, rfl, T, hno, ea, q⟩ := h2
  obtain rfl : u = Value.ref a := r2
  exact err_field Y T I2 ea hno r1 fun dx s' n ne J => ⟨σ, _, J, q dx n ne⟩
/-- C(e) -/
theorem pmk_err {x : Str} {k : Nat} {fd : FuncData} {ps : List Str} (Y : BaseE b B nw ini mro) (T : ErrC X.K nw mro C) (iC : PySem.W.findIn X.K (.ref C) "__init__" = some (some (.ref fI))) (tI : PySem.W.typeIn X.K (.ref fI) = some (.type "function"))
    (G : FnOk X.prog X.w X.K X.mg X.base CX0 k fI fd ps (spErrInit C f)) (hr : Room (k + 1) X.A) (hb : Binds X.K fd ps []) (hg : Gl X x) (hm : X.mg x = some (.ref C)) (ha : PA X (e :: es) ta)
    (hdb : (x == ("__debug__" : Str)) = false := by decide) (he : starEach (e :: es) X.env = (false, eval e X.env) :: starEach es X.env := by rfl) (hp : (backTo pos (starEach es X.env)).any (·.1) = false := by rfl) :
    PMk X (.Call (.Name x p) (e :: es) [] pos) (fun σ H Q => ta σ H fun vs H1 => ∃ v : V, vs = [v] ∧ ∀ d, H1 d = none → Q (.ref C) (some d) (upd H1 d (.xd [(f, v)]))) := by
  intro pins s σ H Q I h
  refine wpAny_Call_Name_kw (ld_glob I hg hm ?_ hdb)
  refine PySem.W.callWith_K (h₀ := X.base) I.ok.mod.kin T.kp (thn (ha.run pos pins s σ H _ I h) fun us s1 hh => ?_) he hp
  obtain ⟨vs, H1, I1, r1, v, rfl, q1⟩ := hh
  refine ⟨I1.kIn, ?_⟩
  show wpAny _ _ (call (.ref C) us) _ _ _
  obtain ⟨nm, N, qn, bs, bm, hdct, sn, sub, ab, col, dd, k0, k1, k2, k3, k5, hC, hT⟩ := PySem.W.excInit_of I1.kIn T.ini
  obtain ⟨hp1, g, dr, tk, os⟩ := s1
  obtain ⟨at_, eat⟩ : ∃ c : Addr, c = hp1.objs.size + 1 := ⟨_, rfl⟩
  have big : hp1.objs.size ≤ at_ := by rw [eat]; exact Nat.le_succ _
  have hn : H1 at_ = none := I1.hok.fresh big
  have kk : ∀ c o, hp1.get? c = some o → ((hp1.push (PySem.W.kdv_tup us)).push (PySem.HandSPX.excO C hp1.objs.size)).get? c = some o := fun c o z => Heap.get?_push_of_some _ (Heap.get?_push_of_some _ z)
  have hget : ((hp1.push (PySem.W.kdv_tup us)).push (PySem.HandSPX.excO C hp1.objs.size)).get? at_ = some (PySem.HandSPX.excO C hp1.objs.size) := by rw [eat]; heap_get
  have I2 : Inv X pins σ (upd H1 at_ (exo at_ C none)) ⟨(hp1.push (PySem.W.kdv_tup us)).push (PySem.HandSPX.excO C hp1.objs.size), g, dr, tk, os⟩ :=
    I1.laid (t' := tk) (a := at_) (o := exo at_ C none) (h' := (hp1.push (PySem.W.kdv_tup us)).push (PySem.HandSPX.excO C hp1.objs.size)) kk big (exo_ok hget)
  have r2 : Vals [V.ref at_, v] (Value.ref at_ :: us) := .cons rfl r1
  have sp : spErrInit C f [V.ref at_, v] (upd H1 at_ (exo at_ C none)) (fun x H2 => x = .non ∧ ∃ (d : Addr) (fs : List (Str × V)), H2 at_ = some (exo at_ C (some d)) ∧ H2 d = some (exd d fs) ∧ H1 d = none ∧ Q (.ref C) (some d) (upd (L2.del H2 at_) d (.xd fs))) (fun _ _ _ => False) := by
    refine ⟨at_, v, rfl, upd_same, fun dx nd ne => ⟨rfl, dx, [(f, v)], upd_same, (upd_ne ne).trans upd_same, ?_, ?_⟩⟩
    · rw [upd_ne ne] at nd; exact nd
    · rw [upd_ne ne] at nd
      have same : upd (L2.del (upd (upd (upd H1 at_ (exo at_ C none)) dx (exd dx [(f, v)])) at_ (exo at_ C (some dx))) at_) dx (.xd [(f, v)]) = upd H1 dx (.xd [(f, v)]) := funext fun c => by
        by_cases z : c = dx
        · subst z; rw [upd_same, upd_same]
        · rw [upd_ne z, upd_ne z]
          by_cases z2 : c = at_
          · subst z2; rw [L2.del_same, hn]
          · rw [L2.del_ne z2, upd_ne z2, upd_ne z, upd_ne z2]
      rw [same]
      exact q1 dx nd
  have hl : (Value.ref at_ :: us).length = ps.length := by rw [← r2.length]; exact G.len _ _ _ _ sp
  have bd := hb ⟨(hp1.push (PySem.W.kdv_tup us)).push (PySem.HandSPX.excO C hp1.objs.size), g, dr, tk, os⟩ (Value.ref at_ :: us) I2.kIn (by rw [List.append_nil]; exact hl)
  rw [List.append_nil] at bd
  have hus : us.length ≤ sizeLine := by rw [← r1.length]; exact Nat.le_of_lt (small1000 (show 1 ≤ 1000 by decide))
  refine wpAny_call (PySem.HandSPX.call_own Y.F hT hC (PySem.W.looks_findIn I1.kIn iC) (fun self => PySem.W.bind_fn I1.kIn self tI) hus ?_)
  rw [← eat]
  refine codeAny_mono (G.run _ X.stack _ _ ⟨Value.ref at_ :: us, []⟩ (Value.ref at_ :: us) _ _ (fun _ _ _ => False) (hr.make C us []) (I2.env0.make C us []) bd r2 sp) fun r s' hq => ?_
  cases r with
  | error er => exact hq.elim
  | ok fl =>
    cases fl with
    | ret u =>
      obtain ⟨w', H2, os2, bare2, un2, hok2, rv, rfl, d, fs, ea, ed, hd1, q2⟩ := hq
      obtain ⟨h2, g2, d2, t2, os'⟩ := s'
      exact ⟨rv, mk_end (raises_own T.ex T.ty) I1 big kk un2 hok2 os2 bare2 ea ed hd1 q2⟩
    | next => exact hq.elim
    | brk => exact hq.elim
    | cont => exact hq.elim
end
end Af
set_option maxHeartbeats 4000000
/-! ### errors: caught and kept; asked for their class and their field -/
namespace Af
open PySem PySem.Spec PyProof.Rows L2
/-- an error of the class C at e, with its dict -/
def exk (e C : Addr) (d : Option Addr) : HO := .ext fun h => ∃ (oe : Obj) (vs : Array Value), h.get? e = some oe ∧ Zc (.ref C) d oe ∧ oe.data = .fields vs
theorem exk_ok {P : Program} {w : World} {H : Hp} {h : Heap} {e C : Addr} {d : Option Addr} {oe : Obj} {vs : Array Value} (he : h.get? e = some oe) (z : Zc (.ref C) d oe) (hd : oe.data = .fields vs) : ObjOk P w H h e (exk e C d) :=
  ⟨⟨oe, vs, he, z, hd⟩, ⟨oe, he⟩, fun _ _ x k => by
    obtain ⟨o, v, q, r⟩ := x
    exact ⟨o, v, k o q, r⟩⟩
theorem exk_at {P : Program} {w : World} {H : Hp} {h : Heap} {e C : Addr} {d : Option Addr} (hok : HOk P w H h) (x : H e = some (exk e C d)) : ∃ (oe : Obj) (vs : Array Value), h.get? e = some oe ∧ Zc (.ref C) d oe ∧ oe.data = .fields vs :=
  (show ObjOk P w H h e (.ext fun h => ∃ (oe : Obj) (vs : Array Value), h.get? e = some oe ∧ Zc (.ref C) d oe ∧ oe.data = .fields vs) from hok e _ x).1
section
variable {X : Cx} {pins : List (Addr × Obj)} {σ : L2.St} {H : Hp} {s : Shared}
/-- an object that stands there and isn't tracked is tracked from now on -/
theorem track {a : Addr} {o : HO} {oe : Obj} {vs : Array Value} (I : Inv X pins σ H s) (hg : s.heap.get? a = some oe) (hd : oe.data = .fields vs) (hn : H a = none) (h0 : X.s_0.heap.get? a = none) (nL : a ≠ X.env.locals)
    (hp : ∀ p ∈ X.pn ++ pins, p.1 ≠ a) (new : ObjOk X.prog X.w (upd H a o) s.heap a o) : Inv X pins σ (upd H a o) s := by
  have nt : ∀ {c : Addr} {u : HO}, H c = some u → c ≠ a := fun q z => by rw [z, hn] at q; cases q
  refine ⟨I.ok, I.os, I.bare, ⟨I.base.keep, I.base.slot, fun c u q n hx => ?_, I.base.there, fun c xs q => ?_, fun c u v q => ?_, fun c ps q => ?_⟩, I.loc, I.cell, ?_, fun x c q => ?_, fun p hm => ?_, fun c u q => ?_, I.len⟩
  · rw [upd_ne (fun z => by rw [z, h0] at q; cases q)]; exact I.base.free c u q n hx
  · have z := I.base.tups c xs q
    rw [upd_ne (nt z)]; exact z
  · have z := I.base.frzs c u v q
    rw [upd_ne (nt z)]; exact z
  · obtain ⟨more, z⟩ := I.base.tbls c ps q
    exact ⟨more, by rw [upd_ne (nt z)]; exact z⟩
  · rw [upd_ne (Ne.symm nL)]; exact I.free
  · have z := I.freeC x c q
    rw [upd_ne]; · exact z
    intro e
    obtain ⟨v, o', ho', hd'⟩ := I.cell x c q
    rw [e, hg] at ho'
    cases ho'
    rw [hd] at hd'; cases hd'
  · obtain ⟨e1, e2, e3, e4, e5⟩ := I.pin p hm
    exact ⟨e1, by rw [upd_ne (hp p hm)]; exact e2, e3, e4, e5⟩
  · by_cases e : c = a
    · subst e
      rw [upd_same] at q; cases q
      exact new
    · rw [upd_ne e] at q
      exact (I.hok c u q).stay (fun _ _ _ z => z) (fun c' z => by rw [upd_ne (nt z)]; exact z) fun c' xs z => by rw [upd_ne (nt z)]; exact z
theorem suite0 (I : Inv X pins σ H s) (a : Addr) : Inv (X.suite a (X.pn ++ pins)) [] σ H s :=
  ⟨I.ok.suite _ _, I.os, I.bare, I.base, I.loc, I.cell, I.free, I.freeC, fun p hp => I.pin p (by rw [List.append_nil] at hp; exact hp), I.hok, I.len⟩
theorem unsuite0 {a : Addr} (I : Inv (X.suite a (X.pn ++ pins)) [] σ H s) (ok : X.Ok) : Inv X pins σ H s :=
  ⟨ok, I.os, I.bare, I.base, I.loc, I.cell, I.free, I.freeC, fun p hp => I.pin p (List.mem_append_left _ hp), I.hok, I.len⟩
end
/-- the test of an except clause: which classes it names -/
def Clause (X : Cx) (ty : Expr) (us : List Value) : Prop :=
  ∀ (a : Addr) (oe : Obj) (pn : List (Addr × Obj)) (σ : L2.St) (H : Hp) (s : Shared) (cls : Value) (b : Bool) (E : Value → Shared → Prop) (Q : Bool → Shared → Prop),
    Inv (X.suite a ((a, oe) :: pn)) [] σ H s → PySem.W.Looks (model X.prog X.w) s.heap (typeOf (.ref a)) cls → PySem.W.exmAny X.K cls us = some b →
    (∀ h', (∀ c o, s.heap.get? c = some o → h'.get? c = some o) → Q b { s with heap := h' }) →
    wpAny (model X.prog X.w) (X.A.mark (some (.ref a))) (eval ty X.env) (fun c s₁ => wpAny (model X.prog X.w) (X.A.mark (some (.ref a))) (excMatches (.ref a) c) Q E s₁) E s
theorem names_ld {X : Cx} {x : Str} {c : Value} {np : Pos} (hc : Names X x c) {a : Addr} {oe : Obj} {pn : List (Addr × Obj)} {σ : L2.St} {H : Hp} {s : Shared} {E : Value → Shared → Prop} {Q : Value → Shared → Prop} (I : Inv (X.suite a ((a, oe) :: pn)) [] σ H s) (q : Q c s) :
    wpAny (model X.prog X.w) (X.A.mark (some (.ref a))) (eval (.Name x np) X.env) Q E s := by
  obtain ⟨hg, hdbg, hm | ⟨hm, hv, hnn⟩⟩ := hc
  · exact ld_glob (X := X.suite a ((a, oe) :: pn)) I hg hm q hdbg
  · exact ld_blt (X := X.suite a ((a, oe) :: pn)) I hg hm hv q hnn hdbg
theorem clause1 {X : Cx} {x : Str} {c : Value} {np : Pos} (hc : Names X x c) : Clause X (.Name x np) [c] := fun a oe pn σ H s cls b E Q I LT hb q => by
  obtain ⟨b1, d1, x1, y1, rfl⟩ := PySem.W.exmAny_cons hb
  have w1 : some false = some d1 := y1
  cases w1
  rw [Bool.or_false] at q
  exact names_ld hc I ((PySem.W.exm_one I.kIn LT x1).here (q s.heap fun _ _ z => z))
theorem clause2 {X : Cx} {x1 x2 : Str} {c1 c2 : Value} {p1 p2 pos : Pos} {k : Nat} (h1 : Names X x1 c1) (h2 : Names X x2 c2) : Clause X (.Tuple [.Name x1 p1, .Name x2 p2] k pos) [c1, c2] := fun a oe pn σ H s cls b E Q I LT hb q => by
  refine wpAny_Tuple (wpAny_items_cons (names_ld h1 I (wpAny_items_cons (names_ld h2 I (wpAny_items_nil ⟨by rw [sizeLine_eq]; show _ ≤ _; exact Nat.le_of_ble_eq_true rfl, ?_⟩)))))
  have kp : ∀ c o, s.heap.get? c = some o → (s.heap.push { cls := .type "tuple", data := .seq [c1, c2].toArray }).get? c = some o := fun _ _ z => Heap.get?_push_of_some _ z
  exact (PySem.W.exm_tup2 (I.kIn.keeps kp) (LT.keeps kp) (Heap.get?_push_size s.heap rfl) hb).here (q _ kp)
theorem clause3 {X : Cx} {x1 x2 x3 : Str} {c1 c2 c3 : Value} {p1 p2 p3 pos : Pos} {k : Nat} (h1 : Names X x1 c1) (h2 : Names X x2 c2) (h3 : Names X x3 c3) : Clause X (.Tuple [.Name x1 p1, .Name x2 p2, .Name x3 p3] k pos) [c1, c2, c3] := fun a oe pn σ H s cls b E Q I LT hb q => by
  refine wpAny_Tuple (wpAny_items_cons (names_ld h1 I (wpAny_items_cons (names_ld h2 I (wpAny_items_cons (names_ld h3 I (wpAny_items_nil ⟨by rw [sizeLine_eq]; show _ ≤ _; exact Nat.le_of_ble_eq_true rfl, ?_⟩)))))))
  have kp : ∀ c o, s.heap.get? c = some o → (s.heap.push { cls := .type "tuple", data := .seq [c1, c2, c3].toArray }).get? c = some o := fun _ _ z => Heap.get?_push_of_some _ z
  exact (PySem.W.exm_tup3 (I.kIn.keeps kp) (LT.keeps kp) (Heap.get?_push_size s.heap rfl) hb).here (q _ kp)
theorem clause4 {X : Cx} {x1 x2 x3 x4 : Str} {c1 c2 c3 c4 : Value} {p1 p2 p3 p4 pos : Pos} {k : Nat} (h1 : Names X x1 c1) (h2 : Names X x2 c2) (h3 : Names X x3 c3) (h4 : Names X x4 c4) : Clause X (.Tuple [.Name x1 p1, .Name x2 p2, .Name x3 p3, .Name x4 p4] k pos) [c1, c2, c3, c4] := fun a oe pn σ H s cls b E Q I LT hb q => by
  refine wpAny_Tuple (wpAny_items_cons (names_ld h1 I (wpAny_items_cons (names_ld h2 I (wpAny_items_cons (names_ld h3 I (wpAny_items_cons (names_ld h4 I (wpAny_items_nil ⟨by rw [sizeLine_eq]; show _ ≤ _; exact Nat.le_of_ble_eq_true rfl, ?_⟩)))))))))
  have kp : ∀ c o, s.heap.get? c = some o → (s.heap.push { cls := .type "tuple", data := .seq [c1, c2, c3, c4].toArray }).get? c = some o := fun _ _ z => Heap.get?_push_of_some _ z
  exact (PySem.W.exm_tup4 (I.kIn.keeps kp) (LT.keeps kp) (Heap.get?_push_size s.heap rfl) hb).here (q _ kp)
/-- what 'except ty as n' wishes of an error of the body, the error kept: slot i is n's -/
def wKeep (K : PySem.W.Frag) (us : List Value) (i : Nat) (ts : Addr → TS) (Wout : WX) (D : Ends) : WX := fun cls d σ H =>
  ∃ b, PySem.W.exmAny K cls us = some b ∧ (b = true → ∃ C, cls = .ref C ∧ ∀ a, H a = none →
      ts a { nx := fun σ' H' => D.nx (σ'.set i none) H', rt := D.rt, bk := fun σ' H' => D.bk (σ'.set i none) H', ct := fun σ' H' => D.ct (σ'.set i none) H' } (σ.set i (some (.ref a))) (upd H a (exk a C d))) ∧
    (b = false → Wout cls d σ H)
theorem flying_push {B : Heap} {l : List Env} {a : Addr} {Z : Obj → Prop} {h h' : Heap} (x : HandSPX.FlyingZ B l a Z h) (k : ∀ c o, h.get? c = some o → h'.get? c = some o) : HandSPX.FlyingZ B l a Z h' := by
  obtain ⟨f1, f2, f3, oe, vs, T, oT, ts, he, hz, hd, h1, hn, hT, hTo, hdT, h3⟩ := x
  exact ⟨fun c o q => k c o (f1 c o q), f2, f3.of_keeps fun c o q _ => ⟨o, k c o q, rfl⟩, oe, vs, T, oT, ts, k _ _ he, hz, hd, h1, hn, hT, k _ _ hTo, hdT, h3⟩
section
variable {X : Cx} {n : Str} {us : List Value} {i : Nat} {body suite : List Stmt} {b₀ : Stmt} {ty : Expr} {pos pos' : Pos} {tb : WX → TS} {ts : Addr → TS} {Wout : WX}
theorem ps_try_keep (hs : X.stack = X.env :: X.outer) (hf : X.env.frame = some X.env.locals) (hex : X.ex = []) (hN : X.N.Nodup) (hi : X.N[i]? = some n) (hln : X.env.kindOf n = some .local) (hT : Clause X ty us) (tk : Takes X Wout)
    (hb : ∀ (W : WX) (pn : List (Addr × Obj)) (xe : Value → Shared → Prop), Takes (X.tr pn xe) W → PassesOwn (model X.prog X.w) X.A X.env xe → PSs (X.tr pn xe) body (tb W))
    (hsu : ∀ (a : Addr) (pn : List (Addr × Obj)), PSs (X.suite a pn) (b₀ :: suite) (ts a)) :
    PS X (.Try body [.ExceptHandler (some ty) (some n) (b₀ :: suite) pos'] [] [] pos) (fun D σ H => tb (wKeep X.K us i ts Wout D) D σ H) := by
  refine ⟨fun pins s σ H D I h => ?_⟩
  have ok := I.ok
  have hfr : X.A.frames = some (X.env :: X.outer) := by rw [ok.frames, hs]
  have go := (hb (wKeep X.K us i ts Wout D) (X.pn ++ pins) (fun e s₁ => wpAny (model X.prog X.w) X.A (noteFrame e X.env) (fun _ s₂ => wpAny (model X.prog X.w) X.A (setFlight e none) (fun _ s₃ =>
    wpAny (model X.prog X.w) X.A (handleBy e X.env [.ExceptHandler (some ty) (some n) (b₀ :: suite) pos']) (SP X pins D) X.xe s₃) X.xe s₂) X.xe s₁) ?hcatch PassesOwn.looking).run [] s σ H D (I.toTry _) h
  case hcatch =>
    intro u s' xx
    obtain ⟨a, B, sI, pins', σ', H', cls, d, rfl, J', nb, up, sky, na, os, ag, b, hb1, hyes, hno⟩ := xx
    have J : Inv X pins σ' H' sI := J'.ofTry ok
    have sky' : Sky B (X.env :: X.outer) a (Zc cls d) X.env.locals s'.heap := by rw [← hs]; exact sky
    show wpAny (model X.prog X.w) X.A (noteFrame (.ref a) X.env) _ _ _
    refine Sky.land Zc.steady hfr hf sky' fun h3 fl3 up3 => ?_
    have J3 : Inv X pins σ' H' { s' with heap := h3 } := J.landed nb fl3.1 (up.trans up3) os ag
    obtain ⟨oe3, vs3, he3, hz3, hd3⟩ := fl3.there
    have nfr : a ∉ frs (X.env :: X.outer) := fun hm => by
      obtain ⟨_, o', e', hnf⟩ := fl3.2.2.1.mem hm
      rw [he3] at e'; cases e'
      exact hnf _ hd3
    have nL : a ≠ X.env.locals := fun z => nfr (List.mem_filterMap.mpr ⟨X.env, List.mem_cons_self, by rw [hf, z]⟩)
    have nF : a ∉ X.fs := fun hm => by
      obtain ⟨e, he, q⟩ := List.mem_filterMap.mp hm
      exact nfr (List.mem_filterMap.mpr ⟨e, List.mem_cons_of_mem _ he, q⟩)
    have nI : sI.heap.get? a = none := by
      cases q : sI.heap.get? a with
      | none => rfl
      | some o =>
        have z := nb a o q (by rw [hs]; exact nfr)
        rw [fl3.2.1] at z; cases z
    have n0 : X.s_0.heap.get? a = none := by
      cases q : X.s_0.heap.get? a with
      | none => rfl
      | some o =>
        obtain ⟨o', z⟩ := J.base.there a o q (by rw [hex]; exact fun z => nomatch z)
        rw [nI] at z; cases z
    have np : ∀ p ∈ X.pn ++ pins, p.1 ≠ a := fun p hm z => by
      have q := (J.pin p hm).1
      rw [z, nI] at q; cases q
    have S3 := J3.suite he3 hd3 na nL nF
    refine wpAny_handleBy_cons (codeAny_handlers_test ?_) (by intro q; cases q)
    have LT : PySem.W.Looks (model X.prog X.w) h3 (typeOf (.ref a)) cls := fun A Q E s k q => wpAny_typeOf_ref (k _ _ he3) (by rw [hz3.1]; exact q)
    refine hT a oe3 (X.pn ++ pins) σ' H' _ cls b _ _ S3 LT hb1 (fun h4 k4 => ?_)
    have fl4 := flying_push fl3 k4
    have up4 : s'.heap.UpToSlots h4 := up3.trans (Heap.UpToSlots.of_keeps k4)
    cases b with
    | true =>
      obtain ⟨C, rfl, hts⟩ := hyes rfl
      refine codeAny_handlers_suite_as (HandSPX.lands_againZ fl4 fun h5 fl5 up5 => ?_)
      have J5 : Inv X pins σ' H' { s' with heap := h5 } := J.landed nb fl5.1 ((up.trans up4).trans up5) os ag
      obtain ⟨oe5, vs5, he5, hz5, hd5⟩ := fl5.there
      have S5 := suite0 (track J5 he5 hd5 na n0 nL np (exk_ok he5 hz5 hd5)) a
      refine store_ok (X := X.suite a (X.pn ++ pins)) (v := .ref a) S5 hN hi (.inl hln) rfl (fun s6 S6 => ?_) (.inr hln)
      refine wpAny_mono ((hsu a (X.pn ++ pins)).run [] s6 _ _ _ S6 (hts a na)) (fun f s7 hsp => ?_) (fun _ _ z => False.elim z)
      have fin : ∀ {σ7 : L2.St} {H7 : Hp} {Q : Shared → Prop}, Inv (X.suite a (X.pn ++ pins)) [] σ7 H7 s7 → (∀ s8, Inv X pins (σ7.set i none) H7 s8 → Q s8) →
          wpAny (model X.prog X.w) X.A (do bindName X.env n .none; unbindBehindTheSuite X.env n pos') (fun _ s8 => Q s8) X.xe s7 := fun S7 hq => gone_ok (unsuite0 S7 ok) hN hi hln hq
      cases f with
      | next => obtain ⟨_, _, S7, q7⟩ := hsp; exact fin S7 fun s8 J8 => ⟨_, _, J8, q7⟩
      | brk => obtain ⟨_, _, S7, q7⟩ := hsp; exact fin S7 fun s8 J8 => ⟨_, _, J8, q7⟩
      | cont => obtain ⟨_, _, S7, q7⟩ := hsp; exact fin S7 fun s8 J8 => ⟨_, _, J8, q7⟩
      | ret u => obtain ⟨_, _, _, S7, r7, q7⟩ := hsp; exact fin S7 fun s8 J8 => ⟨_, _, _, J8, r7, q7⟩
    | false =>
      show wpAny _ X.A (handleBy (.ref a) X.env []) _ _ _
      refine wpAny_handleBy_nil ?_
      obtain ⟨g1, g2, g3, oe, vs, T, oT, tts, he, hz, hd, h1, hr⟩ := id fl4
      unfold PySem.passOn
      refine wpAny_bind (wpAny_field he hd h1 ?_)
      rw [if_neg (show ¬ ((Value.ref T == Value.none) = true) from by simp)]
      have up_ : wpAny (model X.prog X.w) X.A (setFlight (.ref a) X.env.frame) (fun _ s5 => wpAny (model X.prog X.w) X.A (throw (.ref a) : Sem Flow) (SP X pins D) X.xe s5) X.xe { s' with heap := h4 } := by
        rw [hf]
        refine HandSPX.setFlight_upZ fl4 fun h5 hh5 up5 => wpAny_throw (tk _ _ ?_)
        exact ⟨a, B, sI, pins, σ', H', cls, d, rfl, J, nb, (up.trans up4).trans up5, .inr (.inr (by rw [hs]; exact hh5)), na, os, ag, hno rfl⟩
      first
        | exact wpAny_bind (wpAny_pure (wpAny_bind up_))
        | exact wpAny_bind up_
  refine wpAny_Try_except (wpAny_mono go (fun f s1 hsp => ?_) fun e s1 he => he)
  cases f with
  | next => obtain ⟨_, _, J, q⟩ := hsp; exact wpAny_execs_nil ⟨_, _, J.ofTry ok, q⟩
  | brk => obtain ⟨_, _, J, q⟩ := hsp; exact ⟨_, _, J.ofTry ok, q⟩
  | cont => obtain ⟨_, _, J, q⟩ := hsp; exact ⟨_, _, J.ofTry ok, q⟩
  | ret u => obtain ⟨_, _, _, J, r, q⟩ := hsp; exact ⟨_, _, _, J.ofTry ok, r, q⟩
end
/-! isinstance and the field -/
section
variable {X : Cx}
theorem exk_inst {σ : L2.St} {H : Hp} {s : Shared} {pins : List (Addr × Obj)} (I : Inv X pins σ H s) {a C dd : Addr} {fs : List (Str × V)} (ha : H a = some (exk a C (some dd))) (hd : H dd = some (.xd fs)) :
    ∃ (oe od : Obj) (mA : Str → Option Value), PySem.W.InstAt s.heap a oe C (some od) ∧ s.heap.Ns1 dd mA ∧ (∀ f, RelO (fs.lookup f) (mA f)) ∧ ∀ n, PySem.W.lookIn n od = some (mA n) := by
  obtain ⟨oe, vs, he, hz, hf⟩ := exk_at I.hok ha
  obtain ⟨mA, hns, hr⟩ := (show ObjOk X.prog X.w H s.heap dd (.xd fs) from I.hok dd _ hd)
  obtain ⟨od, ho, hl⟩ := lookIn_ns hns
  exact ⟨oe, od, mA, ⟨he, hz.1, by unfold PySem.W.notCls; rw [hf] <;> rfl, by rw [hz.2]; exact ho⟩, hns, hr, hl⟩
/-- isinstance(error, c) -/
def rIsK (K : PySem.W.Frag) (nw : String) (mro : List Value) : List V → Hp → VK → Prop := fun xs H Q => ∃ (a C dd : Addr) (fs : List (Str × V)) (c : V) (u : Value) (b : Bool),
  xs = [.ref a, c] ∧ H a = some (exk a C (some dd)) ∧ H dd = some (.xd fs) ∧ ErrC K nw mro C ∧ ClsV c u ∧ PySem.W.kitOne K (.ref C) u = some b ∧ Q (.bl b) H
/-- isinstance(error, (c1, c2, ..)) -/
def rIsKs (K : PySem.W.Frag) (nw : String) (mro : List Value) : List V → Hp → VK → Prop := fun xs H Q => ∃ (a C dd tp : Addr) (fs : List (Str × V)) (cs : List V) (us : List Value) (b : Bool),
  xs = [.ref a, .ref tp] ∧ H a = some (exk a C (some dd)) ∧ H dd = some (.xd fs) ∧ ErrC K nw mro C ∧ H tp = some (.tup cs) ∧ Paired ClsV cs us ∧ PySem.W.kitAny K (.ref C) us = some b ∧ Q (.bl b) H
theorem err_cls {K : PySem.W.Frag} {nw : String} {mro : List Value} {C : Addr} (T : ErrC K nw mro C) : (PySem.W.clsIn K C).isSome = true := by
  obtain ⟨cd, h, _⟩ := PySem.W.any_some T.hd
  rw [h]; rfl
theorem call_isK {nw : String} {mro : List Value} : CallR X (.builtin "isinstance") (rIsK X.K nw mro) := by
  intro pins s σ H xs us Q I r h
  obtain ⟨a, C, dd, fs, c, u, b, rfl, ha, hd, T, k, e, q⟩ := h
  obtain ⟨u1, u2, rfl, r1, r2⟩ := vals2 r
  cases (show u1 = Value.ref a from r1)
  have e2 := k.eq r2
  subst e2
  obtain ⟨oe, od, mA, J, _⟩ := exk_inst I ha hd
  exact PySem.W.kia_one (PySem.W.kitx_exc (err_cls T) T.ga T.gg T.ex T.ca objC.gs objC.tk T.ob) I.kIn J e (fun z => nomatch z) fun tk => ⟨.bl b, H, I.tok tk, rfl, q⟩
theorem call_isKs {nw : String} {mro : List Value} : CallR X (.builtin "isinstance") (rIsKs X.K nw mro) := by
  intro pins s σ H xs us Q I r h
  obtain ⟨a, C, dd, tp, fs, cs, ws, b, rfl, ha, hd, T, ht, k, e, q⟩ := h
  obtain ⟨u1, u2, rfl, r1, r2⟩ := vals2 r
  cases (show u1 = Value.ref a from r1)
  cases (show u2 = Value.ref tp from r2)
  obtain ⟨oe, od, mA, J, _⟩ := exk_inst I ha hd
  obtain ⟨_, its, rv, o, h1, h2, n, h3⟩ := (show ObjOk X.prog X.w H s.heap tp (.tup cs) from I.hok tp _ ht)
  have e3 := ClsV.all k rv
  subst e3
  obtain ⟨oc, od2, dt, sl⟩ := o
  simp only at h2 h3
  subst h2 h3
  exact PySem.W.kia_tup (PySem.W.kitx_exc (err_cls T) T.ga T.gg T.ex T.ca objC.gs objC.tk T.ob) I.kIn J h1 e (fun z => nomatch z) fun tk => ⟨.bl b, H, I.tok tk, rfl, q⟩
/-- error.f -/
def tErrGet (K : PySem.W.Frag) (nw : String) (mro : List Value) (f : Str) (te : TE) : TE := fun σ H Q => te σ H fun x H1 => ∃ (a C dd : Addr) (fs : List (Str × V)) (v : V),
  x = .ref a ∧ H1 a = some (exk a C (some dd)) ∧ H1 dd = some (.xd fs) ∧ ErrC K nw mro C ∧ PySem.W.findIn K (.ref C) f = some none ∧ fs.lookup f = some v ∧ Q v H1
theorem pe_errGet {nw : String} {mro : List Value} {e : Expr} {te : TE} {pos : Pos} {n : Str} (he : PE X e te) (hb : attributeBase e n X.env (eval e X.env) = eval e X.env := by rfl) : PE X (.Attribute e n pos) (tErrGet X.K nw mro n te) := by
  refine ⟨fun pins s σ H Q I h => attr_of hb (thn (he.run pins s σ H _ I h) fun u s1 hh => ?_)⟩
  obtain ⟨x, H1, I1, rx, a, C, dd, fs, v, rfl, ha, hd, T, hno, l, q⟩ := hh
  obtain rfl : u = Value.ref a := rx
  obtain ⟨oe, od, mA, J, hns, hr, hl⟩ := exk_inst I1 ha hd
  obtain ⟨u, hu, ru⟩ := RelO.some_of (v := v) (o := mA n) (by rw [← l]; exact hr n)
  exact HandSPX.exc_get I1.kIn J T.ga T.gg T.ex (PySem.W.findObj_own T.hd hno rfl (by rw [hl, hu])) (handed_of ru) ⟨v, H1, I1.tok _, ru, q⟩
end
end Af
/-! ### an own error class as the top has written it -/
namespace Af
open PySem PySem.Spec PyProof.Rows L2
/-- an own error class x of one field f, with its __init__ -/
structure Er (K : PySem.W.Frag) (mg : Str → Option Value) (x q : Str) (st : Stmt) (f : Str) (nw : String) (mro : List Value) (C fI : Addr) (fd : FuncData) : Prop where
  T : ErrC K nw mro C
  iC : PySem.W.findIn K (.ref C) "__init__" = some (some (.ref fI))
  tI : PySem.W.typeIn K (.ref fI) = some (.type "function")
  nf : PySem.W.findIn K (.ref C) f = some none
  F : Fun K "__init__" q st fI fd
  b : Binds K fd ["self", f] []
  g : mg x = some (.ref C)
  ss : PySem.W.subIn K (.ref C) (.ref C) = some true
/-- a class that is named in a clause -/
structure Nm (K : PySem.W.Frag) (mg : Str → Option Value) (x : Str) (C : Addr) : Prop where
  ex : PySem.W.subIn K (.ref C) (.type "BaseException") = some true
  ty : PySem.W.typeIn K (.ref C) = some (.type "type")
  hd : PySem.W.hasDictIn K C = true
  g : mg x = some (.ref C)
theorem Er.nm {K : PySem.W.Frag} {mg : Str → Option Value} {x q : Str} {st : Stmt} {f : Str} {nw : String} {mro : List Value} {C fI : Addr} {fd : FuncData} (R : Er K mg x q st f nw mro C fI fd) : Nm K mg x C := ⟨R.T.ex, R.T.ty, R.T.hd, R.g⟩
theorem nm_exm {K : PySem.W.Frag} {mg : Str → Option Value} {x : Str} {C D : Addr} {b : Bool} (n : Nm K mg x D) (h : PySem.W.subIn K (.ref C) (.ref D) = some b) : PySem.W.exmOne K (.ref C) (.ref D) = some b := by
  obtain ⟨cd, hc, _⟩ := PySem.W.any_some n.hd
  unfold PySem.W.exmOne PySem.W.kitCls
  rw [if_pos (by rw [n.ex]; rfl)]
  show (if ((PySem.W.clsIn K D).isSome && PySem.W.typeIn K (.ref D) == some (.type "type")) = true then PySem.W.subIn K (.ref C) (.ref D) else none) = some b
  rw [if_pos (by rw [hc, n.ty]; rfl)]
  exact h
theorem nm_kit {K : PySem.W.Frag} {mg : Str → Option Value} {x : Str} {C D : Addr} {b : Bool} (n : Nm K mg x D) (h : PySem.W.subIn K (.ref C) (.ref D) = some b) (e : C = D → b = true) : PySem.W.kitOne K (.ref C) (.ref D) = some b := by
  obtain ⟨cd, hc, _⟩ := PySem.W.any_some n.hd
  unfold PySem.W.kitOne PySem.W.kitCls
  by_cases z : C = D
  · subst z
    rw [if_pos (by simp), e rfl]
  · rw [if_neg (by simpa using z)]
    show (if ((PySem.W.clsIn K D).isSome && PySem.W.typeIn K (.ref D) == some (.type "type")) = true then PySem.W.subIn K (.ref C) (.ref D) else none) = some b
    rw [if_pos (by rw [hc, n.ty]; rfl)]
    exact h
theorem ty_kit {K : PySem.W.Frag} {C : Addr} {T : String} {b : Bool} (m : PySem.W.kitMeta T = true) (h : PySem.W.subIn K (.ref C) (.type T) = some b) : PySem.W.kitOne K (.ref C) (.type T) = some b := by
  unfold PySem.W.kitOne PySem.W.kitCls
  rw [if_neg (by simp)]
  show (if PySem.W.kitMeta T = true then PySem.W.subIn K (.ref C) (.type T) else none) = some b
  rw [if_pos m]; exact h
theorem kit_no {K : PySem.W.Frag} {mg : Str → Option Value} {x : Str} {C D : Addr} (n : Nm K mg x D) (ss : PySem.W.subIn K (.ref C) (.ref C) = some true) (h : PySem.W.subIn K (.ref C) (.ref D) = some false) : PySem.W.kitOne K (.ref C) (.ref D) = some false :=
  nm_kit n h fun e => by subst e; rw [h] at ss; cases ss
theorem kit_self {K : PySem.W.Frag} {C : Addr} : PySem.W.kitOne K (.ref C) (.ref C) = some true := by
  unfold PySem.W.kitOne; rw [if_pos (by simp)]
theorem kitAny1 {K : PySem.W.Frag} {t c : Value} (h1 : PySem.W.kitOne K t c = some false) : PySem.W.kitAny K t [c] = some false := by simp [PySem.W.kitAny, h1]
theorem kitAny2 {K : PySem.W.Frag} {t c d : Value} (h1 : PySem.W.kitOne K t c = some false) (h2 : PySem.W.kitOne K t d = some false) : PySem.W.kitAny K t [c, d] = some false := by simp [PySem.W.kitAny, h1, h2]
theorem kitAny3 {K : PySem.W.Frag} {t c d e : Value} (h1 : PySem.W.kitOne K t c = some false) (h2 : PySem.W.kitOne K t d = some false) (h3 : PySem.W.kitOne K t e = some false) : PySem.W.kitAny K t [c, d, e] = some false := by simp [PySem.W.kitAny, h1, h2, h3]
theorem kitAny4 {K : PySem.W.Frag} {t c d e g : Value} (h1 : PySem.W.kitOne K t c = some false) (h2 : PySem.W.kitOne K t d = some false) (h3 : PySem.W.kitOne K t e = some false) (h4 : PySem.W.kitOne K t g = some false) : PySem.W.kitAny K t [c, d, e, g] = some false := by simp [PySem.W.kitAny, h1, h2, h3, h4]
theorem bVE : bootBuiltins "ValueError" = some (.type "ValueError") := by decide +kernel
theorem bLE : bootBuiltins "LookupError" = some (.type "LookupError") := by decide +kernel
theorem bOE : bootBuiltins "OverflowError" = some (.type "OverflowError") := by decide +kernel
theorem bIE : bootBuiltins "IndexError" = some (.type "IndexError") := by decide +kernel
theorem bKE : bootBuiltins "KeyError" = some (.type "KeyError") := by decide +kernel
theorem exmAny2 {K : PySem.W.Frag} {t c d : Value} {a b : Bool} (h1 : PySem.W.exmOne K t c = some a) (h2 : PySem.W.exmOne K t d = some b) : PySem.W.exmAny K t [c, d] = some (a || (b || false)) := by
  simp [PySem.W.exmAny, h1, h2]
theorem exmAny1 {K : PySem.W.Frag} {t c : Value} {a : Bool} (h1 : PySem.W.exmOne K t c = some a) : PySem.W.exmAny K t [c] = some (a || false) := by
  simp [PySem.W.exmAny, h1]
theorem exmAny3 {K : PySem.W.Frag} {t c d e : Value} {x y z : Bool} (h1 : PySem.W.exmOne K t c = some x) (h2 : PySem.W.exmOne K t d = some y) (h3 : PySem.W.exmOne K t e = some z) : PySem.W.exmAny K t [c, d, e] = some (x || (y || (z || false))) := by
  simp [PySem.W.exmAny, h1, h2, h3]
theorem exmAny4 {K : PySem.W.Frag} {t c d e g : Value} {x y z u : Bool} (h1 : PySem.W.exmOne K t c = some x) (h2 : PySem.W.exmOne K t d = some y) (h3 : PySem.W.exmOne K t e = some z) (h4 : PySem.W.exmOne K t g = some u) : PySem.W.exmAny K t [c, d, e, g] = some (x || (y || (z || (u || false)))) := by
  simp [PySem.W.exmAny, h1, h2, h3, h4]
section
variable {X : Cx} {k : Nat} {fI C : Addr} {fd : FuncData} {x q f b : Str} {B nw ini : String} {mro : List Value} {st : Stmt} {W : WX} {e : Expr} {ta : TA} {p pos pos2 : Pos}
theorem ps_raiseE (Y : BaseE b B nw ini mro) (R : Er X.K X.mg x q st f nw mro C fI fd) (G : FnOk X.prog X.w X.K X.mg X.base CX0 k fI fd ["self", f] (spErrInit C f)) (hc : X.calm = true) (tk : Takes X W) (hr : Room (k + 1) X.A) (hg : Gl X x) (ha : PA X [e] ta)
    (hdb : (x == ("__debug__" : Str)) = false := by decide) (he : starEach [e] X.env = (false, eval e X.env) :: starEach [] X.env := by rfl) (hp : (backTo pos (starEach [] X.env)).any (·.1) = false := by rfl) :
    PS X (.Raise (some (.Call (.Name x p) [e] [] pos)) none pos2) (tRaiseErr C f W ta) :=
  ps_raise hc tk (pmk_err Y R.T R.iC R.tI G hr R.b hg R.g ha hdb he hp)
end
end Af
/-! ### one face turned about: which signs change; two states in different rounds -/
namespace Af
open PySem PySem.Spec PyProof.Rows L2
/-- the first place at which two lists of signs differ -/
structure FirstNe (as bs : List Int) (i : Nat) : Prop where
  lt : i < as.length
  same : ∀ j, j < i → as[j]? = bs[j]?
  ne : as[i]? ≠ bs[i]?
theorem firstNe_of {as bs : List Int} (hl : as.length = bs.length) (h : as ≠ bs) : ∃ i, FirstNe as bs i := by
  have ex : ∃ i, i < as.length ∧ as[i]? ≠ bs[i]? := Classical.byContradiction fun c => h (List.ext_getElem? fun i => by
    by_cases z : i < as.length
    · exact Classical.byContradiction fun y => c ⟨i, z, y⟩
    · rw [List.getElem?_eq_none (by omega), List.getElem?_eq_none (by omega)])
  let rec find (n : Nat) : ∀ i, i ≤ n → (i < as.length ∧ as[i]? ≠ bs[i]?) → ∃ k, FirstNe as bs k := fun i hi hn => by
    by_cases c : ∃ j, j < i ∧ as[j]? ≠ bs[j]?
    · obtain ⟨j, hj, e⟩ := c
      cases n with
      | zero => omega
      | succ n => exact find n j (by omega) ⟨by omega, e⟩
    · exact ⟨i, hn.1, fun j hj => Classical.byContradiction fun y => c ⟨j, hj, y⟩, hn.2⟩
  obtain ⟨i, hi⟩ := ex
  exact find i i (Nat.le_refl _) hi
theorem flip_minus (c f : Int) : flip c (-f) = -flip c f := by unfold flip; split <;> omega
section
variable {B : List (List Int)} {hi : Int} {S T : List Int × List Int} {w : Nat}
theorem signs_len (h : Ok B S) : (signsM B S).length = B.length - 1 := sg_len _ _ _
theorem signs_other (G : GoodB B hi) (h : Ok B S) (h' : Ok B T) (h1 : 1 ≤ w) (hw : w < B.length) (hp : parS w T = parS w S) {f : Int} (ef : S.2[w]? = some f) (eg : T.2[w]? = some (-f)) :
    (signsM B T).take (w - 1) = (signsM B S).take (w - 1) ∧ ∃ x, (signsM B S)[w - 1]? = some x ∧ (signsM B T)[w - 1]? = some (-x) ∧ (x = 1 ∨ x = -1) := by
  refine ⟨by rw [← signs_par h1 (by omega), ← signs_par h1 (by omega), hp], ?_⟩
  have hl : (B.take (w + 1)).length = w + 1 := by rw [List.length_take]; omega
  have G1 : GoodB (B.take (w + 1)) hi := good_take G (by omega)
  have tt : (B.take (w + 1)).take w = B.take w := by rw [List.take_take, Nat.min_eq_left (by omega)]
  have pp : ∀ U : List Int × List Int, parS w (parS (w + 1) U) = parS w U := fun U => by
    unfold parS
    rw [List.take_take, List.take_take, Nat.min_eq_left (by omega)]
  have at_ : ∀ {U : List Int × List Int} {g : Int}, Ok B U → U.2[w]? = some g → (signsM B U)[w - 1]? = some (flip (clockM (B.take w) (parS w U)) g) := fun {U g} hU e => by
    have z := face_sign (S := parS (w + 1) U) G1 hl h1 (hU.par (by omega)) (f := g) (by unfold parS; show (U.2.take (w + 1))[w]? = _; rw [List.getElem?_take_of_lt (by omega)]; exact e)
    rw [signs_par (by omega) (by omega), Nat.add_sub_cancel, List.getElem?_take_of_lt (by omega), tt, pp] at z
    exact z
  refine ⟨_, at_ h ef, ?_, ?_⟩
  · rw [at_ h' eg, hp, flip_minus]
  · refine flip_ok ?_
    exact h.fo f (List.mem_of_getElem? ef)
theorem first_other (G : GoodB B hi) (h : Ok B S) (h' : Ok B T) (h1 : 1 ≤ w) (hw : w < B.length) (hp : parS w T = parS w S) {f : Int} (ef : S.2[w]? = some f) (eg : T.2[w]? = some (-f)) : FirstNe (signsM B S) (signsM B T) (w - 1) := by
  obtain ⟨t, x, e1, e2, hx⟩ := signs_other G h h' h1 hw hp ef eg
  refine ⟨by rw [signs_len h]; omega, fun j hj => ?_, ?_⟩
  · rw [← List.getElem?_take_of_lt hj, ← t, List.getElem?_take_of_lt hj]
  · rw [e1, e2]
    intro z
    have := Option.some.inj z
    omega
/-- one face turned about -/
def flipAt (F : List Int) (w : Nat) (f : Int) : List Int := F.take w ++ [0 - f] ++ F.drop (w + 1)
theorem flipAt_len {F : List Int} {f : Int} (hw : w < F.length) : (flipAt F w f).length = F.length := by
  unfold flipAt; rw [List.length_append, List.length_append, List.length_take, List.length_drop, List.length_singleton]; omega
theorem flipAt_ok {F : List Int} {f : Int} (hF : FacesOk F) (ef : F[w]? = some f) : FacesOk (flipAt F w f) := fun x hx => by
  unfold flipAt at hx
  have hf := hF f (List.mem_of_getElem? ef)
  rcases List.mem_append.mp hx with hx | hx
  · rcases List.mem_append.mp hx with hx | hx
    · exact hF x (List.mem_of_mem_take hx)
    · obtain rfl := List.mem_singleton.mp hx
      omega
  · exact hF x (List.mem_of_mem_drop hx)
theorem flipAt_get {F : List Int} {f : Int} (hw : w < F.length) : (flipAt F w f)[w]? = some (-f) := by
  unfold flipAt
  rw [List.append_assoc, List.getElem?_append_right (by rw [List.length_take]; omega), List.length_take, Nat.min_eq_left (by omega), Nat.sub_self]
  show some (0 - f) = _
  rw [Int.zero_sub]
theorem flipAt_take {F : List Int} {f : Int} (hw : w < F.length) : (flipAt F w f).take w = F.take w := by
  unfold flipAt
  rw [List.append_assoc]
  exact List.take_left' (by rw [List.length_take]; omega)
theorem flip_state {R F : List Int} {f : Int} (h : Ok B (R, F)) (hw : w < B.length) (ef : F[w]? = some f) : Ok B (R, flipAt F w f) ∧ parS w (R, flipAt F w f) = parS w (R, F) ∧ (R, flipAt F w f).2[w]? = some (-f) := by
  have hl : w < F.length := (List.getElem?_eq_some_iff.mp ef).1
  exact ⟨⟨h.st, (flipAt_len hl).trans h.fl, flipAt_ok h.fo ef⟩, by unfold parS; rw [flipAt_take hl], flipAt_get hl⟩
theorem sign_at (G : GoodB B hi) (h : Ok B S) (h1 : 1 ≤ w) (hw : w < B.length) {g : Int} (e : S.2[w]? = some g) : (signsM B S)[w - 1]? = some (flip (clockM (B.take w) (parS w S)) g) := by
  have hl : (B.take (w + 1)).length = w + 1 := by rw [List.length_take]; omega
  have z := face_sign (S := parS (w + 1) S) (good_take G (k := w + 1) (by omega)) hl h1 (h.par (by omega)) (f := g) (by unfold parS; show (S.2.take (w + 1))[w]? = _; rw [List.getElem?_take_of_lt (by omega)]; exact e)
  have tt : (B.take (w + 1)).take w = B.take w := by rw [List.take_take, Nat.min_eq_left (by omega)]
  have pp : parS w (parS (w + 1) S) = parS w S := by
    unfold parS
    rw [List.take_take, List.take_take, Nat.min_eq_left (by omega)]
  rw [signs_par (by omega) (by omega), Nat.add_sub_cancel, List.getElem?_take_of_lt (by omega), tt, pp] at z
  exact z
theorem signs_eldest (G : GoodB B hi) (h : Ok B S) (h' : Ok B T) (hl : 1 ≤ B.length) (hr : T.1 = S.1) {f : Int} (e0 : S.2[0]? = some f) (e0' : T.2[0]? = some (-f)) (e1 : T.2[1]? = S.2[1]?) : (signsM B T).take 1 = negL ((signsM B S).take 1) := by
  have l1 := signs_len h
  have l2 := signs_len h'
  by_cases z : B.length = 1
  · rw [List.eq_nil_of_length_eq_zero (l := signsM B T) (by omega), List.eq_nil_of_length_eq_zero (l := signsM B S) (by omega)]; rfl
  · have hS := h.fl
    have ef : S.2[1]? = some (S.2[1]?.getD 0) := by rw [List.getElem?_eq_getElem (by omega)]; rfl
    have a := sign_at G h (w := 1) (Nat.le_refl _) (by omega) ef
    have b := sign_at G h' (w := 1) (Nat.le_refl _) (by omega) (e1.trans ef)
    have hp : parS 1 T = negS (parS 1 S) := by
      unfold parS negS negL
      rw [hr]
      cases u : S.2 with
      | nil => rw [u] at e0; cases e0
      | cons x xs =>
        cases v : T.2 with
        | nil => rw [v] at e0'; cases e0'
        | cons y ys =>
          rw [u] at e0; rw [v] at e0'
          have q1 := Option.some.inj e0
          have q2 := Option.some.inj e0'
          subst q1 q2
          rfl
    have hN : ∀ c N : Int, flip (2 * N - 1 - c) (S.2[1]?.getD 0) = -flip c (S.2[1]?.getD 0) := fun c N => by
      unfold flip
      by_cases y : c % 2 = 1
      · rw [if_pos y, if_neg (by omega)]; omega
      · rw [if_neg y, if_pos (by omega)]
    rw [hp, clock_neg (good_take G (Nat.le_refl 1)) (h.par hl), hN] at b
    have g0 : ∀ {A : List Int} {x : Int}, A[1 - 1]? = some x → A.take 1 = [x] := fun {A x} e => by
      cases A with
      | nil => cases e
      | cons y ys => have := Option.some.inj e; subst this; rfl
    rw [g0 a, g0 b]; rfl
end
end Af
/-! ### isinstance of None or a kept error; a value in a list of data; at which places signs differ -/
namespace Af
open PySem PySem.Spec PyProof.Rows L2
theorem none_kit {K : PySem.W.Frag} {mg : Str → Option Value} {x : Str} {D : Addr} (n : Nm K mg x D) : PySem.W.kitOne K (.type "NoneType") (.ref D) = some false := by
  obtain ⟨cd, hc, _⟩ := PySem.W.any_some n.hd
  unfold PySem.W.kitOne PySem.W.kitCls
  rw [if_neg (by simp)]
  show (if ((PySem.W.clsIn K D).isSome && PySem.W.typeIn K (.ref D) == some (.type "type")) = true then PySem.W.subIn K (.type "NoneType") (.ref D) else none) = some false
  rw [if_pos (by rw [hc, n.ty]; rfl)]
  have e : PySem.fastBuiltinMro "NoneType" = some [.type "NoneType", .type "object"] := by decide +kernel
  show (PySem.fastBuiltinMro "NoneType").map _ = _
  rw [e]
  have d : ∀ T : String, (Value.ref D == Value.type T) = false := fun T => by simp
  simp only [Option.map, List.contains, List.elem, d]
section
variable {X : Cx}
/-- isinstance(None or an error, c) -/
def rIsN (K : PySem.W.Frag) (nw : String) (mro : List Value) : List V → Hp → VK → Prop := fun xs H Q =>
  (∃ (c : V) (u : Value) (b : Bool), xs = [.non, c] ∧ ClsV c u ∧ PySem.W.kitOne K (.type "NoneType") u = some b ∧ Q (.bl b) H) ∨ rIsK K nw mro xs H Q
theorem call_isN {nw : String} {mro : List Value} : CallR X (.builtin "isinstance") (rIsN X.K nw mro) := by
  intro pins s σ H xs us Q I r h
  rcases h with ⟨c, u, b, rfl, k, e, q⟩ | h
  · obtain ⟨u1, u2, rfl, r1, r2⟩ := vals2 r
    cases (show u1 = Value.none from r1)
    have e2 := k.eq r2
    subst e2
    exact PySem.W.kia_one PySem.W.kitx_none I.kIn trivial e (fun z => nomatch z) fun tk => ⟨.bl b, H, I.tok tk, rfl, q⟩
  · exact call_isK pins s σ H xs us Q I r h
/-- x in a list of data -/
def rInL (K : PySem.W.Frag) : R2 := fun x y H Q => ∃ e es, Dp K H x e ∧ Dp K H y (.list es) ∧ SeqAt.shaped e = true ∧ PyData.canLayAll0 es = true ∧ Q (.bl (es.any fun z => PyData.eqv z e)) H
theorem op_inL (hu : X.A.units + 65 < cLine) : OpR X (compareOp .In) (rInL X.K) := by
  rintro pins s σ H x y v u Q I rx ry ⟨e, es, he, hes, se, ses, q⟩
  obtain ⟨p1, r1⟩ := Dp.reads I e x v he rx
  obtain ⟨p2, r2⟩ := Dp.reads I (.list es) y u hes ry
  exact SeqAt.in_list_reads r2 r1 ses (SeqAt.canLay_of_shaped se) (room_in_shaped se hu) ⟨.bl _, H, I, rfl, q⟩
end
theorem lap_mem {B : List (List Int)} {hi : Int} {S T : List Int × List Int} {m : Nat} (G : GoodB B hi) (h : Ok B S) (h' : Ok B T) (hm : 2 * manyN B = (m : Int) + 1) : T ∈ alongL B m S ↔ signsM B T = signsM B S := by
  constructor
  · intro z
    obtain ⟨j, hj, e⟩ := List.mem_iff_getElem.mp z
    rw [alongL_len] at hj
    have := along_get B S m j (by omega)
    rw [List.getElem?_eq_getElem (by rw [alongL_len]; omega), e] at this
    rw [Option.some.inj this, signs_it G h]
  · intro z
    have r := clock_rg G h
    have r' := clock_rg G h'
    have e := after_int G h h' (c := clockM B T - clockM B S) (by rw [show clockM B S + (clockM B T - clockM B S) = clockM B T by omega, Int.emod_eq_of_lt r'.1 r'.2]) z
    have m1 := Int.emod_nonneg (clockM B T - clockM B S) (show 2 * manyN B ≠ 0 by omega)
    have m2 := Int.emod_lt_of_pos (clockM B T - clockM B S) (show 0 < 2 * manyN B by omega)
    rw [e]
    exact List.mem_of_getElem? (along_get B S m _ (by omega))
/-- the climbers at which two lists of signs differ -/
def unl (A A' : List Int) (n : Nat) : List Int := ((List.range n).filter fun j => decide (A[j]? ≠ A'[j]?)).map fun (j : Nat) => (j : Int) + 1
theorem unl_succ (A A' : List Int) (n : Nat) : unl A A' (n + 1) = unl A A' n ++ (if decide (A[n]? ≠ A'[n]?) = true then [(n : Int) + 1] else []) := by
  unfold unl
  rw [List.range_succ, List.filter_append, List.map_append]
  congr 1
  by_cases h : decide (A[n]? ≠ A'[n]?) = true
  · rw [if_pos h]; simp only [List.filter_cons, h, if_true, List.filter_nil]; rfl
  · rw [if_neg h]; simp only [List.filter_cons, h, Bool.false_eq_true, if_false, List.filter_nil]; rfl
theorem unl_len (A A' : List Int) (n : Nat) : (unl A A' n).length ≤ n := by
  unfold unl; rw [List.length_map]; exact Nat.le_trans (List.length_filter_le _ _) (by rw [List.length_range]; exact Nat.le_refl _)
theorem unl_same (A : List Int) : ∀ n, unl A A n = []
  | 0 => rfl
  | n + 1 => by rw [unl_succ, unl_same A n, if_neg (by simp)]; rfl
theorem unl_ne {A A' : List Int} {i : Nat} (h : FirstNe A A' i) : ∀ n, (n ≤ i → unl A A' n = []) ∧ (i < n → ∃ r, unl A A' n = ((i : Int) + 1) :: r)
  | 0 => ⟨fun _ => rfl, fun z => absurd z (Nat.not_lt_zero _)⟩
  | n + 1 => by
    obtain ⟨a, b⟩ := unl_ne h n
    refine ⟨fun z => ?_, fun z => ?_⟩
    · rw [unl_succ, a (by omega), if_neg (by simp [h.same n (by omega)])]; rfl
    · by_cases c : i < n
      · obtain ⟨r, e⟩ := b c
        rw [unl_succ, e]
        exact ⟨_, rfl⟩
      · obtain rfl : i = n := by omega
        rw [unl_succ, a (Nat.le_refl _), if_pos (by simp [h.ne])]
        exact ⟨_, rfl⟩
end Af
set_option maxHeartbeats 4000000
/-! ### sorted of a dict whose keys are tuples of ints -/
namespace Srt
open PySem PySem.Spec PyProof.Rows L2 PySem.W Af
/-- a tuple of ints as a key -/
def kyT (ns : List Int) : List Key := ns.map Sum.inl
theorem kyT_v (ns : List Int) : (kyT ns).map kV = ns.map V.int := by unfold kyT; rw [List.map_map]; rfl
theorem keys_data {K : PySem.W.Frag} {H : Hp} : ∀ {kvs : List (List Key × V)} {bs : List Addr} {ks : List (List Int)}, IsKeys H kvs bs → kvs.map Prod.fst = ks.map kyT → DpAll K H (bs.map V.ref) (ks.map rowT)
  | [], _, [], h, _ => by cases h; exact .nil
  | [], _, _ :: _, _, e => by cases e
  | _ :: _, _, [], _, e => by cases e
  | p :: kvs, _, k :: ks, h, e => by
    unfold IsKeys at h
    cases h with
    | cons h1 h2 =>
      obtain ⟨e1, e2⟩ := List.cons.inj e
      rw [e1, kyT_v] at h1
      exact .cons (dp_rowT (.inl (.inl h1))) (keys_data h2 e2)
/-- list.sort on a list of data: sorted for good, also where there is at most one item -/
theorem sort_core {prog : Program} {w : World} {A : Around} {E : Value → Shared → Prop} {s : Shared} {a : Addr} {vs : List Value} {n : Nat} {P : PySem.Fin → Shared → Prop} (zs : List (V × PyData)) (ho : s.heap.get? a = some (seqObj "list" vs.toArray n))
    (e1 : EachIs (fun u (b : V × PyData) => RelV b.1 u ∧ ∃ as, Reads (sortingHeap s.heap a vs) u b.2 as) vs zs) (hL : vs.length ≤ sizeLine) (hal : AllAlike (zs.map Prod.snd)) (hso : PySem.W.Sortable (zs.map Prod.snd) ∨ zs.length ≤ 1)
    (hun : ∀ d, d ∈ zs.map Prod.snd → A.units + d.depth < cLine)
    (h : ∀ out : List Value, Vals ((zs.mergeSort pLe).map Prod.fst) out → P (.done (.ret .none)) { s with heap := PyProof.Rows.sortedHeap s.heap a vs out.toArray }) :
    wpAny (model prog w) A (Builtin.«list.sort» ⟨[.ref a], []⟩) P E s := by
  have hv0 := each_vals e1
  have lv : zs.length = vs.length := by
    have := hv0.length
    rw [List.length_map] at this
    exact this
  have ezz : (zs.map Prod.fst).zip (zs.map Prod.snd) = zs := by
    induction zs with
    | nil => rfl
    | cons z zs ih => simp [List.zip_map', List.map_id']
  rcases hso with hso | h1
  · have e2 : EachIs (fun u (b : V × PyData) => RelV b.1 u ∧ ∃ as, Reads (sortingHeap s.heap a vs) u b.2 as) vs ((zs.map Prod.fst).zip (zs.map Prod.snd)) := by rw [ezz]; exact e1
    have S := SortsAt.data (prog := prog) (w := w) (A := A) (s := { s with heap := sortingHeap s.heap a vs }) (each_data (by rw [List.length_map, List.length_map]) e2) hal hso hun
    refine list_sort_vals ho S hL (h _ ?_)
    have ev := sortVals_each (κ := dataKind (sortingHeap s.heap a vs) (zs.map Prod.snd)) (rev := false) (ks := vs) (fun b : V × PyData => keyToks b.2) e1 (each_keys hal (fun b hb => List.mem_map.mpr ⟨b, hb, rfl⟩) e1)
    exact each_vals ev
  · refine Srt.list_sort_any ho hL (fun h2 => absurd h2 (by omega)) fun out pm => h out ?_
    have em : zs.mergeSort pLe = zs := by
      match zs, h1 with
      | [], _ => simp [List.mergeSort]
      | [z], _ => simp [List.mergeSort]
    rw [em]
    have eo : out = vs := by
      match vs, out, pm, (show vs.length ≤ 1 by omega) with
      | [], _, pm, _ => exact pm.eq_nil
      | [v], _, pm, _ => exact List.perm_singleton.mp pm
    rw [eo]
    exact hv0
def rSortK (K : PySem.W.Frag) : List V → Hp → VK → Prop := fun vs H Q => ∃ (a : Addr) (kvs : List (List Key × V)) (ks : List (List Int)), vs = [.ref a] ∧ Rd H a (.dT kvs) ∧ kvs.map Prod.fst = ks.map kyT ∧ AllAlike (ks.map rowT) ∧ (PySem.W.Sortable (ks.map rowT) ∨ ks.length ≤ 1) ∧
  ∀ (p : Addr) (bs : List Addr), H p = none → IsKeys H kvs bs → DpAll K H (bs.map V.ref) (ks.map rowT) → Q (.ref p) (upd H p (.lst ((((bs.map V.ref).zip (ks.map rowT)).mergeSort pLe).map Prod.fst)))
theorem cr_sortK {X : Cx} {K : PySem.W.Frag} (hc : X.calm = true) (hu : X.A.units + 64 < cLine) (hK : X.K = K := by rfl) : CallR X (.builtin "sorted") (rSortK K) := by
  intro pins s σ H vs us Q I r h
  obtain ⟨d, kvs, ks, rfl, hd, hks, hal, hso, q⟩ := h
  rw [Vals.ref1 r]
  obtain ⟨z, hs, ks', pr, o, es, ep, ho, hx, hdt, he, hn⟩ := (show ObjOk X.prog X.w H s.heap d (.dT kvs) from hd.ok I.hok)
  have l1 : es.size = ks'.length := size_of_entries he
  have l2 : kvs.length = ks'.length := Paired.length pr
  have hne : es.size ≤ sizeLine := by omega
  have hbs := isKeys_of pr
  obtain ⟨bs, ebs⟩ : ∃ bs : List Addr, bs = ks'.map fun x => x.2.1 := ⟨_, rfl⟩
  rw [← ebs] at hbs
  have hdk : DpAll K H (bs.map V.ref) (ks.map rowT) := keys_data hbs hks
  refine call_function_entry_kw kind_sorted plain_sorted entry_sorted (args_sorted1 _) ?_
  unfold Builtin.«sorted»
  refine wpAny_bind (m := checkCount "sorted" 1 1 _) (wpAny_pure ?_)
  refine wpAny_bind (PySem.W.kdu_collect (A := X.A.in1) (kdl_raw hs hx hdt) (I.ok.hd hc) ho hne fun h' tk acc hk it => ?_)
  have ea : acc.toList = bs.map Value.ref := by
    rw [ebs, List.map_map]
    have hl : acc.toList.length = ks'.length := by rw [Array.length_toList, it.1]; exact l1
    apply List.ext_getElem?
    intro j
    rw [List.getElem?_map]
    cases hj : acc.toList[j]? with
    | none =>
      have h1 := List.getElem?_eq_none_iff.mp hj
      rw [List.getElem?_eq_none (by omega)]
      all_goals rfl
    | some v =>
      obtain ⟨en, hen, hv⟩ := it.2 j v (by rw [← Array.getElem?_toList]; exact hj)
      have qe := entry_at he j
      rw [hen] at qe
      cases hb : ks'[j]? with
      | none =>
        rw [hb] at qe
        exact nomatch (show some en = none from qe)
      | some b =>
        rw [hb] at qe
        have e2 : en = entryOfKey (tupleKind (mixKind X.prog X.w)) b := Option.some.inj qe
        rw [hv, e2]
        all_goals rfl
  rw [ea]
  have lb : (bs.map Value.ref).length ≤ sizeLine := by rw [List.length_map, ebs, List.length_map]; omega
  refine wpAny_bind (wpAny_newList ?_ lb)
  obtain ⟨vs, evs⟩ : ∃ vs : List Value, vs = bs.map Value.ref := ⟨_, rfl⟩
  have rv : Vals (bs.map V.ref) vs := by rw [evs]; exact vals_refs bs
  rw [← evs] at lb ⊢
  have hat : (h'.push (seqObj "list" vs.toArray 0)).get? h'.objs.size = some (seqObj "list" vs.toArray 0) := Heap.get?_push_size _ rfl
  have hold : ∀ b o, s.heap.get? b = some o → (sortingHeap (h'.push (seqObj "list" vs.toArray 0)) h'.objs.size vs).get? b = some o := fun b o e => by
    have e' := hk b o e
    exact sortingHeap_old (Nat.ne_of_lt (Heap.lt_size e')) (Heap.get?_push_of_some _ e')
  have e0 := eachR hK I rv hdk
  have e1 : EachIs (fun u (b : V × PyData) => RelV b.1 u ∧ ∃ as, Reads (sortingHeap (h'.push (seqObj "list" vs.toArray 0)) h'.objs.size vs) u b.2 as) vs ((bs.map V.ref).zip (ks.map rowT)) := e0.mono fun u b z => ⟨z.1, z.2.elim fun as y => ⟨as, PyProof.Rows.Reads.keeps hold y⟩⟩
  have lx : (bs.map V.ref).length = (ks.map rowT).length := dps_len hdk
  have hun : ∀ d, d ∈ ks.map rowT → (X.A.in1.in1).units + d.depth < cLine := fun d hm => by
    obtain ⟨r, _, rfl⟩ := List.mem_map.mp hm
    have h1 := depth_row r
    have h2 : X.A.in1.in1.units = X.A.units + 2 := rfl
    omega
  show wpAny _ _ _ _ _ { s with heap := h'.push (seqObj "list" vs.toArray 0), toks := tk }
  have esnd : ((bs.map V.ref).zip (ks.map rowT)).map Prod.snd = ks.map rowT := List.map_snd_zip (by omega)
  refine wpAny_bind (wpAny_holding (wpAny_call_entry_kw slot_list_sort ⟨_, hat, rfl⟩ entry_list_sort ?body (args_list_sort _)))
  case body =>
    refine sort_core (s := { s with heap := h'.push (seqObj "list" vs.toArray 0), toks := tk }) ((bs.map V.ref).zip (ks.map rowT)) hat e1 lb (by rw [esnd]; exact hal) (hso.elim (fun z => .inl (by rw [esnd]; exact z)) fun z => .inr (by have e9 := List.length_map (as := ks) rowT; rw [List.length_zip]; omega)) (by rw [esnd]; exact hun) fun out hv => ?_
    refine ⟨_, rfl, wpAny_pure ⟨_, rfl, ?_⟩⟩
    obtain ⟨ep2, he'⟩ := PyProof.Rows.sortedHeap_at (out := out.toArray) hat
    have hlen : ((((bs.map V.ref).zip (ks.map rowT)).mergeSort pLe).map Prod.fst).length ≤ sizeLine := by
      rw [List.length_map, List.length_mergeSort, List.length_zip]
      exact Nat.le_trans (Nat.min_le_left _ _) (by rw [rv.length]; exact lb)
    have keep2 : ∀ b o, s.heap.get? b = some o → (PyProof.Rows.sortedHeap (h'.push (seqObj "list" vs.toArray 0)) h'.objs.size vs out.toArray).get? b = some o := fun b o e => by
      have e' := hk b o e
      have lt' := Heap.lt_size e'
      rw [PyProof.Rows.sortedHeap_old (Nat.ne_of_lt lt') (by rw [size_push']; exact Nat.lt_succ_of_lt lt')]
      exact Heap.get?_push_of_some _ e'
    have hp0 : s.heap.get? h'.objs.size = none := by
      cases e : s.heap.get? h'.objs.size with
      | none => rfl
      | some o => exact absurd (Heap.lt_size (hk _ _ e)) (Nat.lt_irrefl _)
    have hn0 : H h'.objs.size = none := I.hok.gone hp0
    exact ⟨.ref _, upd H h'.objs.size (.lst ((((bs.map V.ref).zip (ks.map rowT)).mergeSort pLe).map Prod.fst)), I.laidN (t' := tk) keep2 hp0 hn0 ⟨hlen, _, ep2, hv, he'⟩, rfl, q _ bs hn0 hbs hdk⟩
/-- sorted of a set of tuples of ints -/
def rSortS (K : PySem.W.Frag) (P : Program) (w : World) : List V → Hp → VK → Prop := fun vs H Q => ∃ (a : Addr) (L : List (Addr × List Int)), vs = [V.ref a] ∧ H a = some (SetTO P w a L) ∧ (∀ p ∈ L, SqT K H p.1 (p.2.map V.int)) ∧
  AllAlike (L.map fun p => rowT p.2) ∧ (PySem.W.Sortable (L.map fun p => rowT p.2) ∨ ((L.map (·.2)).Nodup → L.length ≤ 1)) ∧
  ∀ (L1 : List (Addr × List Int)) (p : Addr), L1.Perm L → (L.map (·.2)).Nodup → H p = none → Q (.ref p) (upd H p (.lst (((L1.map fun q => (V.ref q.1, rowT q.2)).mergeSort pLe).map Prod.fst)))
theorem refs_perm {P : Program} {w : World} {h : Heap} {L : List (Addr × List Int)} (nd : (L.map (·.2)).Nodup) (tup : ∀ p ∈ L, IsT P w h p.2 p.1) {vs : List Value} (pm : (L.map fun q => Value.ref q.1).Perm vs) :
    ∃ L1 : List (Addr × List Int), vs = L1.map (fun q => Value.ref q.1) ∧ L1.Perm L := by
  have ord : ∀ vs : List Value, (∀ v ∈ vs, ∃ q ∈ L, v = Value.ref q.1) → ∃ L1 : List (Addr × List Int), vs = L1.map (fun q => Value.ref q.1) ∧ ∀ q ∈ L1, q ∈ L := by
    intro vs
    induction vs with
    | nil => intro _; exact ⟨[], rfl, fun q hq => (by cases hq)⟩
    | cons v vs ih =>
      intro hv
      obtain ⟨q, hq, e⟩ := hv v List.mem_cons_self
      obtain ⟨L1, e1, hs⟩ := ih fun u hu => hv u (List.mem_cons_of_mem _ hu)
      refine ⟨q :: L1, by rw [List.map_cons, e, e1], fun r hr => ?_⟩
      rcases List.mem_cons.mp hr with z | z
      · rw [z]; exact hq
      · exact hs r z
  have one : ∀ q ∈ L, ∀ r ∈ L, q.1 = r.1 → q = r := fun q hq r hr e => by
    have a1 := tup q hq
    have a2 := tup r hr
    rw [e] at a1
    have e2 : q.2 = r.2 := a1.inj a2
    exact Prod.ext e e2
  obtain ⟨L1, e1, hs⟩ := ord vs fun v hv => by
    obtain ⟨q, hq, e⟩ := List.mem_map.mp (pm.mem_iff.mpr hv)
    exact ⟨q, hq, e.symm⟩
  refine ⟨L1, e1, ?_⟩
  have nL : L.Nodup := nodup_of_map nd
  have nref : (L.map fun q => Value.ref q.1).Nodup := by
    refine List.pairwise_map.mpr (List.Pairwise.imp_of_mem (fun {q r} hq hr hne e => ?_) nL)
    injection e with e
    exact hne (one q hq r hr e)
  rw [e1] at pm
  have n1 : L1.Nodup := nodup_of_map (pm.nodup_iff.mp nref)
  refine (List.perm_ext_iff_of_nodup n1 nL).mpr fun q => ⟨hs q, fun hq => ?_⟩
  have hm : Value.ref q.1 ∈ L1.map (fun q => Value.ref q.1) := pm.mem_iff.mp (List.mem_map.mpr ⟨q, hq, rfl⟩)
  obtain ⟨r, hr, e⟩ := List.mem_map.mp hm
  injection e with e
  rw [← one r (hs r hr) q hq e]
  exact hr
theorem dps_refs {K : PySem.W.Frag} {H : Hp} : ∀ (L1 : List (Addr × List Int)), (∀ p ∈ L1, SqT K H p.1 (p.2.map V.int)) → DpAll K H (L1.map fun q => V.ref q.1) (L1.map fun q => rowT q.2)
  | [], _ => .nil
  | p :: L1, h => .cons (dp_rowT (h p List.mem_cons_self)) (dps_refs L1 fun q hq => h q (List.mem_cons_of_mem _ hq))
theorem cr_sortS {X : Cx} {K : PySem.W.Frag} {P : Program} {w : World} (hc : X.calm = true) (hu : X.A.units + 64 < cLine) (hK : X.K = K := by rfl) (hP : X.prog = P := by rfl) (hw : X.w = w := by rfl) : CallR X (.builtin "sorted") (rSortS K P w) := by
  subst hK hP hw
  intro pins s σ H vs us Q I r h
  obtain ⟨a, L, rfl, ha, hk, hal, hso, q⟩ := h
  have R0 : SetT0 X.prog X.w s.heap a L := (I.hok a _ ha).1
  obtain ⟨es, ep, t, R⟩ := R0.full fun p hp => I.isT (hk p hp)
  rw [Vals.ref1 r]
  obtain ⟨o, ho, hex, hd⟩ := R.ob
  have hsz := R.size
  have hfew := R.few
  refine Calls.call_function_entry kind_sorted plain_sorted entry_sorted (args_sorted1 _) ?_
  unfold Builtin.«sorted»
  refine wpAny_bind (m := checkCount "sorted" 1 1 _) (wpAny_pure ?_)
  refine wpAny_bind (collect_set (A := X.A.in1) (I.ok.hd hc) ⟨o, ho, hex.1, hd⟩ R.fits (by unfold scanBound; omega) R.tab.ris R.led fun s1 vs k1 hz g1 o1 pm => ?_)
  have hes : es.toList.map (·.2) = L.map fun q => Value.ref q.1 := by
    rw [R.rows]
    unfold L2.rowsOf
    rw [List.map_map] <;> rfl
  rw [hes] at pm
  obtain ⟨L1, e1, pL⟩ := refs_perm R.nd R.tup pm.symm
  have hvl : vs.length < 64 := by rw [pm.length_eq, List.length_map]; exact hfew
  have lb : vs.length ≤ sizeLine := by rw [sizeLine_eq]; omega
  refine wpAny_bind (wpAny_newList ?_ lb)
  have hat : (s1.heap.push (seqObj "list" vs.toArray 0)).get? s1.heap.objs.size = some (seqObj "list" vs.toArray 0) := Heap.get?_push_size _ rfl
  have hold : ∀ b o, s.heap.get? b = some o → (sortingHeap (s1.heap.push (seqObj "list" vs.toArray 0)) s1.heap.objs.size vs).get? b = some o := fun b o e => by
    have e' := k1 b o e
    exact sortingHeap_old (Nat.ne_of_lt (Heap.lt_size e')) (Heap.get?_push_of_some _ e')
  have hk1 : ∀ p ∈ L1, SqT X.K H p.1 (p.2.map V.int) := fun p hp => hk p (pL.mem_iff.mp hp)
  have rv : Vals (L1.map fun q => V.ref q.1) vs := by rw [e1]; exact vals_of_refs L1
  have e0 := eachR (K := X.K) rfl I rv (dps_refs L1 hk1)
  have ez : (L1.map fun q => V.ref q.1).zip (L1.map fun q => rowT q.2) = L1.map fun q => (V.ref q.1, rowT q.2) := by rw [List.zip_map']
  rw [ez] at e0
  have e2 : EachIs (fun u (b : V × PyData) => RelV b.1 u ∧ ∃ as, Reads (sortingHeap (s1.heap.push (seqObj "list" vs.toArray 0)) s1.heap.objs.size vs) u b.2 as) vs (L1.map fun q => (V.ref q.1, rowT q.2)) := e0.mono fun u b z => ⟨z.1, z.2.elim fun as y => ⟨as, PyProof.Rows.Reads.keeps hold y⟩⟩
  have esnd : (L1.map fun q => (V.ref q.1, rowT q.2)).map Prod.snd = L1.map fun q => rowT q.2 := by rw [List.map_map]; rfl
  have mem1 : ∀ d, d ∈ (L1.map fun q => rowT q.2) → d ∈ (L.map fun q => rowT q.2) := fun d hd => by
    obtain ⟨q, hq, e⟩ := List.mem_map.mp hd
    exact List.mem_map.mpr ⟨q, pL.mem_iff.mp hq, e⟩
  have hal1 : AllAlike (L1.map fun q => rowT q.2) := fun d hd d' hd' => hal d (mem1 d hd) d' (mem1 d' hd')
  have hso1 : PySem.W.Sortable (L1.map fun q => rowT q.2) ∨ (L1.map fun q => (V.ref q.1, rowT q.2)).length ≤ 1 := by
    rcases hso with (z | z) | z
    · exact .inl (.inl fun d hd => z d (mem1 d hd))
    · exact .inl (.inr fun d hd => z d (mem1 d hd))
    · exact .inr (by rw [List.length_map, pL.length_eq]; exact z R.nd)
  have hun : ∀ d, d ∈ (L1.map fun q => rowT q.2) → (X.A.in1.in1).units + d.depth < cLine := fun d hm => by
    obtain ⟨r, _, rfl⟩ := List.mem_map.mp hm
    have h1 := depth_row r.2
    have h2 : X.A.in1.in1.units = X.A.units + 2 := rfl
    omega
  refine wpAny_bind (wpAny_holding (wpAny_call_entry_kw slot_list_sort ⟨_, hat, rfl⟩ entry_list_sort ?body (args_list_sort _)))
  case body =>
    refine sort_core (s := { s1 with heap := s1.heap.push (seqObj "list" vs.toArray 0) }) (L1.map fun q => (V.ref q.1, rowT q.2)) hat e2 lb (by rw [esnd]; exact hal1) (by rw [esnd]; exact hso1) (by rw [esnd]; exact hun) fun out hv => ?_
    refine ⟨_, rfl, wpAny_pure ⟨_, rfl, ?_⟩⟩
    obtain ⟨ep2, he'⟩ := PyProof.Rows.sortedHeap_at (out := out.toArray) hat
    have hlen : (((L1.map fun q => (V.ref q.1, rowT q.2)).mergeSort pLe).map Prod.fst).length ≤ sizeLine := by
      rw [List.length_map, List.length_mergeSort, List.length_map, pL.length_eq, sizeLine_eq]; omega
    have keep2 : ∀ b o, s.heap.get? b = some o → (PyProof.Rows.sortedHeap (s1.heap.push (seqObj "list" vs.toArray 0)) s1.heap.objs.size vs out.toArray).get? b = some o := fun b o e => by
      have e' := k1 b o e
      have lt' := Heap.lt_size e'
      rw [PyProof.Rows.sortedHeap_old (Nat.ne_of_lt lt') (by rw [size_push']; exact Nat.lt_succ_of_lt lt')]
      exact Heap.get?_push_of_some _ e'
    have hn0 : H s1.heap.objs.size = none := I.hok.fresh hz
    obtain ⟨hp2, gg, dd, tt, oo⟩ := s1
    cases g1
    cases o1
    have J : Inv X pins σ (upd H hp2.objs.size (.lst (((L1.map fun q => (V.ref q.1, rowT q.2)).mergeSort pLe).map Prod.fst))) { s with heap := PyProof.Rows.sortedHeap (hp2.push (seqObj "list" vs.toArray 0)) hp2.objs.size vs out.toArray, gens := s.gens, drawn := dd, toks := tt } :=
      I.call (ch := []) (Un.laid keep2 hz hn0) (I.hok.laid keep2 hz ⟨hlen, _, ep2, hv, he'⟩) I.bare (fun _ z => nomatch z)
    exact ⟨.ref _, _, J, rfl, q L1 _ pL R.nd hn0⟩
end Srt
namespace Af
open PySem PySem.Spec PyProof.Rows L2
def topS (i : Nat) : Stmt := PySem.Challenge.pw_aboutface_k20_whole_every_standing_twice.main.body.getD i (.Pass ⟨0, 0, 0, 0⟩)
abbrev sLengthOf : Stmt := topS 3
theorem scLengthOf : FnScope ["book", "rungs", "climber"] ["book", "rungs", "climber"] (defScope sLengthOf) := ⟨rfl, rfl, rfl, by decide +kernel, rfl, by decide +kernel, by decide +kernel⟩
abbrev sLengths : Stmt := topS 4
theorem scLengths : FnScope ["book", "standing", "climber"] ["book", "standing"] (defScope sLengths) := ⟨rfl, rfl, rfl, by decide +kernel, rfl, by decide +kernel, by decide +kernel⟩
abbrev sEndRung : Stmt := topS 6
theorem scEndRung : FnScope ["length", "face"] ["length", "face"] (defScope sEndRung) := ⟨rfl, rfl, rfl, by decide +kernel, rfl, by decide +kernel, by decide +kernel⟩
abbrev sBlocked : Stmt := topS 7
theorem scBlocked : FnScope ["book", "state", "standing", "faces", "ladders", "climber"] ["book", "state"] (defScope sBlocked) := ⟨rfl, rfl, rfl, by decide +kernel, rfl, by decide +kernel, by decide +kernel⟩
abbrev sMover : Stmt := topS 8
theorem scMover : FnScope ["book", "state", "stuck", "free", "climber"] ["book", "state"] (defScope sMover) := ⟨rfl, rfl, rfl, by decide +kernel, rfl, by decide +kernel, by decide +kernel⟩
abbrev sTurned : Stmt := topS 9
theorem scTurned : FnScope ["state", "standing", "faces", "face"] ["state"] (defScope sTurned) := ⟨rfl, rfl, rfl, by decide +kernel, rfl, by decide +kernel, by decide +kernel⟩
abbrev sBeat : Stmt := topS 10
theorem scBeat : FnScope ["book", "state", "goer", "standing", "faces", "rungs", "climber", "kept", "negated", "face"] ["book", "state"] (defScope sBeat) := ⟨rfl, rfl, rfl, by decide +kernel, rfl, by decide +kernel, by decide +kernel⟩
abbrev sOnes : Stmt := topS 12
theorem scOnes : FnScope ["book", "table"] ["book"] (defScope sOnes) := ⟨rfl, rfl, rfl, by decide +kernel, rfl, by decide +kernel, by decide +kernel⟩
abbrev sRunningSums : Stmt := topS 13
theorem scRunningSums : FnScope ["book", "weights", "rows", "climber", "row", "rung", "younger"] ["book", "weights"] (defScope sRunningSums) := ⟨rfl, rfl, rfl, by decide +kernel, rfl, by decide +kernel, by decide +kernel⟩
abbrev sPassed : Stmt := topS 14
theorem scPassed : FnScope ["row", "length", "rung", "face"] ["row", "length", "rung", "face"] (defScope sPassed) := ⟨rfl, rfl, rfl, by decide +kernel, rfl, by decide +kernel, by decide +kernel⟩
abbrev sRungReached : Stmt := topS 15
theorem scRungReached : FnScope ["row", "length", "face", "number", "rungs", "rung"] ["row", "length", "face", "number"] (defScope sRungReached) := ⟨rfl, rfl, rfl, by decide +kernel, rfl, by decide +kernel, by decide +kernel⟩
abbrev sSumBefore : Stmt := topS 16
theorem scSumBefore : FnScope ["book", "weights", "standing", "faces", "rows", "ladders", "total", "older", "climber", "row", "rung"] ["book", "weights", "standing", "faces"] (defScope sSumBefore) := ⟨rfl, rfl, rfl, by decide +kernel, rfl, by decide +kernel, by decide +kernel⟩
abbrev sStandingsMany : Stmt := topS 18
theorem scStandingsMany : FnScope ["book", "rows"] ["book"] (defScope sStandingsMany) := ⟨rfl, rfl, rfl, by decide +kernel, rfl, by decide +kernel, by decide +kernel⟩
abbrev sRoundLength : Stmt := topS 19
theorem scRoundLength : FnScope ["book"] ["book"] (defScope sRoundLength) := ⟨rfl, rfl, rfl, by decide +kernel, rfl, by decide +kernel, by decide +kernel⟩
abbrev sStandingAt : Stmt := topS 20
theorem scStandingAt : FnScope ["book", "number", "rungs", "rest", "climber", "row", "length", "rung"] ["book", "number"] (defScope sStandingAt) := ⟨rfl, rfl, rfl, by decide +kernel, rfl, by decide +kernel, by decide +kernel⟩
abbrev sStandingNumber : Stmt := topS 21
theorem scStandingNumber : FnScope ["book", "standing"] ["book", "standing"] (defScope sStandingNumber) := ⟨rfl, rfl, rfl, by decide +kernel, rfl, by decide +kernel, by decide +kernel⟩
abbrev sPartClock : Stmt := topS 23
theorem scPartClock : FnScope ["book", "rungs", "faces", "part"] ["book", "rungs", "faces"] (defScope sPartClock) := ⟨rfl, rfl, rfl, by decide +kernel, rfl, by decide +kernel, by decide +kernel⟩
abbrev sFlipped : Stmt := topS 24
theorem scFlipped : FnScope ["book", "face", "rungs", "faces"] ["book", "face", "rungs", "faces"] (defScope sFlipped) := ⟨rfl, rfl, rfl, by decide +kernel, rfl, by decide +kernel, by decide +kernel⟩
abbrev sFacingUp : Stmt := topS 25
theorem scFacingUp : FnScope ["state", "standing", "faces"] ["state"] (defScope sFacingUp) := ⟨rfl, rfl, rfl, by decide +kernel, rfl, by decide +kernel, by decide +kernel⟩
abbrev sFirstHalfState : Stmt := topS 26
theorem scFirstHalfState : FnScope ["book", "signs", "weights", "number", "rungs", "faces", "rest", "rows", "climber", "sign", "face", "length", "rung"] ["book", "signs", "weights", "number"] (defScope sFirstHalfState) := ⟨rfl, rfl, rfl, by decide +kernel, rfl, by decide +kernel, by decide +kernel⟩
abbrev sSignsOf : Stmt := topS 27
theorem scSignsOf : FnScope ["book", "state", "standing", "faces", "climber"] ["book", "state"] (defScope sSignsOf) := ⟨rfl, rfl, rfl, by decide +kernel, rfl, by decide +kernel, by decide +kernel⟩
abbrev sStart : Stmt := topS 28
theorem scStart : FnScope ["book", "signs"] ["book", "signs"] (defScope sStart) := ⟨rfl, rfl, rfl, by decide +kernel, rfl, by decide +kernel, by decide +kernel⟩
abbrev sClock : Stmt := topS 29
theorem scClock : FnScope ["book", "state", "standing", "faces", "number"] ["book", "state"] (defScope sClock) := ⟨rfl, rfl, rfl, by decide +kernel, rfl, by decide +kernel, by decide +kernel⟩
abbrev sLawBox : Stmt := topS 31
theorem scLawBox : FnScope ["_law_script", "_law_k", "_law_cell"] ["_law_script", "_law_k"] (defScope sLawBox) := ⟨rfl, rfl, rfl, by decide +kernel, rfl, by decide +kernel, by decide +kernel⟩
abbrev sLawTake : Stmt := topS 32
theorem scLawTake : FnScope ["_law_box_here", "_law_span", "_law_found", "_law_once"] ["_law_box_here", "_law_span"] (defScope sLawTake) := ⟨rfl, rfl, rfl, by decide +kernel, rfl, by decide +kernel, by decide +kernel⟩
abbrev sLawCells : Stmt := topS 33
theorem scLawCells : FnScope ["_law_script", "_law_most", "_law_cells_here", "_law_k", "_law_cell"] ["_law_script", "_law_most"] (defScope sLawCells) := ⟨rfl, rfl, rfl, by decide +kernel, rfl, by decide +kernel, by decide +kernel⟩
abbrev sLawLadder : Stmt := topS 34
theorem scLawLadder : FnScope ["_law_shelf", "_law_rungs", "_law_who"] ["_law_shelf", "_law_rungs", "_law_who"] (defScope sLawLadder) := ⟨rfl, rfl, rfl, by decide +kernel, rfl, by decide +kernel, by decide +kernel⟩
abbrev sLawRandomBook : Stmt := topS 35
theorem scLawRandomBook : FnScope ["_law_box_here", "_law_most", "_law_high", "_law_found", "_law_k", "_law_top", "_law_rung"] ["_law_box_here", "_law_most", "_law_high"] (defScope sLawRandomBook) := ⟨rfl, rfl, rfl, by decide +kernel, rfl, by decide +kernel, by decide +kernel⟩
abbrev sLawRandomStanding : Stmt := topS 36
theorem scLawRandomStanding : FnScope ["_law_box_here", "_law_shelf", "_law_found", "_law_who"] ["_law_box_here", "_law_shelf"] (defScope sLawRandomStanding) := ⟨rfl, rfl, rfl, by decide +kernel, rfl, by decide +kernel, by decide +kernel⟩
abbrev sLawRandomFaces : Stmt := topS 37
theorem scLawRandomFaces : FnScope ["_law_box_here", "_law_count", "_law_who"] ["_law_box_here", "_law_count"] (defScope sLawRandomFaces) := ⟨rfl, rfl, rfl, by decide +kernel, rfl, by decide +kernel, by decide +kernel⟩
abbrev sLawRandomState : Stmt := topS 38
theorem scLawRandomState : FnScope ["_law_box_here", "_law_shelf"] ["_law_box_here", "_law_shelf"] (defScope sLawRandomState) := ⟨rfl, rfl, rfl, by decide +kernel, rfl, by decide +kernel, by decide +kernel⟩
abbrev sLawLap : Stmt := topS 39
theorem scLawLap : FnScope ["_law_shelf", "_law_spot", "_law_found", "_law_here"] ["_law_shelf", "_law_spot"] (defScope sLawLap) := ⟨rfl, rfl, rfl, by decide +kernel, rfl, by decide +kernel, by decide +kernel⟩
abbrev sLawLapRight : Stmt := topS 40
theorem scLawLapRight : FnScope ["_law_box_here", "_law_shelf", "_law_spot", "_law_lap_here", "_law_half", "_law_met", "_law_rungs", "_law_looks", "_law_at", "_law_look", "_law_begin", "_law_marks", "_law_still", "_law_k", "_law_there", "_law_turn"] ["_law_box_here", "_law_shelf", "_law_spot"] (defScope sLawLapRight) := ⟨rfl, rfl, rfl, by decide +kernel, rfl, by decide +kernel, by decide +kernel⟩
abbrev sLawRight : Stmt := topS 41
theorem scLawRight : FnScope ["_law_box_here", "_law_shelf", "_law_turn"] ["_law_box_here"] (defScope sLawRight) := ⟨rfl, rfl, rfl, by decide +kernel, rfl, by decide +kernel, by decide +kernel⟩
abbrev sLaw : Stmt := topS 42
theorem scLaw : FnScope ["_law_script", "_law_cells_here", "_law_k", "_law_box_here"] ["_law_script"] (defScope sLaw) := ⟨rfl, rfl, rfl, by decide +kernel, rfl, by decide +kernel, by decide +kernel⟩
def clsS (s : Stmt) : Stmt := match s with
  | .ClassDef _ _ _ b _ _ _ _ _ _ _ => b.getD 0 (.Pass ⟨0, 0, 0, 0⟩)
  | _ => .Pass ⟨0, 0, 0, 0⟩
abbrev sErrNoNumber : Stmt := clsS (topS 1)
theorem scErrNoNumber : FnScope ["self", "number"] ["self", "number"] (defScope sErrNoNumber) := ⟨rfl, rfl, rfl, by decide +kernel, rfl, by decide +kernel, by decide +kernel⟩
end Af
namespace Af
open PySem PySem.Spec PyProof.Rows L2 PySem.W
/-! the standings in their order, sorted lists of rows -/
/-- the first place at which two lists differ, the first one being less there -/
structure Lex (as bs : List Int) (i : Nat) : Prop where
  lt : i < as.length
  same : ∀ j, j < i → as[j]? = bs[j]?
  less : ∃ a b, as[i]? = some a ∧ bs[i]? = some b ∧ a < b
theorem lex_toks : ∀ {as bs : List Int} {i : Nat}, Lex as bs i → PyProof.Rows.lexLt itemOrd (keyToksAll (as.map PyData.int)) (keyToksAll (bs.map PyData.int)) = true
  | [], _, _, h => absurd h.lt (Nat.not_lt_zero _)
  | _ :: _, [], 0, h => by obtain ⟨a, b, _, e, _⟩ := h.less; cases e
  | _ :: _, [], i + 1, h => by obtain ⟨a, b, _, e, _⟩ := h.less; cases e
  | a :: as, b :: bs, 0, h => by
    obtain ⟨x, y, e1, e2, hxy⟩ := h.less
    cases e1; cases e2
    show PyProof.Rows.lexLt itemOrd (Sum.inl 1 :: ([Sum.inl a] ++ keyToksAll (as.map PyData.int))) (Sum.inl 1 :: ([Sum.inl b] ++ keyToksAll (bs.map PyData.int))) = true
    refine PyProof.Rows.lex_true.mpr (.inr ⟨itemOrd.irrefl _, ?_⟩)
    exact PyProof.Rows.lex_true.mpr (.inl (decide_eq_true hxy))
  | a :: as, b :: bs, i + 1, h => by
    have e : a = b := by have := h.same 0 (Nat.succ_pos _); simpa using this
    subst e
    have ih := lex_toks (as := as) (bs := bs) (i := i) ⟨by have := h.lt; simpa using this, fun j hj => by have := h.same (j + 1) (by omega); simpa using this, by
      obtain ⟨x, y, e1, e2, hxy⟩ := h.less
      exact ⟨x, y, by simpa using e1, by simpa using e2, hxy⟩⟩
    show PyProof.Rows.lexLt itemOrd (Sum.inl 1 :: ([Sum.inl a] ++ keyToksAll (as.map PyData.int))) (Sum.inl 1 :: ([Sum.inl a] ++ keyToksAll (bs.map PyData.int))) = true
    refine PyProof.Rows.lex_true.mpr (.inr ⟨itemOrd.irrefl _, ?_⟩)
    exact PyProof.Rows.lex_true.mpr (.inr ⟨itemOrd.irrefl _, ih⟩)
theorem dle_of {x y : PyData} (h : dataLt x y = true) : Srt.dLe x y = true := by
  have h : (PyProof.Rows.listOrd itemOrd).blt (keyToks x) (keyToks y) = true := h
  show (!(PyProof.Rows.listOrd itemOrd).blt (keyToks y) (keyToks x)) = true
  cases e : (PyProof.Rows.listOrd itemOrd).blt (keyToks y) (keyToks x) with
  | false => rfl
  | true =>
    have z := (PyProof.Rows.listOrd itemOrd).trans _ _ _ h e
    rw [(PyProof.Rows.listOrd itemOrd).irrefl] at z
    cases z
theorem lex_dle {as bs : List Int} {i : Nat} (h : Lex as bs i) : Srt.dLe (rowT as) (rowT bs) = true := dle_of (lex_toks h)
theorem alike_ints : ∀ as bs : List Int, alikeAll (as.map PyData.int) (bs.map PyData.int) = true
  | [], _ => rfl
  | _ :: _, [] => rfl
  | a :: as, b :: bs => by show (true && alikeAll (as.map PyData.int) (bs.map PyData.int)) = true; rw [alike_ints as bs]; rfl
theorem alike_rows (L : List (List Int)) : AllAlike (L.map rowT) := fun d hd d' hd' => by
  obtain ⟨a, _, rfl⟩ := List.mem_map.mp hd
  obtain ⟨b, _, rfl⟩ := List.mem_map.mp hd'
  exact alike_ints a b
theorem sortable_rows {L : List (List Int)} (h : ∀ r ∈ L, r ≠ []) : Sortable (L.map rowT) := .inl fun d hd => by
  obtain ⟨a, ha, rfl⟩ := List.mem_map.mp hd
  cases a with
  | nil => exact absurd rfl (h _ ha)
  | cons x r => exact ⟨_, _, rfl⟩
section
variable {B : List (List Int)} {hi : Int}
theorem ext_lex (R : List Int) (i : Nat) : (extS B i R).Pairwise fun S T => ∃ i, Lex S T i := by
  unfold extS
  rw [List.pairwise_map]
  refine List.Pairwise.imp (fun {q q'} h => ?_) List.pairwise_lt_range
  refine ⟨R.length, by rw [List.length_append]; show R.length < R.length + 1; omega, fun j hj => by rw [List.getElem?_append_left hj, List.getElem?_append_left hj], _, _, by rw [List.getElem?_append_right (Nat.le_refl _), Nat.sub_self]; rfl, by rw [List.getElem?_append_right (Nat.le_refl _), Nat.sub_self]; rfl, by omega⟩
theorem stn_lex (G : GoodB B hi) : ∀ i : Nat, i ≤ B.length → (stnN B i).Pairwise fun S T => ∃ i, Lex S T i
  | 0, _ => List.pairwise_singleton _ _
  | i + 1, h => by
    show ((stnN B i).flatMap (extS B i)).Pairwise _
    rw [List.pairwise_flatMap]
    refine ⟨fun a _ => ext_lex a i, ?_⟩
    refine List.Pairwise.imp_of_mem (fun {a b} ha hb hab x hx y hy => ?_) (stn_lex G i (by omega))
    obtain ⟨la, _⟩ := stn_ok G i (by omega) a ha
    obtain ⟨lb, _⟩ := stn_ok G i (by omega) b hb
    obtain ⟨j, hj⟩ := hab
    obtain ⟨q, _, rfl⟩ := List.mem_map.mp hx
    obtain ⟨q', _, rfl⟩ := List.mem_map.mp hy
    have j1 := hj.lt
    refine ⟨j, by rw [List.length_append]; omega, fun m hm => ?_, ?_⟩
    · rw [List.getElem?_append_left (by omega), List.getElem?_append_left (by omega)]; exact hj.same m hm
    · obtain ⟨u, v, e1, e2, h⟩ := hj.less
      exact ⟨u, v, by rw [List.getElem?_append_left (by omega)]; exact e1, by rw [List.getElem?_append_left (by omega)]; exact e2, h⟩
end
/-- a list of rows that are in their order is sorted -/
theorem sort_same {α : Type} {le : α → α → Bool} {l : List α} (h : l.Pairwise fun a b => le a b = true) : l.mergeSort le = l := List.mergeSort_of_pairwise h
theorem zip_pair {xs : List V} {L : List (List Int)} (hl : xs.length = L.length) (h : L.Pairwise fun S T => ∃ i, Lex S T i) : (xs.zip (L.map rowT)).Pairwise fun a b => Srt.pLe a b = true := by
  rw [List.pairwise_iff_getElem]
  intro i j hi hj hij
  rw [List.length_zip, List.length_map] at hi hj
  rw [List.getElem_zip, List.getElem_zip]
  show Srt.dLe ((L.map rowT)[i]'_) ((L.map rowT)[j]'_) = true
  rw [List.getElem_map, List.getElem_map]
  obtain ⟨m, hm⟩ := (List.pairwise_iff_getElem.mp h) i j (by omega) (by omega) hij
  exact lex_dle hm
theorem sorted_rows {xs : List V} {L : List (List Int)} (hl : xs.length = L.length) (h : L.Pairwise fun S T => ∃ i, Lex S T i) : ((xs.zip (L.map rowT)).mergeSort Srt.pLe).map Prod.fst = xs := by
  rw [sort_same (zip_pair hl h), List.map_fst_zip (by rw [List.length_map]; omega)]
end Af
namespace Af
open PySem PySem.Spec PyProof.Rows L2 PySem.W
/-! sorted lists of states -/
theorem toks_len : ∀ as : List Int, (keyToksAll (as.map PyData.int)).length = 2 * as.length + 1
  | [] => rfl
  | a :: as => by
    show (Sum.inl 1 :: ([Sum.inl a] ++ keyToksAll (as.map PyData.int))).length = _
    rw [List.length_cons, List.length_append, toks_len as, List.length_cons]
    show 1 + (2 * as.length + 1) + 1 = 2 * (as.length + 1) + 1
    omega
theorem toks_inj : ∀ {as bs : List Int}, as.length = bs.length → keyToksAll (as.map PyData.int) = keyToksAll (bs.map PyData.int) → as = bs
  | [], [], _, _ => rfl
  | [], _ :: _, h, _ => by cases h
  | _ :: _, [], h, _ => by cases h
  | a :: as, b :: bs, hl, h => by
    have h : (Sum.inl 1 :: Sum.inl a :: keyToksAll (as.map PyData.int) : List (Int ⊕ List Nat)) = Sum.inl 1 :: Sum.inl b :: keyToksAll (bs.map PyData.int) := h
    injection h with _ h
    injection h with e h
    injection e with e
    rw [e, toks_inj (by simpa using hl) h]
theorem st_inj {S T : List Int × List Int} (h1 : S.1.length = T.1.length) (h2 : S.2.length = T.2.length) (h : keyToks (stD S) = keyToks (stD T)) : S = T := by
  have h : (Sum.inl 1 :: (keyToksAll (S.1.map PyData.int) ++ (Sum.inl 1 :: (keyToksAll (S.2.map PyData.int) ++ [Sum.inl 0]))) : List (Int ⊕ List Nat)) = Sum.inl 1 :: (keyToksAll (T.1.map PyData.int) ++ (Sum.inl 1 :: (keyToksAll (T.2.map PyData.int) ++ [Sum.inl 0]))) := h
  injection h with _ h
  obtain ⟨e1, h⟩ := List.append_inj h (by rw [toks_len, toks_len, h1])
  injection h with _ h
  obtain ⟨e2, _⟩ := List.append_inj h (by rw [toks_len, toks_len, h2])
  exact Prod.ext (toks_inj h1 e1) (toks_inj h2 e2)
theorem dle_anti {x y : PyData} (h1 : Srt.dLe x y = true) (h2 : Srt.dLe y x = true) : keyToks x = keyToks y := by
  have h1 : (!(PyProof.Rows.listOrd itemOrd).blt (keyToks y) (keyToks x)) = true := h1
  have h2 : (!(PyProof.Rows.listOrd itemOrd).blt (keyToks x) (keyToks y)) = true := h2
  exact (PyProof.Rows.listOrd itemOrd).total _ _ (by simpa using h2) (by simpa using h1)
theorem alike_sts (L : List (List Int × List Int)) : AllAlike (L.map stD) := fun d hd d' hd' => by
  obtain ⟨a, _, rfl⟩ := List.mem_map.mp hd
  obtain ⟨b, _, rfl⟩ := List.mem_map.mp hd'
  show (alikeAll (a.1.map PyData.int) (b.1.map PyData.int) && (alikeAll (a.2.map PyData.int) (b.2.map PyData.int) && true)) = true
  rw [alike_ints, alike_ints]; rfl
theorem sortable_sts (L : List (List Int × List Int)) : Sortable (L.map stD) := .inl fun d hd => by
  obtain ⟨a, _, rfl⟩ := List.mem_map.mp hd
  exact ⟨_, _, rfl⟩
theorem ple_total : ∀ a b : V × PyData, (Srt.pLe a b || Srt.pLe b a) = true := fun a b => by
  have z := (sortLe_total (PyProof.Rows.listOrd itemOrd) false keyToks).total a.2 b.2
  rw [Bool.or_eq_true]; exact z
theorem ple_trans : ∀ a b c : V × PyData, Srt.pLe a b = true → Srt.pLe b c = true → Srt.pLe a c = true := fun a b c h1 h2 => (sortLe_total (PyProof.Rows.listOrd itemOrd) false keyToks).trans a.2 b.2 c.2 h1 h2
theorem dps_pairs {K : PySem.W.Frag} {H : Hp} : ∀ {zs : List (V × PyData)}, (∀ p ∈ zs, Dp K H p.1 p.2) → DpAll K H (zs.map Prod.fst) (zs.map Prod.snd)
  | [], _ => .nil
  | p :: zs, h => .cons (h p List.mem_cons_self) (dps_pairs fun q hq => h q (List.mem_cons_of_mem _ hq))
theorem dps_zip {K : PySem.W.Frag} {H : Hp} : ∀ {xs : List V} {ds : List PyData}, DpAll K H xs ds → ∀ p ∈ xs.zip ds, Dp K H p.1 p.2
  | [], _, _, p, hp => by simp at hp
  | _ :: _, [], h, _, _ => by cases h
  | x :: xs, d :: ds, h, p, hp => by
    cases h with
    | cons h1 h2 =>
      rcases List.mem_cons.mp (show p ∈ (x, d) :: xs.zip ds from hp) with rfl | hp
      · exact h1
      · exact dps_zip h2 p hp
theorem dps_sort {K : PySem.W.Frag} {H : Hp} {xs : List V} {ds : List PyData} (h : DpAll K H xs ds) : DpAll K H (((xs.zip ds).mergeSort Srt.pLe).map Prod.fst) (((xs.zip ds).mergeSort Srt.pLe).map Prod.snd) :=
  dps_pairs fun p hp => dps_zip h p ((List.mergeSort_perm _ _).mem_iff.mp hp)
theorem sort_perm {xs : List V} {ds : List PyData} (h : xs.length = ds.length) : (((xs.zip ds).mergeSort Srt.pLe).map Prod.snd).Perm ds := by
  have z := (List.mergeSort_perm (xs.zip ds) Srt.pLe).map Prod.snd
  rw [List.map_snd_zip (by omega)] at z
  exact z
theorem sort_pair {xs : List V} {ds : List PyData} : (((xs.zip ds).mergeSort Srt.pLe).map Prod.snd).Pairwise fun a b => Srt.dLe a b = true := by
  rw [List.pairwise_map]
  exact List.pairwise_mergeSort ple_trans ple_total (xs.zip ds)
/-- two sorted lists with the same items are equal -/
theorem sorted_one {L1 L2 : List PyData} (p : L1.Perm L2) (h1 : L1.Pairwise fun a b => Srt.dLe a b = true) (h2 : L2.Pairwise fun a b => Srt.dLe a b = true) (inj : ∀ a ∈ L2, ∀ b ∈ L2, keyToks a = keyToks b → a = b) : L1 = L2 :=
  p.eq_of_pairwise (fun a b ha hb g1 g2 => inj a (p.mem_iff.mp ha) b hb (dle_anti g1 g2)) h1 h2
theorem perm_of {α : Type} [DecidableEq α] : ∀ {l1 l2 : List α}, l1.Nodup → (∀ x ∈ l1, x ∈ l2) → l2.length = l1.length → l1.Perm l2
  | [], l2, _, _, h => by rw [List.length_eq_zero_iff.mp h]
  | x :: t, l2, hn, hs, h => by
    obtain ⟨h1, h2⟩ := List.nodup_cons.mp hn
    have hx : x ∈ l2 := hs x List.mem_cons_self
    have ih := perm_of (l1 := t) (l2 := l2.erase x) h2 (fun y hy => by
      have hne : y ≠ x := fun e => h1 (e ▸ hy)
      exact (List.mem_erase_of_ne hne).2 (hs y (List.mem_cons_of_mem _ hy))) (by rw [List.length_erase_of_mem hx, h]; rfl)
    exact (ih.cons x).trans (List.perm_cons_erase hx).symm
section
variable {B : List (List Int)} {hi : Int} {S : List Int × List Int}
theorem stn_mem (G : GoodB B hi) {R : List Int} (h : Stands B R) : R ∈ stnL B := by
  have z := stn_once G B.length (Nat.le_refl _) R h.len h.all
  rcases Classical.em (R ∈ stnL B) with c | c
  · exact c
  · exfalso
    have e : ((stnN B B.length).map fun S => if S = R then (1 : Int) else 0) = (stnN B B.length).map fun _ => 0 := List.map_congr_left fun S hS => by
      rw [if_neg]
      intro y
      exact c (y ▸ hS)
    rw [e] at z
    have e0 : ∀ l : List (List Int), (l.map fun _ => (0 : Int)).sum = 0 := fun l => by
      induction l with
      | nil => rfl
      | cons a l ih => rw [List.map_cons, List.sum_cons, ih]; rfl
    rw [e0] at z; cases z
/-- the first half of a round: the states with the eldest facing up -/
def upsL (B : List (List Int)) (S : List Int × List Int) : List (List Int × List Int) := (List.range (manyN B).toNat).map fun j => itB B j S
variable (G : GoodB B hi) (h : Ok B S) (u : up S) (h0 : clk B S.1 S.2 = 0)
include G h u h0
theorem it_clk {j : Nat} (hj : (j : Int) < 2 * manyN B) : clockM B (itB B j S) = j := by
  rw [clock_it G h, clock_up u, h0, Int.zero_add, Int.emod_eq_of_lt (by omega) hj]
theorem it_up {j : Nat} (hj : (j : Int) < manyN B) : up (itB B j S) := by
  have hN := many_pos G
  refine clock_lt_up G (itB_ok G j h) ?_
  rw [it_clk G h u h0 (by omega)]; exact hj
theorem it_down {j : Nat} (h1 : manyN B ≤ (j : Int)) (h2 : (j : Int) < 2 * manyN B) : (itB B j S).2[0]? = some (-1) := by
  rcases face0 G (itB_ok G j h) with z | z
  · have := up_clock G (itB_ok G j h) z
    rw [it_clk G h u h0 h2] at this
    omega
  · exact z
theorem it_neg {j k : Nat} (e : (j : Int) + k = 2 * manyN B - 1) : negS (itB B j S) = itB B k S := by
  refine uniq G (itB_ok G j h).neg (itB_ok G k h) ?_ ?_
  · rw [clock_neg G (itB_ok G j h), it_clk G h u h0 (by omega), it_clk G h u h0 (by omega)]; omega
  · rw [signs_neg G (itB_ok G j h), signs_it G h, signs_it G h]
theorem ups_nodup : ((upsL B S).map Prod.fst).Nodup := by
  unfold upsL
  rw [List.map_map, List.nodup_iff_pairwise_ne, List.pairwise_map]
  refine List.Pairwise.imp_of_mem (fun {i j} hi hj hij e => ?_) List.pairwise_lt_range
  have hi := List.mem_range.mp hi
  have hj := List.mem_range.mp hj
  have ui := it_up G h u h0 (j := i) (by omega)
  have uj := it_up G h u h0 (j := j) (by omega)
  have oi := itB_ok G i h
  have oj := itB_ok G j h
  have e : (itB B i S).1 = (itB B j S).1 := e
  have es : sg B (itB B i S).1 (itB B i S).2 = sg B (itB B j S).1 (itB B j S).2 := by rw [sg_up ui, sg_up uj, signs_it G h, signs_it G h]
  have ec := it_clk G h u h0 (j := i) (by omega)
  have ec' := it_clk G h u h0 (j := j) (by omega)
  have : itB B i S = itB B j S := by
    refine Prod.ext e ?_
    have o1 : Ok B ((itB B i S).1, (itB B i S).2) := oi
    have o2 : Ok B ((itB B i S).1, (itB B j S).2) := by rw [e]; exact oj
    exact faces_uniq o1 o2 ui uj (by rw [es, e])
  rw [this, ec'] at ec
  omega
theorem ups_stn : ((upsL B S).map Prod.fst).Perm (stnL B) := by
  have hN := many_pos G
  refine perm_of (ups_nodup G h u h0) (fun x hx => ?_) ?_
  · obtain ⟨T, hT, rfl⟩ := List.mem_map.mp hx
    obtain ⟨j, _, rfl⟩ := List.mem_map.mp hT
    exact stn_mem G (itB_ok G j h).st
  · have := stn_many G
    unfold upsL
    rw [List.length_map, List.length_map, List.length_range]
    omega
theorem ups_rev : ((List.range (manyN B).toNat).map fun i => negS (itB B ((manyN B).toNat + i) S)) = (upsL B S).reverse := by
  have hN := many_pos G
  unfold upsL
  rw [← rev_range (fun j => itB B j S) (manyN B).toNat, List.reverse_reverse]
  refine List.map_congr_left fun i hi => ?_
  have hi := List.mem_range.mp hi
  exact it_neg G h u h0 (by omega)
end
end Af
namespace Af
open PySem PySem.Spec PyProof.Rows L2
/-! all face rows, in the order in which they are built; the states that have the same signs -/
def facesL : Nat → List (List Int)
  | 0 => [[]]
  | n + 1 => (facesL n).map (· ++ [-1]) ++ (facesL n).map (· ++ [1])
theorem facesL_len : ∀ n, (facesL n).length = 2 ^ n
  | 0 => rfl
  | n + 1 => by
    show ((facesL n).map (· ++ [-1]) ++ (facesL n).map (· ++ [1])).length = _
    rw [List.length_append, List.length_map, List.length_map, facesL_len n, Nat.pow_succ]; omega
theorem facesL_ok : ∀ n, ∀ L ∈ facesL n, L.length = n ∧ FacesOk L
  | 0, L, h => by
    rw [List.mem_singleton.mp h]
    exact ⟨rfl, fun x hx => by cases hx⟩
  | n + 1, L, h => by
    have go : ∀ (c : Int), c = 1 ∨ c = -1 → ∀ L ∈ (facesL n).map (· ++ [c]), L.length = n + 1 ∧ FacesOk L := fun c hc L h => by
      obtain ⟨A, hA, rfl⟩ := List.mem_map.mp h
      obtain ⟨l, o⟩ := facesL_ok n A hA
      refine ⟨by rw [List.length_append, l]; rfl, fun x hx => ?_⟩
      rcases List.mem_append.mp hx with hx | hx
      · exact o x hx
      · rw [List.mem_singleton.mp hx]; exact hc
    rcases List.mem_append.mp h with h | h
    · exact go (-1) (.inr rfl) L h
    · exact go 1 (.inl rfl) L h
theorem facesL_mem : ∀ (n : Nat) (L : List Int), L.length = n → FacesOk L → L ∈ facesL n
  | 0, L, l, _ => by rw [List.length_eq_zero_iff.mp l]; exact List.mem_singleton.mpr rfl
  | n + 1, L, l, o => by
    have hne : L ≠ [] := fun e => by rw [e] at l; cases l
    have e := List.dropLast_concat_getLast hne
    have m := facesL_mem n L.dropLast (by rw [List.length_dropLast]; omega) fun x hx => o x (List.dropLast_subset L hx)
    rw [← e]
    rcases o _ (List.getLast_mem hne) with z | z
    · rw [z]; exact List.mem_append_right _ (List.mem_map.mpr ⟨_, m, rfl⟩)
    · rw [z]; exact List.mem_append_left _ (List.mem_map.mpr ⟨_, m, rfl⟩)
theorem facesL_nodup : ∀ n, (facesL n).Nodup
  | 0 => List.pairwise_singleton _ _
  | n + 1 => by
    have inj : ∀ c : Int, ((facesL n).map (· ++ [c])).Nodup := fun c => by
      rw [List.nodup_iff_pairwise_ne, List.pairwise_map]
      exact (List.nodup_iff_pairwise_ne.mp (facesL_nodup n)).imp fun h e => h (List.append_cancel_right e)
    refine List.nodup_append.mpr ⟨inj _, inj _, fun a ha b hb e => ?_⟩
    obtain ⟨A, _, rfl⟩ := List.mem_map.mp ha
    obtain ⟨A', _, rfl⟩ := List.mem_map.mp hb
    have := (List.append_inj' e rfl).2
    cases this
theorem nodup_filter {α : Type} {l : List α} (p : α → Bool) (h : l.Nodup) : (l.filter p).Nodup := List.Pairwise.filter p h
section
variable {B : List (List Int)} {hi : Int} {S S0 : List Int × List Int}
/-- all states, as they are gone through -/
def psL (B : List (List Int)) : List (List Int × List Int) := (stnL B).flatMap fun R => (facesL B.length).map fun L => (R, L)
theorem psL_mem (G : GoodB B hi) : S ∈ psL B ↔ Ok B S := by
  unfold psL
  rw [List.mem_flatMap]
  constructor
  · rintro ⟨R, hR, h⟩
    obtain ⟨L, hL, rfl⟩ := List.mem_map.mp h
    obtain ⟨l, o⟩ := facesL_ok _ L hL
    exact ⟨stn_stands G hR, l, o⟩
  · intro h
    exact ⟨S.1, stn_mem G h.st, List.mem_map.mpr ⟨S.2, facesL_mem _ _ h.fl h.fo, rfl⟩⟩
theorem stnL_nodup (G : GoodB B hi) : (stnL B).Nodup := by
  rw [List.nodup_iff_pairwise_ne]
  exact (stn_lex G B.length (Nat.le_refl _)).imp fun ⟨i, h⟩ e => by
    rw [e] at h
    obtain ⟨a, b, h1, h2, h3⟩ := h.less
    rw [h1] at h2
    cases h2
    omega
theorem psL_nodup (G : GoodB B hi) : (psL B).Nodup := by
  unfold psL
  rw [List.nodup_iff_pairwise_ne, List.pairwise_flatMap]
  refine ⟨fun R _ => ?_, ?_⟩
  · rw [List.pairwise_map]
    exact (List.nodup_iff_pairwise_ne.mp (facesL_nodup _)).imp fun h e => h (Prod.mk.inj e).2
  · refine (List.nodup_iff_pairwise_ne.mp (stnL_nodup G)).imp fun h x hx y hy e => ?_
    obtain ⟨L, _, rfl⟩ := List.mem_map.mp hx
    obtain ⟨L', _, rfl⟩ := List.mem_map.mp hy
    exact h (Prod.mk.inj e).1
/-- the states with these signs -/
def heapL (B : List (List Int)) (M : List Int) : List (List Int × List Int) := (psL B).filter fun S => signsM B S == M
theorem heap_mem (G : GoodB B hi) {M : List Int} : S ∈ heapL B M ↔ Ok B S ∧ signsM B S = M := by
  unfold heapL
  rw [List.mem_filter, psL_mem G]
  simp
def rdL (B : List (List Int)) (S0 : List Int × List Int) : List (List Int × List Int) := (List.range (2 * (manyN B).toNat)).map fun j => itB B j S0
theorem it_clk2 (G : GoodB B hi) (h : Ok B S0) (h0 : clockM B S0 = 0) {j : Nat} (hj : (j : Int) < 2 * manyN B) : clockM B (itB B j S0) = j := by
  rw [clock_it G h, h0, Int.zero_add, Int.emod_eq_of_lt (by omega) hj]
theorem heap_perm (G : GoodB B hi) (h : Ok B S0) (h0 : clockM B S0 = 0) : (heapL B (signsM B S0)).Perm (rdL B S0) := by
  have hN := many_pos G
  refine (List.perm_ext_iff_of_nodup (nodup_filter _ (psL_nodup G)) ?_).mpr fun S => ?_
  · unfold rdL
    rw [List.nodup_iff_pairwise_ne, List.pairwise_map]
    refine List.Pairwise.imp_of_mem (fun {i j} hi hj hij e => ?_) List.pairwise_lt_range
    have hi := List.mem_range.mp hi
    have hj := List.mem_range.mp hj
    have ei := it_clk2 G h h0 (j := i) (by omega)
    have ej := it_clk2 G h h0 (j := j) (by omega)
    rw [e, ej] at ei
    omega
  · rw [show (S ∈ List.filter (fun S => signsM B S == signsM B S0) (psL B)) = (S ∈ heapL B (signsM B S0)) from rfl, heap_mem G]
    unfold rdL
    rw [List.mem_map]
    constructor
    · rintro ⟨o, e⟩
      obtain ⟨c0, c1⟩ := clock_rg G o
      refine ⟨(clockM B S).toNat, List.mem_range.mpr (by omega), ?_⟩
      refine uniq G (itB_ok G _ h) o ?_ ?_
      · rw [it_clk2 G h h0 (by omega)]; omega
      · rw [signs_it G h, e]
    · rintro ⟨j, _, rfl⟩
      exact ⟨itB_ok G j h, signs_it G h j⟩
end
end Af
namespace Af
open PySem PySem.Spec PyProof.Rows L2
/-! a dict at D that keeps the states ps by a key, a list of a datum of each, in ps' order -/
theorem kyT_inj {a b : List Int} (h : Srt.kyT a = Srt.kyT b) : a = b := by
  unfold Srt.kyT at h
  exact List.map_inj_right (fun x y e => Sum.inl.inj e) |>.mp h
structure GrpG (K : PySem.W.Frag) (key : List Int × List Int → List Int) (dat : List Int × List Int → PyData) (H : Hp) (D : Addr) (kvs : List (List Key × V)) (ks : List (List Int)) (ps : List (List Int × List Int)) : Prop where
  at_ : H D = some (.dT kvs)
  keys : kvs.map Prod.fst = ks.map Srt.kyT
  nd : ks.Nodup
  le : ks.length ≤ ps.length
  mem : ∀ M, M ∈ ks ↔ ∃ S ∈ ps, key S = M
  val : ∀ M ∈ ks, ∃ (p : Addr) (xs : List V), valV kvs (Srt.kyT M) = some (.ref p) ∧ p ≠ D ∧ H p = some (.lst xs) ∧ DpAll K (hid H D) xs ((ps.filter fun S => key S == M).map dat)
section
variable {K : PySem.W.Frag} {key : List Int × List Int → List Int} {dat : List Int × List Int → PyData} {H H' : Hp} {D : Addr} {kvs : List (List Key × V)} {ks : List (List Int)} {ps : List (List Int × List Int)}
theorem valV_mem : ∀ {kvs : List (List Key × V)} {ks : List (List Int)}, kvs.map Prod.fst = ks.map Srt.kyT → ∀ {M : List Int}, M ∉ ks → valV kvs (Srt.kyT M) = none
  | [], _, _, _, _ => rfl
  | p :: kvs, [], e, _, _ => by cases e
  | p :: kvs, k :: ks, e, M, h => by
    obtain ⟨e1, e2⟩ := List.cons.inj e
    rw [valV_neg (by rw [e1]; exact fun z => h (by rw [kyT_inj z]; exact List.mem_cons_self))]
    exact valV_mem e2 fun z => h (List.mem_cons_of_mem _ z)
theorem GrpG.no (g : GrpG K key dat H D kvs ks ps) {M : List Int} (h : M ∉ ks) : valV kvs (Srt.kyT M) = none ∧ (ps.filter fun S => key S == M) = [] := by
  refine ⟨valV_mem g.keys h, List.filter_eq_nil_iff.mpr fun S hS e => h ((g.mem M).mpr ⟨S, hS, by simpa using e⟩)⟩
theorem GrpG.nil (h : H D = some (.dT [])) : GrpG K key dat H D [] [] [] := ⟨h, rfl, List.nodup_nil, Nat.le_refl _, fun M => ⟨fun z => (by cases z), fun ⟨_, z, _⟩ => (by cases z)⟩, fun M z => by cases z⟩
theorem GrpG.len (g : GrpG K key dat H D kvs ks ps) : kvs.length = ks.length := by
  have := congrArg List.length g.keys
  rw [List.length_map, List.length_map] at this
  exact this
theorem keys_put {M : List Int} {v : V} : ∀ {kvs : List (List Key × V)}, (kvs.map fun kv => if kv.1 = Srt.kyT M then (kv.1, v) else kv).map Prod.fst = kvs.map Prod.fst
  | [] => rfl
  | p :: kvs => by
    rw [List.map_cons, List.map_cons, List.map_cons, keys_put]
    by_cases e : p.1 = Srt.kyT M
    · rw [if_pos e]
    · rw [if_neg e]
/-- one state more: its signs' list is p, new -/
theorem GrpG.put (g : GrpG K key dat H D kvs ks ps) {S : List Int × List Int} {p : Addr} {xs : List V} (s : Same H H') (np : H p = none) (hp : H' p = some (.lst xs)) (hx : DpAll K (hid H' D) xs (((ps ++ [S]).filter fun T => key T == key S).map dat)) :
    ∃ ks', GrpG K key dat (upd H' D (.dT (putK kvs (Srt.kyT (key S)) (.ref p)))) D (putK kvs (Srt.kyT (key S)) (.ref p)) ks' (ps ++ [S]) := by
  have npD : p ≠ D := fun z => by rw [z, g.at_] at np; cases np
  have other : ∀ M, M ≠ key S → ((ps ++ [S]).filter fun T => key T == M) = ps.filter fun T => key T == M := fun M hM => by
    rw [List.filter_append]
    have : ([S].filter fun T => key T == M) = [] := by
      simp only [List.filter_cons, List.filter_nil]
      rw [if_neg (by simpa using fun z => hM z.symm)]
    rw [this, List.append_nil]
  have val' : ∀ M, (M ≠ key S → M ∈ ks) → ∃ (p2 : Addr) (ys : List V), valV (putK kvs (Srt.kyT (key S)) (.ref p)) (Srt.kyT M) = some (.ref p2) ∧ p2 ≠ D ∧ (upd H' D (.dT (putK kvs (Srt.kyT (key S)) (.ref p)))) p2 = some (.lst ys) ∧
      DpAll K (hid (upd H' D (.dT (putK kvs (Srt.kyT (key S)) (.ref p)))) D) ys (((ps ++ [S]).filter fun T => key T == M).map dat) := fun M hM => by
    rw [hid_upd]
    by_cases e : M = key S
    · subst e
      exact ⟨p, xs, by rw [valV_put, if_pos rfl], npD, by rw [upd_ne npD]; exact hp, hx⟩
    · obtain ⟨p2, ys, h1, h2, h3, h4⟩ := g.val M (hM e)
      refine ⟨p2, ys, by rw [valV_put, if_neg fun z => e (kyT_inj z)]; exact h1, h2, by rw [upd_ne h2]; exact s _ _ h3, ?_⟩
      rw [other M e]
      exact dps_up h4 (hid_mono s)
  by_cases hm : key S ∈ ks
  · refine ⟨ks, upd_same, ?_, g.nd, by rw [List.length_append]; exact Nat.le_trans g.le (Nat.le_add_right _ _), fun M => ?_, fun M hM => val' M fun _ => hM⟩
    · obtain ⟨p2, ys, h1, _⟩ := g.val _ hm
      have ha : (kvs.any fun kv => decide (kv.1 = Srt.kyT (key S))) = true := by rw [valV_any, h1]; rfl
      unfold putK
      rw [if_pos ha, keys_put]
      exact g.keys
    · rw [g.mem M]
      constructor
      · rintro ⟨T, hT, e⟩; exact ⟨T, List.mem_append_left _ hT, e⟩
      · rintro ⟨T, hT, e⟩
        rcases List.mem_append.mp hT with hT | hT
        · exact ⟨T, hT, e⟩
        · rw [List.mem_singleton.mp hT] at e
          rw [← e]
          exact (g.mem _).mp hm
  · obtain ⟨n1, _⟩ := g.no hm
    refine ⟨ks ++ [key S], upd_same, ?_, ?_, by rw [List.length_append, List.length_append]; exact Nat.add_le_add_right g.le 1, fun M => ?_, fun M hM => val' M fun ne => ?_⟩
    · rw [putK_new _ n1, List.map_append, List.map_append, g.keys]; rfl
    · refine List.nodup_append.mpr ⟨g.nd, List.pairwise_singleton _ _, fun a ha b hb e => ?_⟩
      rw [List.mem_singleton.mp hb] at e
      exact hm (e ▸ ha)
    · rw [List.mem_append, g.mem M, List.mem_singleton]
      constructor
      · rintro (⟨T, hT, e⟩ | e)
        · exact ⟨T, List.mem_append_left _ hT, e⟩
        · exact ⟨S, List.mem_append_right _ (List.mem_singleton.mpr rfl), e.symm⟩
      · rintro ⟨T, hT, e⟩
        rcases List.mem_append.mp hT with hT | hT
        · exact .inl ⟨T, hT, e⟩
        · rw [List.mem_singleton.mp hT] at e
          exact .inr e.symm
    · rcases List.mem_append.mp hM with h | h
      · exact h
      · exact absurd (List.mem_singleton.mp h) ne
theorem GrpG.up (g : GrpG K key dat H D kvs ks ps) (s : Same H H') : GrpG K key dat H' D kvs ks ps :=
  ⟨s _ _ g.at_, g.keys, g.nd, g.le, g.mem, fun M hM => by
    obtain ⟨p, xs, h1, h2, h3, h4⟩ := g.val M hM
    exact ⟨p, xs, h1, h2, s _ _ h3, dps_up h4 (hid_mono s)⟩⟩
end
end Af
namespace Af
open PySem PySem.Spec PyProof.Rows L2
section
variable {B : List (List Int)} {hi : Int}
/-- for any faces there are rungs where everybody is at the end away from which the face looks -/
theorem away_ex (G : GoodB B hi) {F : List Int} (hl : F.length = B.length) (hF : FacesOk F) : ∀ i : Nat, i ≤ B.length → ∃ R : List Int, R.length = i ∧ StandsTo B R i ∧ AwayTo B R F i
  | 0, _ => ⟨[], rfl, fun c hc => absurd hc (Nat.not_lt_zero _), fun c hc => absurd hc (Nat.not_lt_zero _)⟩
  | i + 1, h => by
    obtain ⟨R, rl, hS, hA⟩ := away_ex G hl hF i (by omega)
    have hi2 : i < F.length := by omega
    have hS' : StandsTo B R R.length := by rw [rl]; exact hS
    obtain ⟨n, g1, g2, g3⟩ := len_ex G (show R.length < B.length by omega) hS'
    have hf := hF F[i] (List.getElem_mem hi2)
    have e1 : 1 ≤ endR n (-F[i]) ∧ endR n (-F[i]) ≤ n := by
      rcases hf with e | e
      · rw [e]; exact ⟨Int.le_refl _, g2⟩
      · rw [e]; exact ⟨g2, Int.le_refl _⟩
    refine ⟨R ++ [endR n (-F[i])], by rw [List.length_append, rl]; rfl, ?_, fun c hc => ?_⟩
    · have := stands_snoc hS' g1 e1.1 e1.2
      rwa [rl] at this
    · rw [rl] at g1
      by_cases z : c < i
      · obtain ⟨n', f', k1, k2, k3⟩ := hA c z
        exact ⟨n', f', by rw [← k1]; exact lenAt_pre fun j hj => last_pre rl (by omega), k2, by rw [last_pre rl z]; exact k3⟩
      · have : c = i := by omega
        subst this
        exact ⟨n, F[c], by rw [← g1]; exact lenAt_pre fun j hj => last_pre rl hj, List.getElem?_eq_getElem hi2, last_get rl⟩
/-- any signs are those of a state: its round's start -/
theorem signs_exM (G : GoodB B hi) {M : List Int} (hl : M.length = B.length - 1) (hM : FacesOk M) : ∃ S : List Int × List Int, Ok B S ∧ up S ∧ clk B S.1 S.2 = 0 ∧ clockM B S = 0 ∧ signsM B S = M := by
  obtain ⟨n0, e0⟩ := G.first
  have h0 : 0 < B.length := (List.getElem?_eq_some_iff.mp e0).1
  have fl : (1 :: M).length = B.length := by simp; omega
  have fo : FacesOk (1 :: M) := fun x hx => by
    rcases List.mem_cons.mp hx with rfl | hx
    · exact .inl rfl
    · exact hM x hx
  obtain ⟨R, rl, hS, hA⟩ := away_ex G fl fo B.length (Nat.le_refl _)
  have hO : Ok B (R, 1 :: M) := ⟨⟨rl, hS⟩, fl, fo⟩
  have u : up (R, 1 :: M) := rfl
  have c0 : clk B R (1 :: M) = 0 := away_clk hO.whole hA
  refine ⟨(R, 1 :: M), hO, u, c0, by rw [clock_up u]; exact c0, ?_⟩
  show sg B (upB (R, 1 :: M)).1 (upB (R, 1 :: M)).2 = M
  rw [upB_up u]
  exact away_sg (F := M) hO hA
theorem signs_okM (G : GoodB B hi) {S : List Int × List Int} (h : Ok B S) : (signsM B S).length = B.length - 1 ∧ FacesOk (signsM B S) := ⟨sg_len _ _ _, sg_ok (upB_ok h)⟩
theorem sort_cond {L : List (List Int)} {n : Nat} (h : ∀ r ∈ L, r.length = n) : PySem.W.Sortable (L.map rowT) ∨ (L.Nodup → L.length ≤ 1) := by
  cases n with
  | succ n => exact .inl (.inl fun d hd => by
      obtain ⟨a, ha, rfl⟩ := List.mem_map.mp hd
      have := h a ha
      cases a with
      | nil => cases this
      | cons x r => exact ⟨_, _, rfl⟩)
  | zero =>
    refine .inr fun nd => ?_
    match L, h, nd with
    | [], _, _ => exact Nat.zero_le _
    | [_], _, _ => exact Nat.le_refl _
    | a :: b :: l, h, nd =>
      have e1 := List.length_eq_zero_iff.mp (h a (by simp))
      have e2 := List.length_eq_zero_iff.mp (h b (by simp))
      rw [e1, e2] at nd
      simp at nd
theorem rows_of : ∀ {l : List PyData}, (∀ d ∈ l, ∃ r : List Int, d = rowT r) → ∃ L : List (List Int), l = L.map rowT
  | [], _ => ⟨[], rfl⟩
  | d :: l, h => by
    obtain ⟨S, rfl⟩ := h d List.mem_cons_self
    obtain ⟨L, rfl⟩ := rows_of fun e he => h e (List.mem_cons_of_mem _ he)
    exact ⟨S :: L, rfl⟩
theorem lay_rowsL (L : List (List Int)) : (PyData.list (L.map rowT)).canLay0 = true := by
  have h := lay_book L
  simp only [bookT, PyData.canLay0] at h ⊢
  exact h
theorem depth_rowsL (L : List (List Int)) : (PyData.list (L.map rowT)).depth ≤ 2 := by
  have h := depth_book L
  simp only [bookT, PyData.depth] at h ⊢
  exact h
theorem shaped_rowsL (L : List (List Int)) : SeqAt.shaped (.list (L.map rowT)) = true := shapedT (lay_rowsL L) (Nat.le_trans (depth_rowsL L) (by decide))
theorem ne_rowsL (L : List (List Int)) : (!PyData.eqv (.list (L.map rowT)) (.list (L.map rowT))) = false := by rw [eqvT (lay_rowsL L)]; rfl
theorem any_st {S : List Int × List Int} {L : List (List Int × List Int)} (h : S ∈ L) : ((L.map stD).any fun z => PyData.eqv z (stD S)) = true :=
  List.any_eq_true.mpr ⟨stD S, List.mem_map.mpr ⟨S, h, rfl⟩, eqvT (lay_state S.1 S.2)⟩
end
end Af
namespace Af
open PySem PySem.Spec PyProof.Rows L2
section
variable {K : PySem.W.Frag} {B : List (List Int)} {H H' : Hp} {D : Addr} {kvs : List (List Key × V)} {ks : List (List Int)} {ps : List (List Int × List Int)}
theorem GrpG.back {key : List Int × List Int → List Int} {dat : List Int × List Int → PyData} (g : GrpG K key dat H D kvs ks ps) (e : H' D = some (.dT kvs)) (s : Same (hid H D) (hid H' D)) : GrpG K key dat H' D kvs ks ps :=
  ⟨e, g.keys, g.nd, g.le, g.mem, fun M hM => by
    obtain ⟨p, xs, h1, h2, h3, h4⟩ := g.val M hM
    exact ⟨p, xs, h1, h2, hid_le _ _ (s _ _ (by rw [hid_ne h2]; exact h3)), dps_up h4 s⟩⟩
theorem zip_pick : ∀ {kvs : List (List Key × V)} {bs : List Addr} {ks : List (List Int)}, IsKeys H kvs bs → kvs.map Prod.fst = ks.map Srt.kyT → ∀ z ∈ (bs.map V.ref).zip (ks.map rowT), ∃ (q : Addr) (M : List Int), z.1 = .ref q ∧ M ∈ ks ∧ H q = some (.tup ((Srt.kyT M).map kV))
  | [], _, _, h, _, z, hz => by cases h; cases hz
  | _ :: _, _, [], _, e, _, _ => by cases e
  | p :: kvs, _, k :: ks, h, e, z, hz => by
    unfold IsKeys at h
    cases h with
    | @cons _ b _ _ h1 h2 =>
      obtain ⟨e1, e2⟩ := List.cons.inj e
      rcases List.mem_cons.mp hz with rfl | hz
      · exact ⟨b, k, rfl, List.mem_cons_self, by rw [← e1]; exact h1⟩
      · obtain ⟨q, M, a1, a2, a3⟩ := zip_pick h2 e2 z hz
        exact ⟨q, M, a1, List.mem_cons_of_mem _ a2, a3⟩
theorem key_pick {bs : List Addr} (h : IsKeys H kvs bs) (e : kvs.map Prod.fst = ks.map Srt.kyT) {v : V} (hv : v ∈ (((bs.map V.ref).zip (ks.map rowT)).mergeSort Srt.pLe).map Prod.fst) :
    ∃ (q : Addr) (M : List Int), v = .ref q ∧ M ∈ ks ∧ H q = some (.tup ((Srt.kyT M).map kV)) := by
  obtain ⟨z, hz, rfl⟩ := List.mem_map.mp hv
  exact zip_pick h e z ((List.mergeSort_perm _ _).mem_iff.mp hz)
theorem sorted_len {bs : List Addr} (h : (bs.map V.ref).length = (ks.map rowT).length) : ((((bs.map V.ref).zip (ks.map rowT)).mergeSort Srt.pLe).map Prod.fst).length = ks.length := by
  rw [List.length_map, List.length_mergeSort, List.length_zip, h, Nat.min_self, List.length_map]
theorem alike_nums (L : List Int) : PySem.W.AllAlike (L.map PyData.int) := fun d hd d' hd' => by
  obtain ⟨a, _, rfl⟩ := List.mem_map.mp hd
  obtain ⟨b, _, rfl⟩ := List.mem_map.mp hd'
  rfl
theorem sortable_nums (L : List Int) : PySem.W.Sortable (L.map PyData.int) := .inr fun d hd => by
  obtain ⟨a, _, rfl⟩ := List.mem_map.mp hd
  exact ⟨by simp, by simp⟩
theorem int_dle {a b : Int} (h : a < b) : Srt.dLe (.int a) (.int b) = true := dle_of (by
  show PyProof.Rows.lexLt itemOrd [.inl a] [.inl b] = true
  simp [PyProof.Rows.lexLt, itemLt, h])
theorem range_sorted (n : Nat) : ((List.range n).map fun (j : Nat) => PyData.int (j : Int)).Pairwise fun a b => Srt.dLe a b = true := by
  rw [List.pairwise_map]
  exact List.pairwise_lt_range.imp fun h => int_dle (by omega)
theorem clocks_perm {hi : Int} {S0 : List Int × List Int} (G : GoodB B hi) (h : Ok B S0) (h0 : clockM B S0 = 0) : ((heapL B (signsM B S0)).map fun S => PyData.int (clockM B S)).Perm ((List.range (2 * (manyN B).toNat)).map fun (j : Nat) => PyData.int (j : Int)) := by
  refine ((heap_perm G h h0).map _).trans (List.Perm.of_eq ?_)
  unfold rdL
  rw [List.map_map]
  refine List.map_congr_left fun j hj => ?_
  have := List.mem_range.mp hj
  show PyData.int (clockM B (itB B j S0)) = _
  rw [it_clk2 G h h0 (by have := many_pos G; omega)]
theorem st_hideB {v : V} {b : Addr} {l : List V} {S : List Int × List Int} (h : Dp K H v (stD S)) (hb : H b = some (.lst l)) : Dp K (hid H b) v (stD S) := by
  obtain ⟨R, F⟩ := S
  cases h with
  | tup h1 h2 =>
    cases h2 with
    | cons p1 h2 =>
      cases h2 with
      | cons p2 h2 =>
        cases h2 with
        | nil =>
          obtain ⟨r, rfl, hr⟩ := rowT_at p1
          obtain ⟨f, rfl, hf⟩ := rowT_at p2
          exact .tup (sqt_hide h1 hb) (.cons (dp_rowT (sqt_hide hr hb)) (.cons (dp_rowT (sqt_hide hf hb)) .nil))
theorem sts_hideB {b : Addr} {l : List V} (hb : H b = some (.lst l)) : ∀ {vs : List V} {L : List (List Int × List Int)}, DpAll K H vs (L.map stD) → DpAll K (hid H b) vs (L.map stD)
  | [], [], _ => .nil
  | [], _ :: _, h => by cases h
  | _ :: _, [], h => by cases h
  | v :: vs, S :: L, h => by
    cases h with
    | cons h1 h2 => exact .cons (st_hideB h1 hb) (sts_hideB hb h2)
theorem not_box {a b c : Int} {L : List (List Int × List Int)} (h : DpAll K H [.int a, .int b, .int c] (L.map stD)) : False := by
  cases L with
  | nil => cases h
  | cons S L =>
    cases h with
    | cons h1 _ => cases h1
theorem dps_nums : ∀ L : List Int, DpAll K H (L.map V.int) (L.map PyData.int)
  | [] => .nil
  | a :: L => .cons (.int a) (dps_nums L)
theorem lay_nums : ∀ L : List Int, PyData.canLayAll0 (L.map PyData.int) = true
  | [] => rfl
  | a :: L => by simpa only [List.map_cons, PyData.canLayAll0, PyData.canLay0, Bool.true_and] using lay_nums L
theorem shaped_nums (L : List Int) : SeqAt.shaped (.list (L.map PyData.int)) = true := shapedT (by simp only [PyData.canLay0]; exact lay_nums L) (by
  have := depth_rowL L
  unfold rowL at this
  omega)
theorem ne_nums (L : List Int) : (!PyData.eqv (.list (L.map PyData.int)) (.list (L.map PyData.int))) = false := by rw [eqvT (by simp only [PyData.canLay0]; exact lay_nums L)]; rfl
end
end Af
namespace Af
open PySem PySem.Spec PyProof.Rows L2
section
variable {B : List (List Int)} {hi : Int} {S S0 X : List Int × List Int}
theorem mov_iff (G : GoodB B hi) (h : Ok B S) : moverO B S.1 S.2 = none ↔ (clockM B S = manyN B - 1 ∨ clockM B S = 2 * manyN B - 1) := by
  have hN := many_pos G
  constructor
  · intro hm
    rcases face0 G h with u | u
    · exact .inl (by rw [clock_up u]; exact clk_stuck G h hm)
    · exact .inr (clock_last G h u hm)
  · intro hc
    refine stuck_of G h (uniq G (itB_ok G 1 h) h.neg ?_ ?_)
    · show clockM B (itB B 1 S) = _
      rw [clock_it G h, clock_neg G h]
      rcases hc with hc | hc
      · rw [hc, show manyN B - 1 + ((1 : Nat) : Int) = manyN B by omega, Int.emod_eq_of_lt (by omega) (by omega)]; omega
      · rw [hc, show 2 * manyN B - 1 + ((1 : Nat) : Int) = 2 * manyN B by omega, Int.emod_self]; omega
    · rw [signs_neg G h]; exact signs_it G h 1
theorem rd_mem (G : GoodB B hi) (h : Ok B S0) : X ∈ rdL B S0 ↔ Ok B X ∧ signsM B X = signsM B S0 := by
  have hN := many_pos G
  unfold rdL
  rw [List.mem_map]
  constructor
  · rintro ⟨j, _, rfl⟩
    exact ⟨itB_ok G j h, signs_it G h j⟩
  · rintro ⟨o, e⟩
    have c0 := Int.emod_nonneg (clockM B X - clockM B S0) (b := 2 * manyN B) (by omega)
    have c1 := Int.emod_lt_of_pos (clockM B X - clockM B S0) (b := 2 * manyN B) (by omega)
    obtain ⟨r0, r1⟩ := clock_rg G o
    refine ⟨((clockM B X - clockM B S0) % (2 * manyN B)).toNat, List.mem_range.mpr (by omega), ?_⟩
    refine (it_of G h o ?_ e).symm
    rw [Int.toNat_of_nonneg c0, Int.add_emod, Int.emod_emod_of_dvd _ (Int.dvd_refl _), ← Int.add_emod, show clockM B S0 + (clockM B X - clockM B S0) = clockM B X by omega, Int.emod_eq_of_lt r0 r1]
theorem rd_nodup (G : GoodB B hi) (h : Ok B S0) : (rdL B S0).Nodup := by
  have hN := many_pos G
  unfold rdL
  rw [List.nodup_iff_pairwise_ne, List.pairwise_map]
  refine List.Pairwise.imp_of_mem (fun {i j} hi hj hij e => ?_) List.pairwise_lt_range
  have hj := List.mem_range.mp hj
  have e2 := it_it B S0 i (j - i)
  rw [show i + (j - i) = j by omega, ← e] at e2
  exact it_ne G (itB_ok G i h) (n := j - i) (by omega) (by omega) e2
theorem two_of {α : Type} [DecidableEq α] {l : List α} {a c : α} (nd : l.Nodup) (hac : a ≠ c) (h : ∀ x, x ∈ l ↔ x = a ∨ x = c) : l = [a, c] ∨ l = [c, a] := by
  match l, nd, h with
  | [], _, h => exact absurd ((h a).mpr (.inl rfl)) (by simp)
  | [x], _, h =>
    have h1 := (h a).mpr (.inl rfl)
    have h2 := (h c).mpr (.inr rfl)
    exact absurd ((List.mem_singleton.mp h1).trans (List.mem_singleton.mp h2).symm) hac
  | [x, y], nd, h =>
    have hxy : x ≠ y := by
      intro e
      rw [e] at nd
      simp at nd
    rcases (h x).mp (by simp) with rfl | rfl <;> rcases (h y).mp (by simp) with rfl | rfl
    · exact absurd rfl hxy
    · exact .inl rfl
    · exact .inr rfl
    · exact absurd rfl hxy
  | x :: y :: z :: t, nd, h =>
    have hxy : x ≠ y := fun e => by rw [e] at nd; simp at nd
    have hxz : x ≠ z := fun e => by rw [e] at nd; simp at nd
    have hyz : y ≠ z := fun e => by rw [e] at nd; simp at nd
    rcases (h x).mp (by simp) with rfl | rfl <;> rcases (h y).mp (by simp) with rfl | rfl <;> rcases (h z).mp (by simp) with rfl | rfl
    all_goals first | exact absurd rfl hxy | exact absurd rfl hxz | exact absurd rfl hyz
theorem up_ex (G : GoodB B hi) (h : Ok B S0) {R : List Int} (hR : Stands B R) : ∃ X, Ok B X ∧ up X ∧ X.1 = R ∧ signsM B X = signsM B S0 := by
  obtain ⟨l, o⟩ := signs_okM G h
  obtain ⟨T, oT, uT, cT, _, eT⟩ := signs_exM G l o
  have m := (ups_stn G oT uT cT).mem_iff.mpr (stn_mem G hR)
  obtain ⟨X, hX, e⟩ := List.mem_map.mp m
  unfold upsL at hX
  obtain ⟨j, hj, rfl⟩ := List.mem_map.mp hX
  have hj := List.mem_range.mp hj
  exact ⟨_, itB_ok G j oT, it_up G oT uT cT (by omega), e, by rw [signs_it G oT, eT]⟩
theorem rd_two (G : GoodB B hi) (h : Ok B S0) {R : List Int} (hR : Stands B R) : ∃ A C, ((rdL B S0).filter fun T => T.1 == R) = [A, C] ∧ A.2 = negL C.2 := by
  obtain ⟨X, oX, uX, eX, sX⟩ := up_ex G h hR
  have hne : X ≠ negS X := fun e => by
    have u := uX
    rw [e] at u
    have d := neg_face0 (S := X) uX
    rw [show (negS X).2[0]? = some 1 from u] at d
    cases d
  have hm : ∀ T, T ∈ ((rdL B S0).filter fun T => T.1 == R) ↔ T = X ∨ T = negS X := fun T => by
    rw [List.mem_filter, rd_mem G h]
    constructor
    · rintro ⟨⟨oT, eT⟩, e1⟩
      have e1 : T.1 = R := by simpa using e1
      have go : ∀ {T : List Int × List Int}, Ok B T → up T → T.1 = R → signsM B T = signsM B S0 → T = X := fun {T} oT uT e1 eT => by
        obtain ⟨a, b⟩ := T
        obtain ⟨c, d⟩ := X
        have e1 : a = R := e1
        have eX : c = R := eX
        subst e1
        subst eX
        have es : sg B c b = sg B c d := by
          have z1 := sg_up (B := B) (T := (c, b)) uT
          have z2 := sg_up (B := B) (T := (c, d)) uX
          exact z1.trans ((eT.trans sX.symm).trans z2.symm)
        rw [faces_uniq oT oX uT uX es]
      rcases face0 G oT with u | u
      · exact .inl (go oT u e1 eT)
      · refine .inr ?_
        have z := go oT.neg (neg_face0 (S := T) u) e1 (by rw [signs_neg G oT, eT])
        rw [← z, negS_neg]
    · have eR : ∀ T : List Int × List Int, T.1 = R → (T.1 == R) = true := fun T e => by rw [e]; exact beq_self_eq_true R
      rintro (rfl | rfl)
      · exact ⟨⟨oX, sX⟩, eR _ eX⟩
      · exact ⟨⟨oX.neg, by rw [signs_neg G oX, sX]⟩, eR _ eX⟩
  rcases two_of (nodup_filter _ (rd_nodup G h)) hne hm with e | e
  · exact ⟨_, _, e, by show X.2 = negL (negL X.2); rw [negL_neg]⟩
  · exact ⟨_, _, e, rfl⟩
theorem rd_keys (G : GoodB B hi) (h : Ok B S0) {ks : List (List Int)} (nd : ks.Nodup) (hm : ∀ M, M ∈ ks ↔ ∃ T ∈ rdL B S0, T.1 = M) : ks.Perm (stnL B) := by
  refine (List.perm_ext_iff_of_nodup nd (stnL_nodup G)).mpr fun R => ?_
  rw [hm R]
  constructor
  · rintro ⟨T, hT, rfl⟩
    exact stn_mem G ((rd_mem G h).mp hT).1.st
  · intro hR
    obtain ⟨X, oX, _, eX, sX⟩ := up_ex G h (stn_stands G hR)
    exact ⟨X, (rd_mem G h).mpr ⟨oX, sX⟩, eX⟩
theorem stn_sorted (G : GoodB B hi) : ((stnL B).map rowT).Pairwise fun a b => Srt.dLe a b = true := by
  rw [List.pairwise_map]
  exact (stn_lex G B.length (Nat.le_refl _)).imp fun ⟨_, h⟩ => lex_dle h
/-- at which clocks everybody turns -/
def stillL (B : List (List Int)) (S : List Int × List Int) (n : Nat) : List Int := ((List.range n).filter fun k => (moverO B (itB B k S).1 (itB B k S).2).isNone).map fun (k : Nat) => (clockM B S + (k : Int)) % (2 * manyN B)
theorem still_perm (G : GoodB B hi) (h : Ok B S) : (stillL B S (2 * (manyN B).toNat)).Perm [manyN B - 1, 2 * manyN B - 1] := by
  have hN := many_pos G
  have ec : ∀ k : Nat, (clockM B S + (k : Int)) % (2 * manyN B) = clockM B (itB B k S) := fun k => (clock_it G h k).symm
  refine (List.perm_ext_iff_of_nodup ?_ ?_).mpr fun c => ?_
  · unfold stillL
    rw [List.nodup_iff_pairwise_ne, List.pairwise_map]
    refine List.Pairwise.imp_of_mem (fun {i j} hi hj hij e => ?_) (List.Pairwise.filter _ List.pairwise_lt_range)
    have hj := List.mem_range.mp (List.mem_filter.mp hj).1
    rw [ec, ec] at e
    have e2 := it_it B S i (j - i)
    rw [show i + (j - i) = j by omega] at e2
    have e3 : itB B i S = itB B j S := uniq G (itB_ok G i h) (itB_ok G j h) e (by rw [signs_it G h, signs_it G h])
    rw [← e3] at e2
    exact it_ne G (itB_ok G i h) (n := j - i) (by omega) (by omega) e2
  · rw [List.nodup_cons]
    exact ⟨by rw [List.mem_singleton]; omega, List.pairwise_singleton _ _⟩
  · unfold stillL
    rw [List.mem_map]
    have iff2 : c ∈ [manyN B - 1, 2 * manyN B - 1] ↔ (c = manyN B - 1 ∨ c = 2 * manyN B - 1) := by simp
    rw [iff2]
    constructor
    · rintro ⟨k, hk, rfl⟩
      obtain ⟨_, hk⟩ := List.mem_filter.mp hk
      rw [ec]
      exact (mov_iff G (itB_ok G k h)).mp (Option.isNone_iff_eq_none.mp hk)
    · intro hc
      have c0 := Int.emod_nonneg (c - clockM B S) (b := 2 * manyN B) (by omega)
      have c1 := Int.emod_lt_of_pos (c - clockM B S) (b := 2 * manyN B) (by omega)
      have e1 : (clockM B S + ((((c - clockM B S) % (2 * manyN B)).toNat : Nat) : Int)) % (2 * manyN B) = c := by
        rw [Int.toNat_of_nonneg c0, Int.add_emod, Int.emod_emod_of_dvd _ (Int.dvd_refl _), ← Int.add_emod, show clockM B S + (c - clockM B S) = c by omega, Int.emod_eq_of_lt (by omega) (by omega)]
      refine ⟨((c - clockM B S) % (2 * manyN B)).toNat, List.mem_filter.mpr ⟨List.mem_range.mpr (by omega), ?_⟩, e1⟩
      refine Option.isNone_iff_eq_none.mpr ((mov_iff G (itB_ok G _ h)).mpr ?_)
      rw [← ec, e1]
      exact hc
theorem still_sorted : ([manyN B - 1, 2 * manyN B - 1].map PyData.int).Pairwise (fun a b => Srt.dLe a b = true) ∨ manyN B < 1 := by
  by_cases h : manyN B < 1
  · exact .inr h
  · refine .inl ?_
    rw [List.map_cons, List.map_cons, List.map_nil, List.pairwise_cons]
    refine ⟨fun a ha => ?_, List.pairwise_singleton _ _⟩
    rw [List.mem_singleton.mp ha]
    exact int_dle (by omega)
theorem at_begin (G : GoodB B hi) (h : Ok B S) {T : List Int × List Int} (oT : Ok B T) (uT : up T) (cT : clk B T.1 T.2 = 0) (sT : sg B T.1 T.2 = signsM B S) : T = itB B ((0 - clockM B S) % (2 * manyN B)).toNat S := by
  have hN := many_pos G
  have c0 := Int.emod_nonneg (0 - clockM B S) (b := 2 * manyN B) (by omega)
  refine it_of G h oT ?_ (by rw [← sg_up uT]; exact sT)
  rw [Int.toNat_of_nonneg c0, clock_up uT, cT, Int.add_emod, Int.emod_emod_of_dvd _ (Int.dvd_refl _), ← Int.add_emod, show clockM B S + (0 - clockM B S) = 0 by omega]
  rfl
theorem rd_get {i : Nat} (hi : i < 2 * (manyN B).toNat) : (rdL B S)[i]? = some (itB B i S) := by
  unfold rdL
  rw [List.getElem?_map, List.getElem?_range hi]; rfl
theorem rd_len : (rdL B S).length = 2 * (manyN B).toNat := by unfold rdL; rw [List.length_map, List.length_range]
end
end Af
namespace Af
open PySem PySem.Spec PyProof.Rows L2
section
variable {P : Program} {w : World} {K : PySem.W.Frag} {mg : Str → Option Value} {base : Heap}
/-! ones -/
def spOnes (K : PySem.W.Frag) : Sp := fun vs H Q _ => ∃ (b : V) (bd : PyData) (B : List (List Int)) (hi : Int), vs = [b] ∧ Dp K H b bd ∧ BookD bd B ∧ Tabs B hi ∧ hi ≤ 100 ∧ B.length ≤ 100 ∧
  ∀ (p : Addr) (H' : Hp), H p = none → Same H H' → NewD K H H' (.ref p) (bookL (onesW B)) → Q (.ref p) H'
theorem flat_rep (n : Nat) (v : V) : (List.replicate n [v]).flatten = List.replicate n v := by
  induction n with
  | zero => rfl
  | succ n ih => rw [List.replicate_succ, List.replicate_succ, List.flatten_cons, ih]; rfl
theorem ok_ones {f : Addr} {fd : FuncData} {k : Nat} (T : Bl mg) (F : Fun K "ones" "ones" sOnes f fd) : FnOk P w K mg base CX0 (k + 1) f fd ["book"] (spOnes K) := by
  refine F.ok scOnes (fun vs H Q E h => ?_) (fun cdv A outer s H vs Q E hr h => ?_)
  · obtain ⟨_, _, _, _, rfl, _⟩ := h; rfl
  obtain ⟨b, bd, B, hi, rfl, hb, hB, hT, hhi, hlen, q⟩ := h
  have nd := scOnes.nd
  have hu := hr.units
  refine ⟨_, pss_one (ps_ret (pe_lc (own := [("table", 1)]) (g := gName 1) (tt := tYes) rfl nd (pi_seq (pv 0))
      (blkOk_by (N := ["book", "table"]) (sc := defScope sOnes) (by decide +kernel))
      (fun _ _ _ _ _ => pg_name (i := 1) nd rfl (.inl rfl)) (fun _ _ _ _ _ => pts_nil)
      (fun _ _ _ _ _ => pe_op op_rep (pe_lst (pa_cons pe_int pa_nil)) (pe_callB (cr_maxS (K := K) rfl hu) rfl T.max bMax (pa_cons (pv 1) pa_nil))))), ?_⟩
  obtain ⟨ds, hs, hrs⟩ := hB
  obtain ⟨a, xs, bb, rfl, hbb, hxa⟩ := dp_seqB hb hs
  have lx := (dps_len hxa).trans (rows_len hrs)
  refine ⟨_, rfl, a, xs, bb, rfl, hbb, fun J wJ => fun D nD => ?_⟩
  have sD := same_new (o := .lst []) nD
  refine lc_it wJ (fun i H3 => ∃ vs, H3 D = some (.lst vs) ∧ DpAll K (hid (fresh H H3) D) vs (((onesW B).take i).map rowL) ∧ Same H H3) ⟨[], upd_same, by rw [List.take_zero]; exact .nil, sD⟩ (fun i H3 _ hP => ?_) (fun i v H3 H4 hi hP hy => ?_) (fun H3 hP => ?_)
  · obtain ⟨_, _, _, sm⟩ := hP
    exact hbb.up sm
  · obtain ⟨rfl, e1⟩ := hy
    obtain ⟨vs, hD, hN, sm⟩ := hP
    have hiB : i < B.length := by omega
    have e2 : B[i]? = some B[i] := List.getElem?_eq_getElem hiB
    obtain ⟨dr, e3, hrow⟩ := rows_get hrs e2
    obtain ⟨v', e4, hv⟩ := dps_get hxa e3
    rw [e1] at e4; cases e4
    obtain ⟨ra, rfl, hra⟩ := row_at hv hrow
    have hm : B[i] ∈ B := List.getElem_mem hiB
    have hf := hT.full _ hm
    have hmx := hT.pos _ hm _ (mxR_mem hf)
    refine ⟨rfl, yesS ?_⟩
    refine ⟨by show 1 ≤ sizeLine; decide, fun l nl => ?_⟩
    have sl := same_new (o := .lst [.int 1]) nl
    refine ⟨_, rfl, ra, _, rfl, hf, sq_mono (sm.trans sl) hra, ?_⟩
    refine ⟨l, mxR B[i], _, rfl, rfl, upd_same, by omega, by omega, ?_, fun p np => ?_⟩
    · have := sizeLine_eq
      show 1 * (mxR B[i]).toNat ≤ sizeLine
      omega
    rw [flat_rep]
    have sp := same_new (o := .lst (List.replicate (mxR B[i]).toNat (V.int 1))) np
    refine ⟨_, sp _ _ (sl _ _ hD), ?_, _, upd_same, ?_, fun c o ec => ?_⟩
    · have h4 := dps_len hN
      rw [h4, List.length_map, List.length_take]
      exact small1000 (by omega)
    · rw [List.take_add_one, onesW_get e2, List.map_append]
      refine acc_step hN (by rw [hD]; exact fun z => nomatch z) sm (sl.trans sp) (new_lst (sl.free np) upd_same ?_)
      have := dps_ints (K := K) (H := fresh H4 (upd (upd H4 l (.lst [.int 1])) p (.lst (List.replicate (mxR B[i]).toNat (V.int 1))))) (List.replicate (mxR B[i]).toNat 1)
      rw [List.map_replicate] at this
      exact this
    · rw [upd_ne (ne_of_none ec nD)]; exact sp _ _ (sl _ _ (sm _ _ ec))
  · obtain ⟨vs, hD, hN, sm⟩ := hP
    rw [lx, ← onesW_len B, List.take_length] at hN
    exact q _ _ nD sm (new_lst nD hD (acc_done hN))
/-! running_sums -/
def spRun (K : PySem.W.Frag) : Sp := fun vs H Q _ => ∃ (b wv : V) (bd wd : PyData) (B W : List (List Int)) (hi : Int), vs = [b, wv] ∧ Dp K H b bd ∧ BookD bd B ∧ Dp K H wv wd ∧ BookD wd W ∧ Tabs B hi ∧ hi ≤ 100 ∧ B.length ≤ 100 ∧ WOk B W ∧
  ∀ (p : Addr) (H' : Hp), H p = none → Same H H' → NewD K H H' (.ref p) (rowsD B W) → Q (.ref p) H'
theorem ok_run {f : Addr} {fd : FuncData} {k : Nat} (T : Bl mg) (Mrev : mg "reversed" = none) (F : Fun K "running_sums" "running_sums" sRunningSums f fd) : FnOk P w K mg base CX0 (k + 1) f fd ["book", "weights"] (spRun K) := by
  refine F.ok scRunningSums (fun vs H Q E h => ?_) (fun cdv A outer s H vs Q E hr h => ?_)
  · obtain ⟨_, _, _, _, _, _, _, rfl, _⟩ := h; rfl
  obtain ⟨b, wv, bd, wd, B, W, hi, rfl, hb, hB, hw, hW, hT, hhi, hlen, hOk, q⟩ := h
  have nd := scRunningSums.nd
  have hu := hr.units
  refine ⟨_, pss_cons (ps_set (i := 2) nd rfl (.inl rfl) (pe_lst pa_nil))
    (pss_cons (ps_for PassesOwn.never rfl (pi_revR rfl Mrev (prg_1 rfl T.range (pe_callB call_len_seq rfl T.len bLen (pa_cons (pv 0) pa_nil)))) (pg_name (i := 3) nd rfl (.inl rfl))
      (pss_cons (ps_set (i := 4) nd rfl (.inl rfl) (pe_lst (pa_cons pe_int pa_nil)))
      (pss_cons (ps_for PassesOwn.never rfl (pi_range2 rfl T.range (pa_cons pe_int (pa_cons (pe_op op_add (pe_callB (cr_maxS (K := K) rfl hu) rfl T.max bMax (pa_cons (pe_ix ix_seq (pv 0) (pv 3) (fun _ _ => rfl)) pa_nil)) pe_int) pa_nil))) (pg_name (i := 5) nd rfl (.inl rfl))
        (C8.pss_cut (ps_set (i := 6) nd rfl (.inl rfl) (pe_ifExp (pt_cmpR op_gt (pe_callB call_len_seq rfl T.len bLen (pa_cons (pv 2) pa_nil)) pe_int (nomark _))
            (pe_ix ix_list (pe_ix ix_list (pv 2) (pe_un un_neg pe_int) (fun _ _ => rfl)) (pe_ix ix_seq (pe_ix ix_seq (pv 0) (pe_op op_add (pv 3) pe_int) (fun _ _ => rfl)) (pe_op op_sub (pv 5) pe_int) (fun _ _ => rfl)) (fun _ _ => rfl)) pe_int))
        (pss_one (ps_expr (pe_bm PySem.F.plainAttrs_list PySem.F.slot_list_append PySem.F.type_list_append mt_append (pv 4) (pa_cons (pe_op op_add (pe_ix ix_list (pv 4) (pe_un un_neg pe_int) (fun _ _ => rfl)) (pe_op op_mul (pe_ix ix_seq (pe_ix ix_seq (pv 1) (pv 3) (fun _ _ => rfl)) (pe_op op_sub (pv 5) pe_int) (fun _ _ => rfl)) (pv 6))) pa_nil))))))
      (pss_one (ps_expr (pe_bm PySem.F.plainAttrs_list PySem.F.slot_list_append PySem.F.type_list_append mt_append (pv 2) (pa_cons (pv 4) pa_nil)))))))
    (pss_one (ps_ret (pe_revL (pv 2))))), ?_⟩
  refine ⟨by show 0 ≤ sizeLine; decide, fun ro nro => ?_⟩
  have s0 := same_new (o := .lst []) nro
  obtain ⟨a, xs, rfl, ha, hxl⟩ := book_len (dp_up hb s0) hB
  refine ⟨_, rfl, a, xs, rfl, ha, _, rfl, by omega, by omega, by omega, by omega, ?_⟩
  have en : (((xs.length : Nat) : Int) - 0).toNat = B.length := by omega
  rw [en]
  refine for_it walk_itc (fun i σ H3 => ∃ (y3 y4 y5 y6 : Option V) (vs : List V), σ = [some (.ref a), some wv, some (.ref ro), y3, y4, y5, y6] ∧ H3 ro = some (.lst vs) ∧ DpAll K (hid (fresh H H3) ro) vs ((List.range i).map fun m => rowL (rowW B W (B.length - 1 - m))) ∧ Same H H3)
    ⟨none, none, none, none, [], rfl, upd_same, .nil, s0⟩ (fun _ _ _ _ _ => trivial) (fun i x σ H3 H4 hi3 hP hy => ?_) (fun σ H3 hP => ?_)
  · obtain ⟨y3, y4, y5, y6, vs, rfl, hro, hvs, sm⟩ := hP
    obtain ⟨rfl, rfl⟩ := hy
    have hl := dps_len hvs
    rw [List.length_map, List.length_range] at hl
    -- the climber
    obtain ⟨c, hc⟩ : ∃ c, c = B.length - 1 - i := ⟨_, rfl⟩
    have ec : (0 : Int) + ((B.length : Nat) : Int) - 1 + ((i : Nat) : Int) * -1 = ((c : Nat) : Int) := by omega
    show gName 3 (V.int ((0 : Int) + ((B.length : Nat) : Int) - 1 + ((i : Nat) : Int) * -1)) _ _ _
    rw [ec]
    have hcl : c < B.length := by omega
    have er : B[c]? = some B[c] := List.getElem?_eq_getElem hcl
    have hrm : B[c] ∈ B := List.getElem_mem hcl
    have hrf := hT.full _ hrm
    have hmx := hT.pos _ hrm _ (mxR_mem hrf)
    obtain ⟨ww, ew, hwl, hwb⟩ := hOk.row c _ er
    refine ⟨by show 1 ≤ sizeLine; decide, fun rw' nrw => ?_⟩
    have s4 := same_new (o := .lst [.int 0]) nrw
    have nror : rw' ≠ ro := fun z => by rw [z, hro] at nrw; cases nrw
    obtain ⟨a', xs', ra, ea, h1, h2, h3⟩ := book_row (dp_up hb (sm.trans s4)) hB er
    cases ea
    refine ⟨_, rfl, _, rfl, ix_of h1 (atI_nat (j := c) h2) ?_⟩
    refine ⟨ra, _, rfl, hrf, h3, ?_⟩
    refine ⟨_, _, rfl, rfl, _, _, rfl, ⟨by omega, by omega, by omega, by omega⟩, ?_⟩
    have en2 : (mxR B[c] + 1 - 1).toNat = (mxR B[c]).toNat := by omega
    rw [en2]
    refine for_range (lo := 1) (n := (mxR B[c]).toNat) (fun j σ H5 => ∃ (y5 y6 : Option V), σ = [some (.ref a), some wv, some (.ref ro), some (.int (c : Nat)), some (.ref rw'), y5, y6] ∧ H5 rw' = some (.lst (((List.range (j + 1)).map (rowF B W c)).map V.int)) ∧ Same H4 H5)
      ⟨_, _, rfl, upd_same, s4⟩ (fun j σ H5 hj hP5 => ?_) (fun σ H5 hP5 => ?_)
    · obtain ⟨z5, z6, rfl, hrw, sm5⟩ := hP5
      have sH5 := sm.trans sm5
      have hro5 := sm5 _ _ hro
      have hjw : j < ww.length := by omega
      have ewj : ww[j]? = some ww[j] := List.getElem?_eq_getElem hjw
      have ej : (1 : Int) + (j : Nat) - 1 = ((j : Nat) : Int) := by omega
      -- younger
      refine ⟨fun σ' H6 => σ' = [some (.ref a), some wv, some (.ref ro), some (.int (c : Nat)), some (.ref rw'), some (.int (1 + (j : Nat))), some (.int (yW (B.drop (c + 1)) (W.drop (c + 1)) j))] ∧ H6 = H5, ?_, ?_⟩
      · refine ⟨_, rfl, ro, _, rfl, .inl (SqL.of hro5), _, _, rfl, rfl, _, rfl, ?_⟩
        refine ite2 (fun e => ?_) (fun e => ?_)
        · have hi0 : 0 < i := by
            have z : (0 : Int) < ((vs.length : Nat) : Int) := of_decide_eq_true e
            omega
          have hc1 : c + 1 < B.length := by omega
          have er2 : B[c + 1]? = some B[c + 1] := List.getElem?_eq_getElem hc1
          have hw2 := hT.wide c _ _ er er2
          have hj2 : j < B[c + 1].length := by omega
          have ej2 : B[c + 1][j]? = some B[c + 1][j] := List.getElem?_eq_getElem hj2
          have hmm := mxR_ge (List.mem_of_getElem? ej2)
          have hmp := hT.pos _ (List.getElem_mem hc1) _ (List.mem_of_getElem? ej2)
          -- rows[-1]
          obtain ⟨vl, ev, dv⟩ := dps_get (i := i - 1) (d := rowL (rowW B W (c + 1))) hvs (by
            rw [List.getElem?_map, List.getElem?_range (by omega)]
            show some (rowL (rowW B W (B.length - 1 - (i - 1)))) = _
            rw [show B.length - 1 - (i - 1) = c + 1 by omega])
          obtain ⟨us, rfl⟩ : ∃ us, vs = us ++ [vl] := by
            refine ⟨vs.take (i - 1), ?_⟩
            have z : vs.take (i - 1 + 1) = vs.take (i - 1) ++ [vl] := by rw [List.take_add_one, ev]; rfl
            rw [← z, List.take_of_length_le (by omega)]
          obtain ⟨la, rfl, hla⟩ := row_at (dp_up dv ((hid_le.trans fresh_le).trans sm5)) (rowL_row _)
          have hlaL : SqL K H5 la ((rowW B W (c + 1)).map V.int) := by
            cases dp_up dv ((hid_le.trans fresh_le).trans sm5) with
            | lst g1 g2 => rw [dps_ints_inv g2] at g1; exact g1
          refine ⟨_, rfl, 1, rfl, ro, _, -1, _, rfl, rfl, SqL.of hro5, atI_last _ _, ?_⟩
          obtain ⟨a2, xs2, ra2, ea2, k1, k2, k3⟩ := book_row (dp_up hb sH5) hB er2
          cases ea2
          refine ⟨_, rfl, _, rfl, _, _, rfl, rfl, ?_⟩
          have ec1 : ((c : Nat) : Int) + 1 = ((c + 1 : Nat) : Int) := by omega
          show rIx K (V.ref a) (V.int (((c : Nat) : Int) + 1)) H5 _
          rw [ec1]
          refine ix_of k1 (atI_nat (j := c + 1) k2) ?_
          refine ⟨_, rfl, _, _, rfl, rfl, ?_⟩
          show rIx K (V.ref ra2) (V.int ((1 : Int) + (j : Nat) - 1)) H5 _
          rw [ej]
          refine ix_of k3 (atI_nat (j := j) (by rw [List.getElem?_map, ej2]; rfl)) ?_
          have em : B[c + 1][j] = ((B[c + 1][j].toNat : Nat) : Int) := by omega
          refine ⟨la, _, _, V.int (rowF B W (c + 1) B[c + 1][j].toNat), rfl, by rw [em]; rfl, hlaL, atI_nat (j := B[c + 1][j].toNat) ?_, ?_⟩
          · rw [List.getElem?_map, rowW_get er2 (by omega)]; rfl
          · refine ⟨?_, rfl⟩
            rw [yW_at er2 ej2]; rfl
        · have hi0 : i = 0 := by
            by_cases z : i = 0
            · exact z
            · exact absurd (decide_eq_true (show (0 : Int) < ((vs.length : Nat) : Int) by omega)) e
          have hcd : B.drop (c + 1) = [] := List.drop_eq_nil_of_le (by omega)
          refine ⟨?_, rfl⟩
          rw [hcd]; rfl
      · rintro σ' H6 ⟨rfl, rfl⟩
        obtain ⟨wa, wxs, wra, ewa, m1, m2, m3⟩ := book_row (dp_up hw sH5) hW ew
        cases ewa
        have hlr : (((List.range (j + 1)).map (rowF B W c)).map V.int) = ((List.range j).map (rowF B W c)).map V.int ++ [V.int (rowF B W c j)] := by
          rw [List.range_succ, List.map_append, List.map_append]; rfl
        refine ⟨_, rfl, .inl ⟨rfl, _, SqL.of hrw⟩, ?_⟩
        refine ⟨_, rfl, 1, rfl, rw', _, -1, _, rfl, rfl, SqL.of hrw, by rw [hlr]; exact atI_last _ _, ?_⟩
        refine ⟨_, rfl, _, rfl, ix_of m1 (atI_nat (j := c) m2) ?_⟩
        refine ⟨_, rfl, _, _, rfl, rfl, ?_⟩
        show rIx K (V.ref wra) (V.int ((1 : Int) + (j : Nat) - 1)) H6 _
        rw [ej]
        refine ix_of m3 (atI_nat (j := j) (by rw [List.getElem?_map, ewj]; rfl)) ?_
        refine ⟨_, rfl, _, _, rfl, rfl, .inl (hwb _ (List.getElem_mem hjw)), _, _, rfl, rfl, rw', _, _, rfl, rfl, hrw, ?_, ?_⟩
        · rw [List.length_map, List.length_map, List.length_range]; exact small1000 (by omega)
        refine ⟨_, _, rfl, ?_, fun c' o ec' => ?_⟩
        · rw [upd_same, List.range_succ (n := j + 1), List.map_append, List.map_append]
          show some (HO.lst (_ ++ [V.int (rowF B W c j + ww[j] * yW (B.drop (c + 1)) (W.drop (c + 1)) j)])) = some (HO.lst (_ ++ [V.int (rowF B W c (j + 1))]))
          rw [rowF_succ, wAt_get ew ewj]
        · rw [upd_ne (ne_of_none ec' nrw)]; exact sm5 _ _ ec'
    · obtain ⟨z5, z6, rfl, hrw, sm5⟩ := hP5
      have hro5 := sm5 _ _ hro
      refine ⟨_, rfl, .inl ⟨rfl, _, SqL.of hro5⟩, _, rfl, ro, _, _, rfl, rfl, hro5, ?_, ?_⟩
      · rw [hl]; exact small1000 (by omega)
      refine ⟨_, _, _, _, _, rfl, upd_same, ?_, fun c' o ec' => ?_⟩
      · rw [List.range_succ, List.map_append]
        refine acc_step hvs (by rw [hro]; exact fun z => nomatch z) sm sm5 ?_
        show NewD K H4 H5 (V.ref rw') (rowL (rowW B W (B.length - 1 - i)))
        rw [← hc]
        have hrow : rowW B W c = (List.range ((mxR B[c]).toNat + 1)).map (rowF B W c) := by unfold rowW; rw [er]; rfl
        rw [hrow]
        exact new_lst nrw hrw (new_ints _)
      · rw [upd_ne (ne_of_none ec' nro)]; exact sm5 _ _ (sm _ _ ec')
  · obtain ⟨y3, y4, y5, y6, vs, rfl, hro, hvs, sm⟩ := hP
    refine ⟨_, rfl, ro, _, rfl, SqL.of hro, fun p np => ?_⟩
    have sp := same_new (o := .lst vs.reverse) np
    refine q p _ (sm.free np) (sm.trans sp) (new_lst (sm.free np) upd_same ?_)
    rw [← rev_range (fun k => rowL (rowW B W k)) B.length]
    exact dps_rev (dps_up hvs (hid_le.trans (fresh_up sp)))
end
end Af
namespace Af
open PySem PySem.Spec PyProof.Rows L2
section
variable {P : Program} {w : World} {K : PySem.W.Frag} {mg : Str → Option Value} {base : Heap}
/-! length_of -/
def spLengthOf (K : PySem.W.Frag) : Sp := fun vs H Q _ => ∃ (b r : V) (c : Nat) (bd rd : PyData) (B : List (List Int)) (R : List Int) (n : Int), vs = [b, r, .int c] ∧ Dp K H b bd ∧ BookD bd B ∧ Dp K H r rd ∧ RowD rd R ∧ lenAt B R c = some n ∧ Q (.int n) H
theorem ok_length_of {f : Addr} {fd : FuncData} {k : Nat} (F : Fun K "length_of" "length_of" sLengthOf f fd) : FnOk P w K mg base CX0 (k + 1) f fd ["book", "rungs", "climber"] (spLengthOf K) := by
  refine F.ok scLengthOf (fun vs H Q E h => ?_) (fun cdv A outer s H vs Q E hr h => ?_)
  · obtain ⟨_, _, _, _, _, _, _, _, rfl, _⟩ := h; rfl
  obtain ⟨b, r, c, bd, rd, B, R, n, rfl, hb, hB, hr', hR, hl, q⟩ := h
  refine ⟨_, pss_cons (ps_if (pt_cmpR op_eq (pv 2) pe_int (nomark _)) (pss_one (ps_ret (pe_ix ix_seq (pe_ix ix_seq (pv 0) pe_int (fun _ _ => rfl)) pe_int (fun _ _ => rfl)))) pss_nil)
    (pss_one (ps_ret (pe_ix ix_seq (pe_ix ix_seq (pv 0) (pv 2) (fun _ _ => rfl)) (pe_op op_sub (pe_ix ix_seq (pv 1) (pe_op op_sub (pv 2) pe_int) (fun _ _ => rfl)) pe_int) (fun _ _ => rfl)))), ?_⟩
  refine ⟨_, rfl, rfl, _, rfl, ?_⟩
  refine ite2 (fun e => ?_) (fun e => ?_)
  · have e0 : c = 0 := by have := V.int.inj (of_decide_eq_true e); omega
    subst e0
    obtain ⟨row, e1, e2⟩ := lenAt_zero hl
    obtain ⟨a, xs, ra, rfl, h1, h2, h3⟩ := book_row hb hB e1
    exact ⟨_, rfl, ix_of h1 (atI_nat (j := 0) h2) (ix_of h3 (atI_nat (j := 0) (by rw [List.getElem?_map, e2]; rfl)) q)⟩
  · cases c with
    | zero => exact absurd (decide_eq_true rfl) e
    | succ c =>
      obtain ⟨row, r1, e1, e2, e3, e4⟩ := lenAt_succ hl
      obtain ⟨a, xs, ra, rfl, h1, h2, h3⟩ := book_row hb hB e1
      obtain ⟨sa, rfl, h4⟩ := row_at hr' hR
      have z1 : ((c + 1 : Nat) : Int) - 1 = (c : Nat) := by omega
      have z2 : r1 - 1 = (((r1 - 1).toNat : Nat) : Int) := by omega
      refine ⟨_, rfl, _, rfl, ix_of h1 (atI_nat (j := c + 1) h2) ?_⟩
      refine ⟨_, rfl, _, rfl, _, _, rfl, rfl, ?_⟩
      show rIx K (V.ref sa) (V.int (((c + 1 : Nat) : Int) - 1)) H _
      rw [z1]
      refine ix_of h4 (atI_nat (j := c) (by rw [List.getElem?_map, e2]; rfl)) ⟨_, _, rfl, rfl, ?_⟩
      show rIx K (V.ref ra) (V.int (r1 - 1)) H _
      rw [z2]
      exact ix_of h3 (atI_nat (by rw [List.getElem?_map, e4]; rfl)) q
/-! _law_ladder -/
theorem ok_ladder {f : Addr} {fd : FuncData} {k : Nat} (F : Fun K "_law_ladder" "_law_ladder" sLawLadder f fd) : FnOk P w K mg base CX0 (k + 1) f fd ["_law_shelf", "_law_rungs", "_law_who"] (spLengthOf K) := by
  refine F.ok scLawLadder (fun vs H Q E h => ?_) (fun cdv A outer s H vs Q E hr h => ?_)
  · obtain ⟨_, _, _, _, _, _, _, _, rfl, _⟩ := h; rfl
  obtain ⟨b, r, c, bd, rd, B, R, n, rfl, hb, hB, hr', hR, hl, q⟩ := h
  refine ⟨_, pss_one (ps_ret (pe_ifExp (pt_cmpR op_eq (pv 2) pe_int (nomark _)) (pe_ix ix_seq (pe_ix ix_seq (pv 0) pe_int (fun _ _ => rfl)) pe_int (fun _ _ => rfl))
    (pe_ix ix_seq (pe_ix ix_seq (pv 0) (pv 2) (fun _ _ => rfl)) (pe_op op_sub (pe_ix ix_seq (pv 1) (pe_op op_sub (pv 2) pe_int) (fun _ _ => rfl)) pe_int) (fun _ _ => rfl)))), ?_⟩
  refine ⟨_, rfl, rfl, _, rfl, ?_⟩
  refine ite2 (fun e => ?_) (fun e => ?_)
  · have e0 : c = 0 := by have := V.int.inj (of_decide_eq_true e); omega
    subst e0
    obtain ⟨row, e1, e2⟩ := lenAt_zero hl
    obtain ⟨a, xs, ra, rfl, h1, h2, h3⟩ := book_row hb hB e1
    exact ⟨_, rfl, ix_of h1 (atI_nat (j := 0) h2) (ix_of h3 (atI_nat (j := 0) (by rw [List.getElem?_map, e2]; rfl)) q)⟩
  · cases c with
    | zero => exact absurd (decide_eq_true rfl) e
    | succ c =>
      obtain ⟨row, r1, e1, e2, e3, e4⟩ := lenAt_succ hl
      obtain ⟨a, xs, ra, rfl, h1, h2, h3⟩ := book_row hb hB e1
      obtain ⟨sa, rfl, h4⟩ := row_at hr' hR
      have z1 : ((c + 1 : Nat) : Int) - 1 = (c : Nat) := by omega
      have z2 : r1 - 1 = (((r1 - 1).toNat : Nat) : Int) := by omega
      refine ⟨_, rfl, _, rfl, ix_of h1 (atI_nat (j := c + 1) h2) ?_⟩
      refine ⟨_, rfl, _, rfl, _, _, rfl, rfl, ?_⟩
      show rIx K (V.ref sa) (V.int (((c + 1 : Nat) : Int) - 1)) H _
      rw [z1]
      refine ix_of h4 (atI_nat (j := c) (by rw [List.getElem?_map, e2]; rfl)) ⟨_, _, rfl, rfl, ?_⟩
      show rIx K (V.ref ra) (V.int (r1 - 1)) H _
      rw [z2]
      exact ix_of h3 (atI_nat (by rw [List.getElem?_map, e4]; rfl)) q
end
end Af
namespace Af
open PySem PySem.Spec PyProof.Rows L2
section
variable {P : Program} {w : World} {K : PySem.W.Frag} {mg : Str → Option Value} {base : Heap}
/-! lengths -/
def spLengths (K : PySem.W.Frag) : Sp := fun vs H Q _ => ∃ (b r : V) (bd rd : PyData) (B : List (List Int)) (R L : List Int), vs = [b, r] ∧ Dp K H b bd ∧ BookD bd B ∧ Dp K H r rd ∧ RowD rd R ∧ B.length ≤ 1000 ∧ L.length = B.length ∧
  (∀ c n, L[c]? = some n → lenAt B R c = some n) ∧ ∀ (p : Addr) (H' : Hp), H p = none → Same H H' → H' p = some (.tup (L.map V.int)) → Q (.ref p) H'
theorem ok_lengths {f fL : Addr} {fd fdL : FuncData} {k : Nat} (T : Bl mg) (F : Fun K "lengths" "lengths" sLengths f fd) (DL : Df K mg "length_of" sLengthOf ["book", "rungs", "climber"] fL fdL)
    (GL : FnOk P w K mg base CX0 k fL fdL ["book", "rungs", "climber"] (spLengthOf K)) : FnOk P w K mg base CX0 (k + 1) f fd ["book", "standing"] (spLengths K) := by
  refine F.ok scLengths (fun vs H Q E h => ?_) (fun cdv A outer s H vs Q E hr h => ?_)
  · obtain ⟨_, _, _, _, _, _, _, rfl, _⟩ := h; rfl
  obtain ⟨b, r, bd, rd, B, R, L, rfl, hb, hB, hr', hR, hlen, hL, hl, q⟩ := h
  have nd := scLengths.nd
  refine ⟨_, pss_one (ps_ret (pe_callTy call_tuple_of rfl T.tuple bTuple (pa_cons
    (pe_lc (own := [("climber", 2)]) (g := gName 2) (tt := tYes) rfl nd (pi_range1 rfl T.range (pa_cons (pe_callB call_len_seq rfl T.len bLen (pa_cons (pv 0) pa_nil)) pa_nil))
      (blkOk_by (N := ["book", "standing", "climber"]) (sc := defScope sLengths) (by decide +kernel))
      (fun _ _ _ _ _ => pg_name (i := 2) nd rfl (.inl rfl)) (fun _ _ _ _ _ => pts_nil) (fun _ _ _ _ _ => pe_do DL GL hr rfl (pa_cons (pv 0) (pa_cons (pv 1) (pa_cons (pv 2) pa_nil))))) pa_nil))), ?_⟩
  obtain ⟨a, xs, rfl, ha, hxl⟩ := book_len hb hB
  refine ⟨_, rfl, a, xs, rfl, ha, _, rfl, by omega, by omega, fun D nD => ?_⟩
  have sD := same_new (o := .lst []) nD
  have en : ((xs.length : Nat) : Int).toNat = B.length := by omega
  rw [en]
  refine lc_range (lo := 0) (n := B.length) (fun i H3 => H3 D = some (.lst ((L.take i).map V.int)) ∧ Same H H3) ⟨upd_same, sD⟩ (fun i H3 hi hP => ?_) (fun H3 hP => ?_)
  · obtain ⟨hD, sm⟩ := hP
    have hiL : i < L.length := by omega
    have e1 : L[i]? = some L[i] := List.getElem?_eq_getElem hiL
    refine ⟨rfl, yesS ?_⟩
    refine ⟨_, rfl, _, rfl, _, rfl, _, _, i, bd, rd, B, R, _, ?_, dp_up hb sm, hB, dp_up hr' sm, hR, hl i _ e1, ?_⟩
    · show [V.ref a, r, V.int (0 + (i : Int))] = _
      rw [Int.zero_add]
    · refine ⟨_, hD, ?_, ?_, fun c o ec => ?_⟩
      · rw [List.length_map, List.length_take]
        exact small1000 (by omega)
      · rw [upd_same, List.take_add_one, e1, List.map_append]; rfl
      · rw [upd_ne (ne_of_none ec nD)]; exact sm _ _ ec
  · obtain ⟨hD, sm⟩ := hP
    rw [← hL, List.take_length] at hD
    refine ⟨D, _, rfl, .inl ⟨SqL.of hD, fun p np => ?_⟩⟩
    exact q p _ (sm.free np) (sm.trans (same_new np)) upd_same
end
end Af
namespace Af
open PySem PySem.Spec PyProof.Rows L2
section
variable {P : Program} {w : World} {K : PySem.W.Frag} {mg : Str → Option Value} {base : Heap}
/-! passed -/
def spPassed (K : PySem.W.Frag) : Sp := fun vs H Q _ => ∃ (a : Addr) (rl : List Int) (l r f : Int), vs = [.ref a, .int l, .int r, .int f] ∧ Sq K H a (rl.map V.int) ∧ 1 ≤ r ∧ r ≤ l ∧ l.toNat < rl.length ∧ Q (.int (pasL rl l r f)) H
theorem sq_at {K : PySem.W.Frag} {H : Hp} {a : Addr} {rl : List Int} {i : Int} {Q : VK} (h : Sq K H a (rl.map V.int)) (h0 : 0 ≤ i) (h1 : i.toNat < rl.length) (q : Q (.int (rl[i.toNat]?.getD 0)) H) : rIx K (.ref a) (.int i) H Q := by
  have e : i = ((i.toNat : Nat) : Int) := by omega
  have e2 : rl[i.toNat]? = some (rl[i.toNat]?.getD 0) := by rw [List.getElem?_eq_getElem h1]; rfl
  rw [e]
  exact ix_of h (atI_nat (j := i.toNat) (by rw [List.getElem?_map, e2]; rfl)) q
theorem ok_passed {f : Addr} {fd : FuncData} {k : Nat} (F : Fun K "passed" "passed" sPassed f fd) : FnOk P w K mg base CX0 (k + 1) f fd ["row", "length", "rung", "face"] (spPassed K) := by
  refine F.ok scPassed (fun vs H Q E h => ?_) (fun cdv A outer s H vs Q E hr h => ?_)
  · obtain ⟨_, _, _, _, _, rfl, _⟩ := h; rfl
  obtain ⟨a, rl, l, r, fc, rfl, hs, h1, h2, h3, q⟩ := h
  refine ⟨_, pss_one (ps_ret (pe_ifExp (pt_cmpR op_eq (pv 3) pe_int (nomark _)) (pe_ix ix_seq (pv 0) (pe_op op_sub (pv 2) pe_int) (fun _ _ => rfl))
    (pe_op op_sub (pe_ix ix_seq (pv 0) (pv 1) (fun _ _ => rfl)) (pe_ix ix_seq (pv 0) (pv 2) (fun _ _ => rfl))))), ?_⟩
  refine ⟨_, rfl, rfl, _, rfl, ?_⟩
  unfold pasL at q
  refine ite2 (fun e => ?_) (fun e => ?_)
  · have e1 : fc = 1 := V.int.inj (of_decide_eq_true e)
    rw [if_pos e1] at q
    exact ⟨_, rfl, _, rfl, _, _, rfl, rfl, sq_at hs (by omega) (by omega) q⟩
  · have e1 : ¬ fc = 1 := fun z => e (decide_eq_true (by rw [z]))
    rw [if_neg e1] at q
    exact ⟨_, rfl, _, rfl, sq_at hs (by omega) (by omega) ⟨_, rfl, _, rfl, sq_at hs (by omega) (by omega) ⟨_, _, rfl, rfl, q⟩⟩⟩
/-! rung_reached -/
def spReach (K : PySem.W.Frag) : Sp := fun vs H Q _ => ∃ (a : Addr) (rl : List Int) (l f c : Int), vs = [.ref a, .int l, .int f, .int c] ∧ Sq K H a (rl.map V.int) ∧ 1 ≤ l ∧ l ≤ 100 ∧ l.toNat < rl.length ∧ rl[0]?.getD 0 = 0 ∧ 0 ≤ c ∧ c < rl[l.toNat]?.getD 0 ∧
  ∀ (r : Int) (H' : Hp), Reach rl l f c r → Same H H' → Q (.int r) H'
theorem ok_reach {f fP : Addr} {fd fdP : FuncData} {k : Nat} (T : Bl mg) (F : Fun K "rung_reached" "rung_reached" sRungReached f fd)
    (DP : Df K mg "passed" sPassed ["row", "length", "rung", "face"] fP fdP) (GP : FnOk P w K mg base CX0 k fP fdP ["row", "length", "rung", "face"] (spPassed K)) : FnOk P w K mg base CX0 (k + 1) f fd ["row", "length", "face", "number"] (spReach K) := by
  refine F.ok scRungReached (fun vs H Q E h => ?_) (fun cdv A outer s H vs Q E hr h => ?_)
  · obtain ⟨_, _, _, _, _, rfl, _⟩ := h; rfl
  obtain ⟨a, rl, l, fc, c, rfl, hs, l1, l2, l3, h0, c0, c1, q⟩ := h
  have nd := scRungReached.nd
  refine ⟨_, pss_cons (ps_setLc (i := 4) (own := [("rung", 5)]) (g := gName 5) (tt := tTest (tOp (rI0 fun i j => .bl (decide (i ≤ j))) (tCall (spPassed K) [] E0 (tCons (tVar 0) (tCons (tVar 1) (tCons (tVar 5) (tCons (tVar 2) tNil))))) (tVar 3))) rfl nd rfl rfl (sw_true rfl rfl rfl (by decide +kernel))
      (pi_range2 rfl T.range (pa_cons pe_int (pa_cons (pe_op op_add (pv 1) pe_int) pa_nil)))
      (blkOk_by (N := ["row", "length", "face", "number", "rungs", "rung"]) (sc := defScope sRungReached) (by decide +kernel))
      (fun _ _ _ _ _ => pg_name (i := 5) nd rfl (.inl rfl))
      (fun _ _ _ _ _ => pts_one (pt_cmpR op_le (pe_do DP GP hr rfl (pa_cons (pv 0) (pa_cons (pv 1) (pa_cons (pv 5) (pa_cons (pv 2) pa_nil))))) (pv 3) (nomark _)))
      (fun _ _ _ _ _ => pv 5))
    (pss_one (ps_ret (pe_ifExp (pt_cmpR op_eq (pv 2) pe_int (nomark _)) (pe_ix ix_list (pv 4) (pe_un un_neg pe_int) (fun _ _ => rfl)) (pe_ix ix_list (pv 4) pe_int (fun _ _ => rfl))))), ?_⟩
  refine ⟨_, rfl, _, _, rfl, rfl, _, _, rfl, ⟨by omega, by omega, by omega, by omega⟩, fun D nD => ?_⟩
  have sD := same_new (o := .lst []) nD
  have en : (l + 1 - 1).toNat = l.toNat := by omega
  rw [en]
  refine lc_range (lo := 1) (n := l.toNat) (fun i H3 => H3 D = some (.lst ((okR rl l fc c i).map V.int)) ∧ Same H H3) ⟨upd_same, sD⟩ (fun i H3 hi hP => ?_) (fun H3 hP => ?_)
  · obtain ⟨hD, sm⟩ := hP
    refine ⟨rfl, ?_⟩
    refine ⟨_, rfl, _, rfl, _, rfl, _, rfl, a, rl, l, 1 + (i : Nat), fc, rfl, sq_mono sm hs, by omega, by omega, l3, _, rfl, _, _, rfl, rfl, _, rfl, ?_⟩
    refine ite2 (fun e => ?_) (fun e => ?_)
    · refine ⟨_, rfl, _, hD, ?_, ?_, fun c' o ec => ?_⟩
      · rw [List.length_map]; exact small1000 (by have := okR_len rl l fc c i; omega)
      · rw [upd_same, okR_succ, if_pos e, List.map_append]; rfl
      · rw [upd_ne (ne_of_none ec nD)]; exact sm _ _ ec
    · refine ⟨?_, sm⟩
      rw [hD, okR_succ, if_neg e, List.append_nil]
  · obtain ⟨hD, sm⟩ := hP
    refine ⟨_, rfl, rfl, _, rfl, ?_⟩
    refine ite2 (fun e => ?_) (fun e => ?_)
    · have e1 : fc = 1 := V.int.inj (of_decide_eq_true e)
      subst e1
      obtain ⟨L0, r, g1, g2⟩ := okR_up l1 h0 c0 c1
      rw [g1, List.map_append] at hD
      exact ⟨_, rfl, 1, rfl, D, _, -1, _, rfl, rfl, SqL.of hD, atI_last _ _, q r _ g2 sm⟩
    · have e1 : ¬ fc = 1 := fun z => e (decide_eq_true (by rw [z]))
      obtain ⟨r, L1, g1, g2⟩ := okR_down e1 l1 h0 c0 c1
      rw [g1] at hD
      exact ⟨_, rfl, D, _, 0, _, rfl, rfl, SqL.of hD, atI_nat (j := 0) rfl, q r _ g2 sm⟩
/-! sum_before, with ones -/
def spSumB (K : PySem.W.Frag) : Sp := fun vs H Q _ => ∃ (b wv st fv : V) (bd wd sd fcd : PyData) (B : List (List Int)) (R F : List Int) (hi : Int), vs = [b, wv, st, fv] ∧ Dp K H b bd ∧ BookD bd B ∧ Dp K H wv wd ∧ BookD wd (onesW B) ∧ Dp K H st sd ∧ RowD sd R ∧ Dp K H fv fcd ∧ RowD fcd F ∧
  Tabs B hi ∧ hi ≤ 100 ∧ B.length ≤ 100 ∧ OkP B R F ∧ ∀ H', Same H H' → Q (.int (clk B R F)) H'
theorem len_mx {B : List (List Int)} {R : List Int} {i : Nat} {n : Int} {row : List Int} (e : lenAt B R i = some n) (er : B[i]? = some row) : n ≤ mxR row := by
  obtain ⟨row', e1, e2⟩ := len_mem e
  rw [er] at e1; cases e1
  exact mxR_ge e2
theorem ok_sumb {f fR fL fP : Addr} {fd fdR fdL fdP : FuncData} {k : Nat} (T : Bl mg) (F : Fun K "sum_before" "sum_before" sSumBefore f fd)
    (DR : Df K mg "running_sums" sRunningSums ["book", "weights"] fR fdR) (GR : FnOk P w K mg base CX0 k fR fdR ["book", "weights"] (spRun K))
    (DL : Df K mg "lengths" sLengths ["book", "standing"] fL fdL) (GL : FnOk P w K mg base CX0 k fL fdL ["book", "standing"] (spLengths K))
    (DP : Df K mg "passed" sPassed ["row", "length", "rung", "face"] fP fdP) (GP : FnOk P w K mg base CX0 k fP fdP ["row", "length", "rung", "face"] (spPassed K)) :
    FnOk P w K mg base CX0 (k + 1) f fd ["book", "weights", "standing", "faces"] (spSumB K) := by
  refine F.ok scSumBefore (fun vs H Q E h => ?_) (fun cdv A outer s H vs Q E hr h => ?_)
  · obtain ⟨_, _, _, _, _, _, _, _, _, _, _, _, rfl, _⟩ := h; rfl
  obtain ⟨b, wv, st, fv, bd, wd, sd, fcd, B, R, Fc, hi, rfl, hb, hB, hw, hW, hst, hR, hfv, hF, hT, hhi, hlen, hO, q⟩ := h
  have nd := scSumBefore.nd
  refine ⟨_, pss_cons (ps_set (i := 4) nd rfl (.inl rfl) (pe_do DR GR hr rfl (pa_cons (pv 0) (pa_cons (pv 1) pa_nil))))
    (pss_cons (ps_set (i := 5) nd rfl (.inl rfl) (pe_do DL GL hr rfl (pa_cons (pv 0) (pa_cons (pv 2) pa_nil))))
    (pss_cons (ps_set (i := 6) nd rfl (.inl rfl) pe_int)
    (pss_cons (ps_set (i := 7) nd rfl (.inl rfl) pe_int)
    (pss_cons (ps_for PassesOwn.never rfl (pi_enum rfl T.enum (pa_cons (pv 4) pa_nil))
        (pg_tup rfl (pgs_cons (pg_name (i := 8) nd rfl (.inl rfl)) (pgs_cons (pg_name (i := 9) nd rfl (.inl rfl)) pgs_nil)))
      (pss_cons (ps_set (i := 10) nd rfl (.inl rfl) (pe_ix ix_seq (pv 2) (pv 8) (fun _ _ => rfl)))
      (pss_cons (ps_aug (i := 6) nd rfl (.inl rfl) (pe_op op_mul (pv 7) (pe_do DP GP hr rfl (pa_cons (pv 9) (pa_cons (pe_ix ix_seq (pv 5) (pv 8) (fun _ _ => rfl)) (pa_cons (pv 10) (pa_cons (pe_ix ix_seq (pv 3) (pv 8) (fun _ _ => rfl)) pa_nil)))))) ip_add)
      (pss_one (ps_aug (i := 7) nd rfl (.inl rfl) (pe_ix ix_seq (pe_ix ix_seq (pv 1) (pv 8) (fun _ _ => rfl)) (pe_op op_sub (pv 10) pe_int) (fun _ _ => rfl)) iop_mul)))))
    (pss_one (ps_ret (pv 6))))))), ?_⟩
  refine ⟨_, rfl, _, rfl, b, wv, bd, wd, B, onesW B, hi, rfl, hb, hB, hw, hW, hT, hhi, hlen, wok_ones hT, fun rp H1 nrp s1 hrp => ?_⟩
  have hlens : ∀ c n, (lensL B R)[c]? = some n → lenAt B R c = some n := fun c n e => by
    have hc : c < B.length := by rw [← lensL_len B R]; exact (List.getElem?_eq_some_iff.mp e).1
    rw [lensL_get hc] at e
    obtain ⟨m, r, g1, _⟩ := hO.st c hc
    rw [g1] at e ⊢; exact e
  refine ⟨_, rfl, _, rfl, b, st, bd, sd, B, R, lensL B R, rfl, dp_up hb s1, hB, dp_up hst s1, hR, by omega, lensL_len B R, hlens, fun lp H2 nlp s2 elp => ?_⟩
  have s12 := s1.trans s2
  have hrp2 : Dp K H2 (.ref rp) (rowsD B (onesW B)) := dp_up hrp.dp s2
  obtain ⟨xs, hxs, hxa⟩ : ∃ xs, SqL K H2 rp xs ∧ DpAll K H2 xs ((List.range B.length).map fun k => rowL (rowW B (onesW B) k)) := by
    cases hrp2 with
    | lst g1 g2 => exact ⟨_, g1, g2⟩
  have hxl := dps_len hxa
  rw [List.length_map, List.length_range] at hxl
  obtain ⟨ra, rfl, hra⟩ := row_at hst hR
  obtain ⟨fa, rfl, hfa⟩ := row_at hfv hF
  refine ⟨_, rfl, rp, xs, rfl, hxs, ?_⟩
  refine for_it (walk_enum (xs := xs)) (fun i σ H3 => ∃ (y8 y9 y10 : Option V), σ = [some b, some wv, some (.ref ra), some (.ref fa), some (.ref rp), some (.ref lp), some (.int (sumN (pas B R Fc) i)), some (.int 1), y8, y9, y10] ∧ Same H2 H3)
    ⟨none, none, none, rfl, Same.refl _⟩ (fun i σ H3 _ ⟨_, _, _, _, sm⟩ => sm.seq hxs) (fun i x σ H3 H4 hi3 hP hy => ?_) (fun σ H3 hP => ?_)
  · obtain ⟨y8, y9, y10, rfl, sm⟩ := hP
    obtain ⟨Tt, x1, x2, rfl, nT, rfl, e1, e2⟩ := hy
    have e1' : x1 = .int (i : Nat) := (Option.some.inj e1).symm
    subst e1'
    have hiB : i < B.length := by omega
    obtain ⟨l, r, g1, g2, r1, r2⟩ := hO.st i hiB
    obtain ⟨fc, g3, _⟩ := hO.fc i hiB
    have er : B[i]? = some B[i] := List.getElem?_eq_getElem hiB
    have hlm := len_mx g1 er
    have hL : (lensL B R)[i]? = some l := by rw [lensL_get hiB, g1]; rfl
    have sT := same_new (o := .tup [.int (i : Nat), x2]) nT
    have c4 := sm.trans sT
    have cH := s12.trans c4
    obtain ⟨dr, k1, k2⟩ := dps_get' hxa (show xs[i]? = some x2 from e2)
    rw [List.getElem?_map, List.getElem?_range hiB] at k1
    cases k1
    obtain ⟨rwa, rfl, hrw⟩ := row_at (dp_up k2 c4) (rowL_row _)
    refine ⟨Tt, _, rfl, .inl (.inl upd_same), rfl, _, _, rfl, _, _, rfl, rfl, ?_⟩
    refine ⟨_, rfl, _, rfl, ix_of (sq_mono cH hra) (atI_nat (j := i) (by rw [List.getElem?_map, g2]; rfl)) ?_⟩
    refine ⟨_, rfl, _, rfl, _, rfl, _, rfl, _, rfl, ix_of (xs := (lensL B R).map V.int) (.inr (.inl (.inl (c4 _ _ elp)))) (atI_nat (j := i) (by rw [List.getElem?_map, hL]; rfl)) ?_⟩
    refine ⟨_, rfl, _, rfl, _, rfl, ix_of (sq_mono cH hfa) (atI_nat (j := i) (by rw [List.getElem?_map, g3]; rfl)) ?_⟩
    refine ⟨rwa, rowW B (onesW B) i, l, r, fc, rfl, hrw, r1, r2, by rw [rowW_len er]; omega, ?_⟩
    refine ⟨_, _, rfl, rfl, .inl ⟨by decide, by decide⟩, _, _, rfl, rfl, ?_⟩
    -- older
    have ew := onesW_get er
    obtain ⟨wa, wxs, wra, ewa, m1, m2, m3⟩ := book_row (dp_up hw cH) hW ew
    cases ewa
    have em : r - 1 = (((r - 1).toNat : Nat) : Int) := by omega
    refine ⟨_, rfl, _, rfl, _, rfl, ix_of m1 (atI_nat (j := i) m2) ⟨_, rfl, _, _, rfl, rfl, ?_⟩⟩
    show rIx K (V.ref wra) (V.int (r - 1)) _ _
    rw [em]
    refine ix_of m3 (v := .int 1) (atI_nat (j := (r - 1).toNat) (by rw [List.getElem?_map, List.getElem?_replicate, if_pos (by omega)]; rfl)) ?_
    refine ⟨_, _, rfl, rfl, .inl ⟨by decide, by decide⟩, some (.int (i : Nat)), some (.ref rwa), some (.int r), ?_, c4⟩
    rw [pasL_ones er r1 r2 hlm, ← pas_eq g1 g2 g3]
    show [_, _, _, _, _, _, some (V.int (sumN (pas B R Fc) i + 1 * pas B R Fc i)), some (V.int (1 * 1)), _, _, _] = _
    rw [Int.one_mul]; rfl
  · obtain ⟨y8, y9, y10, rfl, sm⟩ := hP
    rw [hxl]
    exact ⟨_, rfl, q _ (s12.trans sm)⟩
end
end Af
namespace Af
open PySem PySem.Spec PyProof.Rows L2
section
variable {P : Program} {w : World} {K : PySem.W.Frag} {mg : Str → Option Value} {base : Heap}
/-! standings_many, round_length -/
def spMany (K : PySem.W.Frag) (c : Int) : Sp := fun vs H Q _ => ∃ (b : V) (bd : PyData) (B : List (List Int)) (hi : Int), vs = [b] ∧ Dp K H b bd ∧ BookD bd B ∧ GoodB B hi ∧ hi ≤ 100 ∧ B.length ≤ 100 ∧ ∀ H', Same H H' → Q (.int (c * manyN B)) H'
theorem ok_many {f fR fO : Addr} {fd fdR fdO : FuncData} {k : Nat} (T : Bl mg) (F : Fun K "standings_many" "standings_many" sStandingsMany f fd)
    (DR : Df K mg "running_sums" sRunningSums ["book", "weights"] fR fdR) (GR : FnOk P w K mg base CX0 k fR fdR ["book", "weights"] (spRun K))
    (DO : Df K mg "ones" sOnes ["book"] fO fdO) (GO : FnOk P w K mg base CX0 k fO fdO ["book"] (spOnes K)) :
    FnOk P w K mg base CX0 (k + 1) f fd ["book"] (spMany K 1) := by
  refine F.ok scStandingsMany (fun vs H Q E h => ?_) (fun cdv A outer s H vs Q E hr h => ?_)
  · obtain ⟨_, _, _, _, rfl, _⟩ := h; rfl
  obtain ⟨b, bd, B, hi, rfl, hb, hB, hG, hhi, hlen, q⟩ := h
  have nd := scStandingsMany.nd
  have hT := hG.tabs
  refine ⟨_, pss_cons (ps_set (i := 1) nd rfl (.inl rfl) (pe_do DR GR hr rfl (pa_cons (pv 0) (pa_cons (pe_do DO GO hr rfl (pa_cons (pv 0) pa_nil)) pa_nil))))
    (pss_one (ps_ret (pe_ix ix_list (pe_ix ix_list (pv 1) pe_int (fun _ _ => rfl)) (pe_un un_neg pe_int) (fun _ _ => rfl)))), ?_⟩
  refine ⟨_, rfl, _, rfl, b, bd, B, hi, rfl, hb, hB, hT, hhi, hlen, fun op H1 nop s1 hop => ?_⟩
  refine ⟨b, .ref op, bd, bookL (onesW B), B, onesW B, hi, rfl, dp_up hb s1, hB, hop.dp, bookL_book _, hT, hhi, hlen, wok_ones hT, fun rp H2 nrp s2 hrp => ?_⟩
  obtain ⟨n, e0⟩ := hG.first
  have hn := hG.pos [n] (List.mem_of_getElem? e0) n List.mem_cons_self
  have h0 : 0 < B.length := (List.getElem?_eq_some_iff.mp e0).1
  obtain ⟨xs, hxs, hxa⟩ : ∃ xs, SqL K H2 rp xs ∧ DpAll K H2 xs ((List.range B.length).map fun k => rowL (rowW B (onesW B) k)) := by
    cases hrp.dp with
    | lst g1 g2 => exact ⟨_, g1, g2⟩
  obtain ⟨v, ev, dv⟩ := dps_get (i := 0) (d := rowL (rowW B (onesW B) 0)) hxa (by rw [List.getElem?_map, List.getElem?_range h0]; rfl)
  obtain ⟨ra, rfl, hra⟩ : ∃ ra, v = .ref ra ∧ SqL K H2 ra ((rowW B (onesW B) 0).map V.int) := by
    cases dv with
    | lst g1 g2 => rw [dps_ints_inv g2] at g1; exact ⟨_, rfl, g1⟩
  have hrw : (rowW B (onesW B) 0).map V.int = ((List.range n.toNat).map (rowF B (onesW B) 0)).map V.int ++ [V.int (rowF B (onesW B) 0 n.toNat)] := by
    unfold rowW
    rw [e0]
    show ((List.range (n.toNat + 1)).map _).map _ = _
    rw [List.range_succ, List.map_append, List.map_append]; rfl
  refine ⟨_, rfl, rp, xs, 0, _, rfl, rfl, hxs, atI_nat (j := 0) ev, 1, rfl, ra, _, -1, _, rfl, rfl, hra, by rw [hrw]; exact atI_last _ _, ?_⟩
  have z := q H2 (s1.trans s2)
  have e : (1 : Int) * manyN B = rowF B (onesW B) 0 n.toNat := by
    rw [rowF_ones e0 (by show n.toNat ≤ n.toNat; omega), Int.one_mul]
    have t := tot_zero (P := B) (R := []) e0
    unfold totN at t
    rw [show lenAt B [] 0 = some n from by show ((B[0]?).bind fun row => row[0]?) = some n; rw [e0]; rfl] at t
    exact t.symm
  rw [e] at z; exact z
end
end Af
namespace Af
open PySem PySem.Spec PyProof.Rows L2
section
variable {P : Program} {w : World} {K : PySem.W.Frag} {mg : Str → Option Value} {base : Heap}
/-! standing_number -/
def ups (B : List (List Int)) : List Int := List.replicate B.length 1
theorem ups_get {B : List (List Int)} {i : Nat} (h : i < B.length) : (ups B)[i]? = some 1 := by unfold ups; rw [List.getElem?_replicate, if_pos h]
theorem ups_ok {B : List (List Int)} : FacesOk (ups B) := fun x hx => .inl (List.eq_of_mem_replicate hx)
theorem ups_okS {B : List (List Int)} {R : List Int} (h : Stands B R) : Ok B (R, ups B) := ⟨h, List.length_replicate, ups_ok⟩
def numM (B : List (List Int)) (R : List Int) : Int := clk B R (ups B)
theorem num_uniq {B : List (List Int)} {hi : Int} (G : GoodB B hi) {R T : List Int} (h : Stands B R) (h' : Stands B T) (ec : numM B R = numM B T) : ∀ k, k ≤ B.length → ∀ i, i < k → R[i]? = T[i]?
  | 0, _, i, hi => absurd hi (Nat.not_lt_zero i)
  | k + 1, hk, i, hi => by
    have ih := num_uniq G h h' ec k (by omega)
    by_cases c : i < k
    · exact ih i c
    have : i = k := by omega
    subst this
    have ho := (ups_okS h).whole
    have ho' := (ups_okS h').whole
    obtain ⟨l, r, e1, e2, r1, r2⟩ := h.all i (by omega)
    obtain ⟨l', s, g1, g2, s1, s2⟩ := h'.all i (by omega)
    have e3 := ups_get (B := B) (i := i) (by omega)
    have el : lenAt B R i = lenAt B T i := lenAt_pre fun j hj => ih j hj
    rw [e1, g1] at el
    cases el
    have p1 := pas_eq (F := ups B) e1 e2 e3
    have p2 := pas_eq (F := ups B) g1 g2 e3
    have b1 := clk_bd G ho (B.length - (i + 1)) (i + 1) (by omega)
    have b2 := clk_bd G ho' (B.length - (i + 1)) (i + 1) (by omega)
    rw [q_succ ho.st (by omega) e2] at b1
    rw [q_succ ho'.st (by omega) g2] at b2
    have z3 : sumN (pas B R (ups B)) i = sumN (pas B T (ups B)) i := sumN_congr i fun j hj => by
      unfold pas
      rw [ih j hj, lenAt_pre fun m hm => ih m (by omega)]
    have n1 : sumN (pas B R (ups B)) (i + 1) = sumN (pas B R (ups B)) i + pas B R (ups B) i := rfl
    have n2 : sumN (pas B T (ups B)) (i + 1) = sumN (pas B T (ups B)) i + pas B T (ups B) i := rfl
    unfold numM clk at ec
    dsimp only at b1 b2
    have er : r = s := pas_inj G (c := sumN (pas B R (ups B)) B.length - sumN (pas B R (ups B)) i) e1 r1 r2 s1 s2 (by rw [← p1]; omega) (by rw [← p1]; omega) (by rw [← p2]; omega) (by rw [← p2]; omega)
    rw [e2, g2, er]
theorem num_inj {B : List (List Int)} {hi : Int} (G : GoodB B hi) {R T : List Int} (h : Stands B R) (h' : Stands B T) (ec : numM B R = numM B T) : R = T :=
  list_ext h.len h'.len fun i hi => num_uniq G h h' ec B.length (Nat.le_refl _) i hi
theorem num_rg {B : List (List Int)} {hi : Int} (G : GoodB B hi) {R : List Int} (h : Stands B R) : 0 ≤ numM B R ∧ numM B R < manyN B := clk_rg G (ups_okS h)
def spNum (K : PySem.W.Frag) : Sp := fun vs H Q _ => ∃ (b st : V) (bd sd : PyData) (B : List (List Int)) (R : List Int) (hi : Int), vs = [b, st] ∧ Dp K H b bd ∧ BookD bd B ∧ Dp K H st sd ∧ RowD sd R ∧
  GoodB B hi ∧ hi ≤ 100 ∧ B.length ≤ 100 ∧ Stands B R ∧ ∀ H', Same H H' → Q (.int (numM B R)) H'
theorem ok_number {f fO fS : Addr} {fd fdO fdS : FuncData} {k : Nat} (T : Bl mg) (F : Fun K "standing_number" "standing_number" sStandingNumber f fd)
    (DSumBefore : Df K mg "sum_before" sSumBefore ["book", "weights", "standing", "faces"] fS fdS) (GSumBefore : FnOk P w K mg base CX0 k fS fdS ["book", "weights", "standing", "faces"] (spSumB K))
    (DOnes : Df K mg "ones" sOnes ["book"] fO fdO) (GOnes : FnOk P w K mg base CX0 k fO fdO ["book"] (spOnes K)) :
    FnOk P w K mg base CX0 (k + 1) f fd ["book", "standing"] (spNum K) := by
  refine F.ok scStandingNumber (fun vs H Q E h => ?_) (fun cdv A outer s H vs Q E hr h => ?_)
  · obtain ⟨_, _, _, _, _, _, _, rfl, _⟩ := h; rfl
  obtain ⟨b, st, bd, sd, B, R, hi, rfl, hb, hB, hst, hR, hG, hhi, hlen, hS, q⟩ := h
  have nd := scStandingNumber.nd
  refine ⟨_, pss_one (ps_ret (pe_do DSumBefore GSumBefore hr rfl (pa_cons (pv 0) (pa_cons (pe_do DOnes GOnes hr rfl (pa_cons (pv 0) pa_nil)) (pa_cons (pv 1) (pa_cons (pe_op op_rep (pe_lst (pa_cons pe_int pa_nil)) (pe_callB call_len_seq rfl T.len bLen (pa_cons (pv 0) pa_nil))) pa_nil)))))), ?_⟩
  have hT := hG.tabs
  refine ⟨_, rfl, _, rfl, b, bd, B, hi, rfl, hb, hB, hT, hhi, hlen, fun op H1 nop s1 hop => ?_⟩
  refine ⟨_, rfl, by show 1 ≤ sizeLine; decide, fun l nl => ?_⟩
  have sl := same_new (o := .lst [.int 1]) nl
  have c2 := s1.trans sl
  obtain ⟨ba, xs2, ex2, hx2, hx2l⟩ := book_len (dp_up hb c2) hB
  cases ex2
  refine ⟨_, rfl, ba, xs2, rfl, hx2, ?_⟩
  refine ⟨l, (B.length : Nat), _, rfl, by rw [hx2l], upd_same, by omega, by omega, ?_, fun p np => ?_⟩
  · have := sizeLine_eq
    show 1 * ((B.length : Int)).toNat ≤ sizeLine
    omega
  rw [flat_rep, Int.toNat_natCast]
  have sp := same_new (o := .lst (List.replicate B.length (V.int 1))) np
  have c3 := c2.trans sp
  have hfd : Dp K (upd (upd H1 l (.lst [.int 1])) p (.lst (List.replicate B.length (V.int 1)))) (.ref p) (rowL (ups B)) := dp_lstI (by rw [upd_same]; unfold ups; rw [List.map_replicate])
  refine ⟨.ref ba, .ref op, st, .ref p, bd, bookL (onesW B), sd, rowL (ups B), B, R, ups B, hi, rfl, dp_up hb c3, hB, dp_up hop.dp (sl.trans sp), bookL_book _, dp_up hst c3, hR, hfd, rowL_row _, hT, hhi, hlen, (ups_okS hS).whole, fun H3 s3 => ?_⟩
  exact q H3 (c3.trans s3)
/-! standing_at -/
structure SoN (B : List (List Int)) (c : Int) (i : Nat) (R : List Int) (rest : Int) : Prop where
  rl : R.length = i
  st : StandsTo B R i
  eq : rest = c - sumN (pas B R (ups B)) i
  lo : 0 ≤ rest
  hi : rest < qN B R i
theorem SoN.next {B : List (List Int)} {c : Int} {i : Nat} {R : List Int} {rest hi l r : Int} (h : SoN B c i R rest) (G : GoodB B hi) (hi' : i < B.length) (el : lenAt B R i = some l) (r1 : 1 ≤ r) (r2 : r ≤ l)
    (a1 : pasN B i l r 1 ≤ rest) (a2 : rest < pasN B i l r 1 + cnt (B.drop (i + 1)) (r - 1).toNat) :
    SoN B c (i + 1) (R ++ [r]) (rest - pasN B i l r 1) := by
  have hR := h.rl
  have preR : ∀ j, j < i → (R ++ [r])[j]? = R[j]? := fun j hj => List.getElem?_append_left (by omega)
  have atR : (R ++ [r])[i]? = some r := by rw [← hR]; simp
  have el' : lenAt B (R ++ [r]) i = some l := by rw [lenAt_pre preR]; exact el
  have st' : StandsTo B (R ++ [r]) (i + 1) := by
    have := stands_snoc (x := r) (by rw [hR]; exact h.st) (by rw [hR]; exact el) r1 r2
    rwa [hR] at this
  have hpas : pas B (R ++ [r]) (ups B) i = pasN B i l r 1 := pas_eq el' atR (ups_get hi')
  refine ⟨by rw [List.length_append, hR]; rfl, st', ?_, by omega, ?_⟩
  · show _ = c - (sumN _ i + pas B _ _ i)
    rw [hpas, pas_pre (R := R) (F := ups B) fun j hj => ⟨preR j hj, rfl⟩]
    have := h.eq
    omega
  · rw [q_next (fun hl => ?_) hi' atR]
    · omega
    · obtain ⟨n, e, _⟩ := len_ex G hl st'
      exact ⟨n, e⟩
def spStandAt (K : PySem.W.Frag) : Sp := fun vs H Q _ => ∃ (b : V) (bd : PyData) (B : List (List Int)) (c hi : Int), vs = [b, .int c] ∧ Dp K H b bd ∧ BookD bd B ∧
  GoodB B hi ∧ hi ≤ 100 ∧ B.length ≤ 100 ∧ 0 ≤ c ∧ c < manyN B ∧
  ∀ (p : Addr) (H' : Hp) (R : List Int), Stands B R → numM B R = c → Same H H' → NewD K H H' (.ref p) (rowT R) → Q (.ref p) H'
theorem ok_standAt {f fM fR fO fL fP fX : Addr} {fd fdM fdR fdO fdL fdP fdX : FuncData} {k : Nat} (T : Bl mg) (F : Fun K "standing_at" "standing_at" sStandingAt f fd)
    (DM : Df K mg "standings_many" sStandingsMany ["book"] fM fdM) (GM : FnOk P w K mg base CX0 k fM fdM ["book"] (spMany K 1))
    (DR : Df K mg "running_sums" sRunningSums ["book", "weights"] fR fdR) (GR : FnOk P w K mg base CX0 k fR fdR ["book", "weights"] (spRun K))
    (DO : Df K mg "ones" sOnes ["book"] fO fdO) (GO : FnOk P w K mg base CX0 k fO fdO ["book"] (spOnes K))
    (DL : Df K mg "length_of" sLengthOf ["book", "rungs", "climber"] fL fdL) (GL : FnOk P w K mg base CX0 k fL fdL ["book", "rungs", "climber"] (spLengthOf K))
    (DX : Df K mg "rung_reached" sRungReached ["row", "length", "face", "number"] fX fdX) (GX : FnOk P w K mg base CX0 k fX fdX ["row", "length", "face", "number"] (spReach K))
    (DP : Df K mg "passed" sPassed ["row", "length", "rung", "face"] fP fdP) (GP : FnOk P w K mg base CX0 k fP fdP ["row", "length", "rung", "face"] (spPassed K)) :
    FnOk P w K mg base CX0 (k + 1) f fd ["book", "number"] (spStandAt K) := by
  refine F.ok scStandingAt (fun vs H Q E h => ?_) (fun cdv A outer s H vs Q E hr h => ?_)
  · obtain ⟨_, _, _, _, _, rfl, _⟩ := h; rfl
  obtain ⟨b, bd, B, c, hi, rfl, hb, hB, hG, hhi, hlen, c0, c1, q⟩ := h
  have nd := scStandingAt.nd
  have hT := hG.tabs
  obtain ⟨n0, e0⟩ := hG.first
  have h0 : 0 < B.length := (List.getElem?_eq_some_iff.mp e0).1
  refine ⟨_, pss_cons (ps_if (PW.pt (pw_or (pt_cmpR op_lt (pv 1) pe_int (nomark _)) (pw_or1 (pt_cmpR op_ge (pv 1) (pe_do DM GM hr rfl (pa_cons (pv 0) pa_nil)) (nomark _))))) pss_never pss_nil)
    (pss_cons (ps_set (i := 2) nd rfl (.inl rfl) (pe_lst pa_nil))
    (pss_cons (ps_set (i := 3) nd rfl (.inl rfl) (pv 1))
    (pss_cons (ps_for PassesOwn.never rfl (pi_enum rfl T.enum (pa_cons (pe_do DR GR hr rfl (pa_cons (pv 0) (pa_cons (pe_do DO GO hr rfl (pa_cons (pv 0) pa_nil)) pa_nil))) pa_nil))
        (pg_tup rfl (pgs_cons (pg_name (i := 4) nd rfl (.inl rfl)) (pgs_cons (pg_name (i := 5) nd rfl (.inl rfl)) pgs_nil)))
      (pss_cons (ps_set (i := 6) nd rfl (.inl rfl) (pe_do DL GL hr rfl (pa_cons (pv 0) (pa_cons (pv 2) (pa_cons (pv 4) pa_nil)))))
      (pss_cons (ps_set (i := 7) nd rfl (.inl rfl) (pe_do DX GX hr rfl (pa_cons (pv 5) (pa_cons (pv 6) (pa_cons pe_int (pa_cons (pv 3) pa_nil))))))
      (pss_cons (ps_aug (i := 3) nd rfl (.inl rfl) (pe_do DP GP hr rfl (pa_cons (pv 5) (pa_cons (pv 6) (pa_cons (pv 7) (pa_cons pe_int pa_nil))))) ip_sub)
      (pss_one (ps_expr (pe_bm PySem.F.plainAttrs_list PySem.F.slot_list_append PySem.F.type_list_append mt_append (pv 2) (pa_cons (pv 7) pa_nil))))))))
    (pss_one (ps_ret (pe_callTy call_tuple_of rfl T.tuple bTuple (pa_cons (pv 2) pa_nil))))))), ?_⟩
  refine ⟨_, rfl, _, _, rfl, rfl, _, rfl, ?_⟩
  show if decide (c < 0) = true then _ else _
  rw [decide_eq_false (by omega)]
  refine iteF ?_
  refine ⟨_, rfl, _, rfl, b, bd, B, hi, rfl, hb, hB, hG, hhi, hlen, fun H1 s1 => ?_⟩
  rw [Int.one_mul]
  refine ⟨_, _, rfl, rfl, _, rfl, ?_⟩
  show if decide (manyN B ≤ c) = true then _ else _
  rw [decide_eq_false (by omega)]
  refine iteF ?_
  refine ⟨by show 0 ≤ sizeLine; decide, fun ru nru => ?_⟩
  have s2 := same_new (o := .lst []) nru
  have eru0 : (upd H1 ru (.lst [])) ru = some (.lst []) := upd_same
  have s12 := s1.trans s2
  have nruH : H ru = none := s1.free nru
  generalize upd H1 ru (.lst []) = Ha at s12 eru0 s2
  refine ⟨_, rfl, ?_⟩
  refine ⟨_, rfl, _, rfl, b, bd, B, hi, rfl, dp_up hb s12, hB, hT, hhi, hlen, fun op H3 nop s3 hop => ?_⟩
  refine ⟨b, .ref op, bd, bookL (onesW B), B, onesW B, hi, rfl, dp_up hb (s12.trans s3), hB, hop.dp, bookL_book _, hT, hhi, hlen, wok_ones hT, fun rp H4 nrp s4 hrp => ?_⟩
  have s34 := s3.trans s4
  obtain ⟨xs, hxs, hxa⟩ : ∃ xs, SqL K (fresh H3 H4) rp xs ∧ DpAll K (fresh H3 H4) xs ((List.range B.length).map fun k => rowL (rowW B (onesW B) k)) := by
    have z : Dp K (fresh H3 H4) (.ref rp) (rowsD B (onesW B)) := hrp
    cases z with
    | lst g1 g2 => exact ⟨_, g1, g2⟩
  have hfrn : Same (fresh H3 H4) (hid H4 ru) := fun a o e => by
    obtain ⟨h1, h2⟩ := fresh_inv e
    have n1 : a ≠ ru := fun z => by rw [z, s3 _ _ eru0] at h1; cases h1
    rw [hid_ne n1]; exact h2
  have hxs' : SqL K (hid H4 ru) rp xs := hfrn.seq hxs
  have hxb := dps_up hxa hfrn
  have hxl := dps_len hxa
  rw [List.length_map, List.length_range] at hxl
  have eru4 := s34 _ _ eru0
  have sH4 := s12.trans s34
  refine ⟨rp, xs, rfl, hid_le.seq hxs', ?_⟩
  refine for_it (walk_enum (xs := xs)) (fun i σ H6 => ∃ (y4 y5 y6 y7 : Option V) (R : List Int) (rest : Int), σ = [some b, some (.int c), some (.ref ru), some (.int rest), y4, y5, y6, y7] ∧ SoN B c i R rest ∧
      H6 ru = some (.lst (R.map V.int)) ∧ Same H H6 ∧ Same (hid H4 ru) H6)
    ⟨none, none, none, none, [], c, rfl, ?_, eru4, sH4, hid_le⟩ (fun i σ H6 _ ⟨_, _, _, _, _, _, _, _, _, _, e⟩ => e.seq hxs') (fun i x σ H6 H7 hi6 hP hy => ?_) (fun σ H6 hP => ?_)
  · refine ⟨rfl, fun j hj => absurd hj (Nat.not_lt_zero j), ?_, c0, ?_⟩
    · show c = c - 0; omega
    · unfold qN
      rw [if_pos h0, tot_zero e0]; exact c1
  · obtain ⟨y4, y5, y6, y7, R, rest, rfl, hS, hru, sH, sb⟩ := hP
    obtain ⟨Tt, x1, x2, rfl, nT, rfl, e1, e2⟩ := hy
    have e1' : x1 = .int (i : Nat) := (Option.some.inj e1).symm
    subst e1'
    have hiB : i < B.length := by omega
    have sT := same_new (o := .tup [.int (i : Nat), x2]) nT
    have hRl := hS.rl
    have hru7 := sT _ _ hru
    have er : B[i]? = some B[i] := List.getElem?_eq_getElem hiB
    have sb7 := sb.trans sT
    obtain ⟨dr, k1, k2⟩ := dps_get' hxb (show xs[i]? = some x2 from e2)
    rw [List.getElem?_map, List.getElem?_range hiB] at k1
    cases k1
    obtain ⟨rwa, rfl, hrw⟩ := row_at (dp_up k2 sb7) (rowL_row _)
    refine ⟨Tt, _, rfl, .inl (.inl upd_same), rfl, _, _, rfl, _, _, rfl, rfl, ?_⟩
    obtain ⟨l, l1, l2, l3⟩ := len_ex hG hiB hS.st
    have hlm := len_mx l1 er
    refine ⟨_, rfl, _, rfl, _, rfl, b, .ref ru, i, bd, rowL R, B, R, l, rfl, dp_up hb (sH.trans sT), hB, dp_lstI hru7, rowL_row R, l1, ?_⟩
    have hrowl : l.toNat < (rowW B (onesW B) i).length := by rw [rowW_len er]; omega
    have rg : ∀ m : Nat, m ≤ (mxR B[i]).toNat → ((rowW B (onesW B) i)[m]?).getD 0 = rowN B i m := fun m hm => by rw [rowW_get er hm, rowF_ones er hm]; rfl
    have hq : qN B R i = rowN B i l.toNat := by unfold qN totN; rw [if_pos hiB, l1]; rfl
    refine ⟨_, rfl, _, rfl, _, rfl, rwa, rowW B (onesW B) i, l, 1, rest, rfl, hrw, l2, by omega, hrowl, by rw [rg 0 (Nat.zero_le _)]; rfl, hS.lo, ?_, fun r H9 hReach s9 => ?_⟩
    · rw [rg _ (by omega), ← hq]; exact hS.hi
    have hp := pasL_ones (f := 1) er hReach.lo hReach.hi hlm
    have hr1 := hReach.lo
    have hr2 := hReach.hi
    have ha1 := hReach.le
    have ha2 := hReach.lt
    rw [hp] at ha1 ha2
    rw [rg _ (by omega), rg _ (by omega), show r.toNat = (r - 1).toNat + 1 by omega, rowN_succ] at ha2
    have sb9 := sb7.trans s9
    refine ⟨_, rfl, _, rfl, _, rfl, _, rfl, rwa, rowW B (onesW B) i, l, r, 1, rfl, sq_mono s9 hrw, hr1, hr2, hrowl, ?_⟩
    rw [hp]
    refine ⟨_, _, rfl, rfl, ?_⟩
    have hru9 := s9 _ _ hru7
    refine ⟨_, rfl, .inl ⟨rfl, _, SqL.of hru9⟩, _, rfl, ru, _, _, rfl, rfl, hru9, ?_, ?_⟩
    · rw [List.length_map]; exact small1000 (by omega)
    have hN := hS.next (l := l) (r := r) hG hiB l1 hr1 hr2 ha1 (by omega)
    refine ⟨some (.int (i : Nat)), some (.ref rwa), some (.int l), some (.int r), R ++ [r], _, rfl, hN, ?_, fun a o ea => ?_, fun a o ea => ?_⟩
    · rw [upd_same, List.map_append]; rfl
    · rw [upd_ne (ne_of_none ea nruH)]; exact s9 _ _ (sT _ _ (sH _ _ ea))
    · obtain ⟨n1, q1⟩ := hid_some ea
      rw [upd_ne n1]; exact sb9 _ _ ea
  · obtain ⟨y4, y5, y6, y7, R, rest, rfl, hS, hru, sH, sb⟩ := hP
    rw [hxl] at hS
    refine ⟨_, rfl, ru, _, rfl, .inl ⟨SqL.of hru, fun t nt => ?_⟩⟩
    have st := same_new (o := .tup (R.map V.int)) nt
    have hlo := hS.lo
    have hhi2 := hS.hi
    have heq := hS.eq
    have hq1 : qN B R B.length = 1 := by unfold qN; rw [if_neg (by omega)]
    refine q t _ R ⟨hS.rl, hS.st⟩ ?_ (sH.trans st) (new_tup (sH.free nt) upd_same (new_ints R))
    show sumN (pas B R (ups B)) B.length = c
    omega
end
end Af
namespace Af
open PySem PySem.Spec PyProof.Rows L2
section
variable {B : List (List Int)} {hi : Int}
theorem stn_len_ext {R : List Int} {i : Nat} : (extS B i R).length = ((lenAt B R i).getD 0).toNat := by unfold extS; rw [List.length_map, List.length_range]
theorem sum_len {α : Type} (f : List Int → List α) (g : List Int → Int) : ∀ l : List (List Int), (∀ a ∈ l, ((f a).length : Int) = g a) → ((l.flatMap f).length : Int) = (l.map g).sum
  | [], _ => rfl
  | a :: l, h => by
    rw [List.flatMap_cons, List.length_append, List.map_cons, List.sum_cons, Int.natCast_add, h a List.mem_cons_self, sum_len f g l fun b hb => h b (List.mem_cons_of_mem _ hb)]
theorem stn_num (G : GoodB B hi) {n : Nat} {R : List Int} (h : (stnL B)[n]? = some R) : numM B R = (n : Int) := by
  have hL : 1 ≤ B.length := by
    obtain ⟨x, e⟩ := G.first
    have := (List.getElem?_eq_some_iff.mp e).1
    omega
  obtain ⟨i, hi'⟩ : ∃ i, B.length = i + 1 := ⟨B.length - 1, by omega⟩
  have hS := stn_stands G (List.mem_of_getElem? h)
  unfold stnL at h
  rw [hi'] at h
  have h : ((stnN B i).flatMap (extS B i))[n]? = some R := h
  obtain ⟨j, q, a, ea, eq_, et⟩ := flat_at _ _ _ _ h
  obtain ⟨la, _⟩ := stn_ok G i (by omega) a (List.mem_of_getElem? ea)
  have hq : q < ((lenAt B a i).getD 0).toNat := by have := (List.getElem?_eq_some_iff.mp eq_).1; rw [stn_len_ext] at this; exact this
  have eR : R = a ++ [((q : Nat) + 1 : Int)] := by
    unfold extS at eq_
    rw [List.getElem?_map, List.getElem?_range hq] at eq_
    exact (Option.some.inj eq_).symm
  have hn : n < ((stnN B i).flatMap (extS B i)).length := (List.getElem?_eq_some_iff.mp h).1
  have el : (n : Int) = (((stnN B i).take j).map fun S => totN B S i).sum + (q : Nat) := by
    have e := congrArg List.length et
    rw [List.length_take, Nat.min_eq_left (Nat.le_of_lt hn), List.length_append, List.length_take, stn_len_ext, Nat.min_eq_left (Nat.le_of_lt hq)] at e
    have z := sum_len (extS B i) (fun S => totN B S i) ((stnN B i).take j) fun S _ => by
      rw [stn_len_ext]
      unfold totN
      rw [rowN_last hi']
    omega
  rw [tot_before G i (by omega) j a ea] at el
  show clk B R (ups B) = _
  have ep : ∀ c, c < B.length → pas B R (ups B) c = rowN B c ((R[c]?.getD 0) - 1).toNat := fun c hc => by
    obtain ⟨l, r, e1, e2, _, _⟩ := hS.all c hc
    rw [pas_eq e1 e2 (ups_get hc), e2]
    unfold pasN
    rw [if_pos rfl]; rfl
  unfold clk
  rw [sumN_congr (g := fun c => rowN B c ((R[c]?.getD 0) - 1).toNat) _ ep, hi']
  show sumN (fun c => rowN B c ((R[c]?.getD 0) - 1).toNat) i + rowN B i ((R[i]?.getD 0) - 1).toNat = _
  have e1 : sumN (fun c => rowN B c ((R[c]?.getD 0) - 1).toNat) i = pfx B a i := by
    rw [← pfx_pre (B := B) (R := R) (S := a) fun c hc => by rw [eR, List.getElem?_append_left (by omega)]]; rfl
  have e2 : rowN B i ((R[i]?.getD 0) - 1).toNat = (q : Nat) := by
    rw [rowN_last hi', eR, List.getElem?_append_right (by omega), la, Nat.sub_self]
    show (((((q : Nat) + 1 : Int) - 1).toNat : Nat) : Int) = _
    omega
  rw [e1, e2, el]
end
end Af
namespace Af
open PySem PySem.Spec PyProof.Rows L2
/-! a state of plain tuples -/
def PSt (H : Hp) (v : V) (S : List Int × List Int) : Prop := ∃ a r f : Addr, v = .ref a ∧ H a = some (.tup [.ref r, .ref f]) ∧ H r = some (.tup (S.1.map V.int)) ∧ H f = some (.tup (S.2.map V.int))
theorem PSt.up {H H' : Hp} {v : V} {S : List Int × List Int} : PSt H v S → Same H H' → PSt H' v S
  | ⟨a, r, f, e, h1, h2, h3⟩, s => ⟨a, r, f, e, s _ _ h1, s _ _ h2, s _ _ h3⟩
theorem PSt.dp {K : PySem.W.Frag} {H : Hp} {v : V} {S : List Int × List Int} : PSt H v S → Dp K H v (stD S)
  | ⟨a, r, f, e, h1, h2, h3⟩ => by
    rw [e]
    exact .tup (.inl (.inl h1)) (.cons (dp_rowT (.inl (.inl h2))) (.cons (dp_rowT (.inl (.inl h3))) .nil))
section
variable {P : Program} {w : World} {K : PySem.W.Frag} {mg : Str → Option Value} {base : Heap}
def spTurnedP : Sp := fun vs H Q _ => ∃ (st : V) (S : List Int × List Int), vs = [st] ∧ PSt H st S ∧ S.2.length ≤ 1000 ∧ ∀ (p : Addr) (H' : Hp), Same H H' → PSt H' (.ref p) (negS S) → Q (.ref p) H'
theorem ok_turnedP {f : Addr} {fd : FuncData} {k : Nat} (T : Bl mg) (F : Fun K "turned" "turned" sTurned f fd) : FnOk P w K mg base CX0 (k + 1) f fd ["state"] spTurnedP := by
  refine F.ok scTurned (fun vs H Q E h => ?_) (fun cdv A outer s H vs Q E hr h => ?_)
  · obtain ⟨_, _, rfl, _⟩ := h; rfl
  obtain ⟨st, ⟨R, Fc⟩, rfl, ⟨a, ra, fa, rfl, ha, hra, hfa⟩, hF, q⟩ := h
  have nd := scTurned.nd
  refine ⟨_, pss_cons (ps_asg (pv 0) (pg_seq rfl (pgs_cons (pg_name (i := 1) nd rfl (.inl rfl)) (pgs_cons (pg_name (i := 2) nd rfl (.inl rfl)) pgs_nil))))
    (pss_one (ps_ret (pe_tup (pa_cons (pe_callTy call_tuple_of rfl T.tuple bTuple (pa_cons (pv 1) pa_nil)) (pa_cons (pe_callTy call_tuple_of rfl T.tuple bTuple (pa_cons
      (pe_lc (own := [("face", 3)]) (g := gName 3) (tt := tYes) rfl nd (pi_seq (pv 2)) (blkOk_by (N := ["state", "standing", "faces", "face"]) (sc := defScope sTurned) (by decide +kernel))
        (fun _ _ _ _ _ => pg_name (i := 3) nd rfl (.inl rfl)) (fun _ _ _ _ _ => pts_nil) (fun _ _ _ _ _ => pe_un un_neg (pv 3))) pa_nil)) pa_nil))))), ?_⟩
  have hF : Fc.length ≤ 1000 := hF
  refine ⟨_, rfl, a, _, rfl, .inr (.inl (.inl ha)), rfl, _, _, rfl, _, _, rfl, rfl, ?_⟩
  refine ⟨_, rfl, ra, _, rfl, .inr ⟨.inl (.inl hra), ?_⟩⟩
  refine ⟨_, rfl, fa, _, false, rfl, .inl (.inl hfa), fun J wJ => fun D nD => ?_⟩
  have sD := same_new (o := .lst []) nD
  refine lc_it wJ (fun i H3 => H3 D = some (.lst ((negL (Fc.take i)).map V.int)) ∧ Same H H3) ⟨upd_same, sD⟩ (fun i H3 _ hP => .inl (.inl (hP.2 _ _ hfa))) (fun i v H3 H4 hi hP hy => ?_) (fun H3 hP => ?_)
  · obtain ⟨hD, sm⟩ := hP
    obtain ⟨rfl, e1⟩ := hy
    have e1 : (Fc.map V.int)[i]? = some v := e1
    rw [List.getElem?_map] at e1
    cases e : Fc[i]? with
    | none => rw [e] at e1; cases e1
    | some x =>
      rw [e] at e1
      cases e1
      refine ⟨rfl, yesS ?_⟩
      refine ⟨_, rfl, _, rfl, _, hD, ?_, ?_, fun c o ec => ?_⟩
      · rw [List.length_map, negL_len, List.length_take]; exact small1000 (by omega)
      · rw [upd_same, List.take_add_one, e]
        show _ = some (HO.lst ((negL (Fc.take i ++ [x])).map V.int))
        unfold negL
        rw [List.map_append, List.map_append]; rfl
      · rw [upd_ne (ne_of_none ec nD)]; exact sm _ _ ec
  · obtain ⟨hD, sm⟩ := hP
    rw [List.length_map, List.take_length] at hD
    refine ⟨D, _, rfl, .inl ⟨SqL.of hD, fun u nu => ?_⟩⟩
    have su := same_new (o := .tup ((negL Fc).map V.int)) nu
    refine ⟨by show 2 ≤ sizeLine; decide, fun p np => ?_⟩
    have sp := same_new (o := .tup [.ref ra, .ref u]) np
    exact q p _ (sm.trans (su.trans sp)) ⟨p, ra, u, rfl, upd_same, sp _ _ (su _ _ (sm _ _ hra)), sp _ _ upd_same⟩
end
end Af
namespace Af
open PySem PySem.Spec PyProof.Rows L2
section
variable {P : Program} {w : World} {K : PySem.W.Frag} {mg : Str → Option Value} {base : Heap}
/-! end_rung -/
def spEnd : Sp := fun vs H Q _ => ∃ l f : Int, vs = [.int l, .int f] ∧ Q (.int (endR l f)) H
theorem ok_end {f : Addr} {fd : FuncData} {k : Nat} (F : Fun K "end_rung" "end_rung" sEndRung f fd) : FnOk P w K mg base CX0 (k + 1) f fd ["length", "face"] spEnd := by
  refine F.ok scEndRung (fun vs H Q E h => ?_) (fun cdv A outer s H vs Q E hr h => ?_)
  · obtain ⟨_, _, rfl, _⟩ := h; rfl
  obtain ⟨l, fc, rfl, q⟩ := h
  refine ⟨_, pss_one (ps_ret (pe_ifExp (pt_cmpR op_eq (pv 1) pe_int (nomark _)) (pv 0) pe_int)), ?_⟩
  refine ⟨_, rfl, rfl, _, rfl, ?_⟩
  refine ite2 (fun e => ?_) (fun e => ?_)
  · have e1 : fc = 1 := V.int.inj (of_decide_eq_true e)
    refine ⟨_, rfl, ?_⟩
    unfold endR at q
    rw [if_pos e1] at q; exact q
  · have e1 : ¬ fc = 1 := fun z => e (decide_eq_true (by rw [z]))
    unfold endR at q
    rw [if_neg e1] at q; exact q
/-! blocked -/
def spBlocked (K : PySem.W.Frag) : Sp := fun vs H Q _ => ∃ (b st : V) (bd sd : PyData) (B : List (List Int)) (R F : List Int), vs = [b, st] ∧ Dp K H b bd ∧ BookD bd B ∧ Dp K H st sd ∧ StateD sd R F ∧ B.length ≤ 1000 ∧ Stands B R ∧ F.length = B.length ∧
  ∀ (p : Addr) (H' : Hp), H p = none → Same H H' → H' p = some (.lst ((castL (blockedN B R F B.length)).map V.int)) → Q (.ref p) H'
theorem lens_of {B : List (List Int)} {R : List Int} (S : Stands B R) : ∀ c n, (lensL B R)[c]? = some n → lenAt B R c = some n := fun c n e => by
  have hc : c < B.length := by rw [← lensL_len B R]; exact (List.getElem?_eq_some_iff.mp e).1
  rw [lensL_get hc] at e
  rw [stand_len S hc]; exact e
theorem ok_blocked {f fL fE : Addr} {fd fdL fdE : FuncData} {k : Nat} (T : Bl mg) (F : Fun K "blocked" "blocked" sBlocked f fd)
    (DL : Df K mg "lengths" sLengths ["book", "standing"] fL fdL) (GL : FnOk P w K mg base CX0 k fL fdL ["book", "standing"] (spLengths K))
    (DE : Df K mg "end_rung" sEndRung ["length", "face"] fE fdE) (GE : FnOk P w K mg base CX0 k fE fdE ["length", "face"] spEnd) :
    FnOk P w K mg base CX0 (k + 1) f fd ["book", "state"] (spBlocked K) := by
  refine F.ok scBlocked (fun vs H Q E h => ?_) (fun cdv A outer s H vs Q E hr h => ?_)
  · obtain ⟨_, _, _, _, _, _, _, rfl, _⟩ := h; rfl
  obtain ⟨b, st, bd, sd, B, R, Fc, rfl, hb, hB, hst, hSt, hlen, hS, hF, q⟩ := h
  have nd := scBlocked.nd
  refine ⟨_, pss_cons (ps_asg (pv 1) (pg_seq rfl (pgs_cons (pg_name (i := 2) nd rfl (.inr rfl)) (pgs_cons (pg_name (i := 3) nd rfl (.inr rfl)) pgs_nil))))
    (pss_cons (ps_set (i := 4) nd rfl (.inr rfl) (pe_do DL GL hr rfl (pa_cons (pv 0) (pa_cons (pv 2) pa_nil))))
    (pss_one (ps_ret (pe_lc (own := [("climber", 5)]) (g := gName 5)
      (tt := tTest (tOp rEq (tOp (rIx K) (tVar 2) (tVar 5)) (tCall spEnd [] E0 (tCons (tOp (rIx K) (tVar 4) (tVar 5)) (tCons (tOp (rIx K) (tVar 3) (tVar 5)) tNil))))) rfl nd
      (pi_range1 rfl T.range (pa_cons (pe_callB call_len_seq rfl T.len bLen (pa_cons (pv 0) pa_nil)) pa_nil))
      (blkOk_by (N := ["book", "state", "standing", "faces", "ladders", "climber"]) (sc := defScope sBlocked) (by decide +kernel))
      (fun _ _ _ _ _ => pg_name (i := 5) nd rfl (.inl rfl))
      (fun _ _ _ _ _ => pts_one (pt_cmpR op_eq (pe_ix ix_seq (pv 2) (pv 5) (fun _ _ => rfl)) (pe_do DE GE hr rfl (pa_cons (pe_ix ix_seq (pv 4) (pv 5) (fun _ _ => rfl)) (pa_cons (pe_ix ix_seq (pv 3) (pv 5) (fun _ _ => rfl)) pa_nil))) (nomark _)))
      (fun _ _ _ _ _ => pv 5))))), ?_⟩
  obtain ⟨a, r, fc, rd, fcd, rfl, hq, hr', hR, hf', hFd⟩ := state_at hst hSt
  refine ⟨_, rfl, a, _, rfl, hq, rfl, _, _, rfl, _, _, rfl, rfl, ?_⟩
  refine ⟨_, rfl, _, rfl, _, _, bd, rd, B, R, lensL B R, rfl, hb, hB, hr', hR, hlen, lensL_len B R, lens_of hS, fun lp H1 nlp s1 elp => ?_⟩
  obtain ⟨ba, xs, rfl, hba, hxl⟩ := book_len (dp_up hb s1) hB
  refine ⟨_, rfl, ba, xs, rfl, hba, _, rfl, by omega, by omega, fun D nD => ?_⟩
  have sD := same_new (o := .lst []) nD
  have en : ((xs.length : Nat) : Int).toNat = B.length := by omega
  rw [en]
  obtain ⟨ra, rfl, hra⟩ := row_at hr' hR
  obtain ⟨fa, rfl, hfa⟩ := row_at hf' hFd
  refine lc_range (lo := 0) (n := B.length) (fun i H3 => H3 D = some (.lst ((castL (blockedN B R Fc i)).map V.int)) ∧ Same H1 H3) ⟨upd_same, sD⟩ (fun i H3 hi hP => ?_) (fun H3 hP => ?_)
  · obtain ⟨hD, sm⟩ := hP
    obtain ⟨n, rr, e1, e2, _, _⟩ := hS.all i hi
    have hiF : i < Fc.length := by omega
    have e3 : Fc[i]? = some Fc[i] := List.getElem?_eq_getElem hiF
    have hL : (lensL B R)[i]? = some n := by rw [lensL_get hi, e1]; rfl
    have ei : (0 : Int) + (i : Int) = (i : Nat) := Int.zero_add _
    refine ⟨rfl, ?_⟩
    rw [ei]
    refine ⟨_, rfl, _, rfl, ix_of (sq_mono (s1.trans sm) hra) (atI_nat (j := i) (by rw [List.getElem?_map, e2]; rfl)) ?_⟩
    refine ⟨_, rfl, _, rfl, ix_of (xs := (lensL B R).map V.int) (.inr (.inl (.inl (sm _ _ elp)))) (atI_nat (j := i) (by rw [List.getElem?_map, hL]; rfl)) ?_⟩
    refine ⟨_, rfl, _, rfl, ix_of (sq_mono (s1.trans sm) hfa) (atI_nat (j := i) (by rw [List.getElem?_map, e3]; rfl)) ?_⟩
    refine ⟨_, _, rfl, rfl, _, rfl, ?_⟩
    have eb : isBl B R Fc i = decide (V.int rr = V.int (endR n Fc[i])) := by
      unfold isBl
      rw [e2, e1, e3, Bool.eq_iff_iff, decide_eq_true_iff, decide_eq_true_iff]
      show rr = endR n Fc[i] ↔ _
      exact ⟨fun z => by rw [z], fun z => V.int.inj z⟩
    rw [← eb]
    refine ite2 (fun c => ?_) (fun c => ?_)
    · refine ⟨_, rfl, _, hD, ?_, ?_, fun c o ec => ?_⟩
      · rw [List.length_map, castL_len]
        exact small1000 (by have := blockedN_len B R Fc i; omega)
      · rw [upd_same, blockedN_succ, if_pos c, castL_app, List.map_append]; rfl
      · rw [upd_ne (ne_of_none ec nD)]; exact sm _ _ ec
    · refine ⟨?_, sm⟩
      rw [hD, blockedN_succ, if_neg c, List.append_nil]
  · obtain ⟨hD, sm⟩ := hP
    exact q D H3 (s1.free nD) (s1.trans sm) hD
end
end Af
namespace Af
open PySem PySem.Spec PyProof.Rows L2
section
variable {P : Program} {w : World} {K : PySem.W.Frag} {mg : Str → Option Value} {base : Heap}
/-! mover -/
def spMover (K : PySem.W.Frag) : Sp := fun vs H Q _ => ∃ (b st : V) (bd sd : PyData) (B : List (List Int)) (R F : List Int), vs = [b, st] ∧ Dp K H b bd ∧ BookD bd B ∧ Dp K H st sd ∧ StateD sd R F ∧ B.length ≤ 1000 ∧ Stands B R ∧ F.length = B.length ∧
  ∀ H', Same H H' → Q (movV (moverO B R F)) H'
theorem ok_mover {f fB : Addr} {fd fdB : FuncData} {k : Nat} (T : Bl mg) (F : Fun K "mover" "mover" sMover f fd)
    (DB : Df K mg "blocked" sBlocked ["book", "state"] fB fdB) (GB : FnOk P w K mg base CX0 k fB fdB ["book", "state"] (spBlocked K)) :
    FnOk P w K mg base CX0 (k + 1) f fd ["book", "state"] (spMover K) := by
  refine F.ok scMover (fun vs H Q E h => ?_) (fun cdv A outer s H vs Q E hr h => ?_)
  · obtain ⟨_, _, _, _, _, _, _, rfl, _⟩ := h; rfl
  obtain ⟨b, st, bd, sd, B, R, Fc, rfl, hb, hB, hst, hSt, hlen, hS, hF, q⟩ := h
  have nd := scMover.nd
  refine ⟨_, pss_cons (ps_set (i := 2) nd rfl (.inr rfl) (pe_do DB GB hr rfl (pa_cons (pv 0) (pa_cons (pv 1) pa_nil))))
    (pss_cons (ps_setLc (i := 3) (own := [("climber", 4)]) (g := gName 4) (tt := tTest (tOp (rIn K true) (tVar 4) (tVar 2))) rfl nd rfl rfl (sw_true rfl rfl rfl (by decide +kernel))
      (pi_range1 rfl T.range (pa_cons (pe_callB call_len_seq rfl T.len bLen (pa_cons (pv 0) pa_nil)) pa_nil))
      (blkOk_by (N := ["book", "state", "stuck", "free", "climber"]) (sc := defScope sMover) (by decide +kernel))
      (fun _ _ _ _ _ => pg_name (i := 4) nd rfl (.inl rfl))
      (fun _ _ _ _ _ => pts_one (pt_cmpR op_notIn_seq (pv 4) (pv 2) rfl))
      (fun _ _ _ _ _ => pv 4))
    (pss_one (ps_ret (pe_ifExp (pt_cmpR op_gt (pe_callB call_len_seq rfl T.len bLen (pa_cons (pv 3) pa_nil)) pe_int (nomark _)) (pe_ix ix_list (pv 3) (pe_un un_neg pe_int) (fun _ _ => rfl)) pe_non)))), ?_⟩
  refine ⟨_, rfl, _, rfl, b, st, bd, sd, B, R, Fc, rfl, hb, hB, hst, hSt, hlen, hS, hF, fun sp H1 nsp s1 esp => ?_⟩
  obtain ⟨ba, xs, rfl, hba, hxl⟩ := book_len (dp_up hb s1) hB
  refine ⟨_, rfl, ba, xs, rfl, hba, _, rfl, by omega, by omega, fun D nD => ?_⟩
  have sD := same_new (o := .lst []) nD
  have en : ((xs.length : Nat) : Int).toNat = B.length := by omega
  rw [en]
  refine lc_range (lo := 0) (n := B.length) (fun i H3 => H3 D = some (.lst ((castL (freeN B R Fc i)).map V.int)) ∧ Same H1 H3) ⟨upd_same, sD⟩ (fun i H3 hi hP => ?_) (fun H3 hP => ?_)
  · obtain ⟨hD, sm⟩ := hP
    have ei : (0 : Int) + (i : Int) = (i : Nat) := Int.zero_add _
    refine ⟨rfl, ?_⟩
    rw [ei]
    refine ⟨_, rfl, _, rfl, sp, _, rfl, .inl (SqL.of (sm _ _ esp)), rfl, flat_cast _, _, rfl, ?_⟩
    rw [inV_cast, in_blocked hi]
    show if (!isBl B R Fc i) = true then _ else _
    cases hb' : isBl B R Fc i with
    | true =>
      refine iteF ⟨?_, sm⟩
      rw [hD, freeN_succ, if_pos hb', List.append_nil]
    | false =>
      refine iteT ⟨_, rfl, _, hD, ?_, ?_, fun c o ec => ?_⟩
      · rw [List.length_map, castL_len]
        exact small1000 (by have := freeN_len B R Fc i; omega)
      · rw [upd_same, freeN_succ, if_neg (by rw [hb']; exact Bool.false_ne_true), castL_app, List.map_append]; rfl
      · rw [upd_ne (ne_of_none ec nD)]; exact sm _ _ ec
  · obtain ⟨hD, sm⟩ := hP
    refine ⟨_, rfl, D, _, rfl, .inl (SqL.of hD), _, _, rfl, rfl, _, rfl, ?_⟩
    have hmo : moverO B R Fc = (freeN B R Fc B.length).getLast? := rfl
    generalize freeN B R Fc B.length = fr at hD hmo
    rcases List.eq_nil_or_concat fr with rfl | ⟨fr0, l, rfl⟩
    · refine iteF ?_
      have z := q H3 (s1.trans sm)
      rw [hmo] at z; exact z
    · have z := q H3 (s1.trans sm)
      rw [hmo, List.concat_eq_append, List.getLast?_append] at z
      refine ite2 (fun _ => ?_) (fun c => ?_)
      · rw [List.concat_eq_append, castL_app, List.map_append] at hD
        exact ⟨_, rfl, 1, rfl, D, _, -1, _, rfl, rfl, SqL.of hD, atI_last _ _, z⟩
      · exact (c (decide_eq_true (by rw [List.length_map, castL_len, List.concat_eq_append, List.length_append]; simp))).elim
end
end Af
namespace Af
open PySem PySem.Spec PyProof.Rows L2
theorem cut_ints (ns : List Int) (lo hi : Option Int) : cutV (ns.map V.int) lo hi = ((ns.drop (HT.sIx ns.length 0 lo)).take (HT.sIx ns.length ns.length hi - HT.sIx ns.length 0 lo)).map V.int := by
  unfold cutV
  rw [List.length_map, List.map_take, List.map_drop]
theorem ixN_nat {n j : Nat} (h : j < n) : ixN n (j : Int) = some j := by
  unfold ixN
  rw [if_pos (by omega), if_pos (by omega), Int.toNat_natCast]
theorem shaped_flat {d : PyData} (h1 : d.canLay0 = true) (h2 : d.depth ≤ 64) : SeqAt.shaped d = true := by
  show (d.canLay0 && decide (d.depth ≤ 64)) = true
  rw [h1, decide_eq_true h2]; rfl
theorem lay_ints : ∀ ns : List Int, PyData.canLayAll0 (ns.map PyData.int) = true
  | [] => by simp [PyData.canLayAll0]
  | n :: ns => by simp [PyData.canLayAll0, PyData.canLay0, lay_ints ns]
theorem shaped_ints (ns : List Int) : SeqAt.shaped (.list (ns.map PyData.int)) = true :=
  shaped_flat (by simp only [PyData.canLay0]; exact lay_ints ns) (by simp only [PyData.depth]; rw [depth_ints]; decide)
theorem eqv_ints_nil (ns : List Int) : PyData.eqv (.list (ns.map PyData.int)) (.list []) = ns.isEmpty := by
  cases ns <;> simp [PyData.eqv, PyData.eqvAll]
theorem dp_lst_ints {K : PySem.W.Frag} {H : Hp} {p : Addr} {ns : List Int} (h : H p = some (.lst (ns.map V.int))) : Dp K H (.ref p) (.list (ns.map PyData.int)) := .lst (SqL.of h) (dps_ints ns)
end Af
namespace Af
open PySem PySem.Spec PyProof.Rows L2
section
variable {P : Program} {w : World} {K : PySem.W.Frag} {mg : Str → Option Value} {base : Heap}
/-- a slice of a list or a tuple -/
theorem sl_seq {X : Cx} : SlR X (fun x lo hi H Q => ∃ (a : Addr) (xs : List V), x = .ref a ∧ Sq X.K H a xs ∧ ∀ (p : Addr) (H' : Hp), Same H H' → Sq X.K H' p (cutV xs lo hi) → Q (.ref p) H') := by
  intro pins s σ H x v vl vu lo hi sl Q I rx hs pl pu h
  obtain ⟨a, xs, rfl, hq, q⟩ := h
  rcases hq with hq | hq
  · exact sl_list pins s σ H _ v vl vu lo hi sl Q I rx hs pl pu ⟨a, xs, rfl, hq, fun p np => q p _ (same_new np) (.inl (SqL.of upd_same))⟩
  · refine sl_tupA pins s σ H _ v vl vu lo hi sl Q I rx hs pl pu ⟨a, xs, rfl, hq, fun e => q a H (Same.refl _) (.inr ?_), fun _ p np => q p _ (same_new np) (.inr (.inl (.inl upd_same)))⟩
    have z : cutV xs lo hi = xs := by
      unfold cutV
      rw [e.1, e.2, List.drop_zero, Nat.sub_zero, List.take_length]
    rw [z]; exact hq
/-! turned -/
def spTurned (K : PySem.W.Frag) : Sp := fun vs H Q _ => ∃ (z : Addr) (st : V) (sd : PyData) (R F : List Int), vs = [st] ∧ H z ≠ none ∧ Dp K (hid H z) st sd ∧ StateD sd R F ∧ F.length ≤ 1000 ∧
  ∀ (p : Addr) (H' : Hp), Same H H' → Dp K (hid H' z) (.ref p) (stateT R (negL F)) → Q (.ref p) H'
/-- tuple(x) of a list or tuple of ints -/
theorem tup_of {K : PySem.W.Frag} {H : Hp} {z a : Addr} {ns : List Int} {Q : VK} (hz : H z ≠ none) (h : Sq K (hid H z) a (ns.map V.int)) (q : ∀ (p : Addr) (H' : Hp), Same H H' → Dp K (hid H' z) (.ref p) (rowT ns) → Q (.ref p) H') :
    ∃ (p : Addr) (ys : List V), [V.ref a] = [.ref p] ∧ ((SqL K H p ys ∧ ∀ l, H l = none → Q (.ref l) (upd H l (.tup ys))) ∨ (SqT K H p ys ∧ Q (.ref p) H)) := by
  rcases h with h | h
  · refine ⟨a, _, rfl, .inl ⟨hid_le.seq h, fun l nl => q l _ (same_new nl) (.tup (.inl (.inl ?_)) (dps_ints ns))⟩⟩
    rw [hid_ne (fun e => hz (by rw [← e]; exact nl)), upd_same]
  · exact ⟨a, _, rfl, .inr ⟨sqt_mono hid_le h, q a H (Same.refl _) (.tup h (dps_ints ns))⟩⟩
theorem call_tupZ {X : Cx} : CallR X (.type "tuple") (fun xs H Q => ∃ (z a : Addr) (ns : List Int), xs = [.ref a] ∧ H z ≠ none ∧ Sq X.K (hid H z) a (ns.map V.int) ∧ ∀ (p : Addr) (H' : Hp), Same H H' → Dp X.K (hid H' z) (.ref p) (rowT ns) → Q (.ref p) H') := by
  intro pins s σ H xs us Q I r h
  obtain ⟨z, a, ns, rfl, hz, hq, q⟩ := h
  exact call_tuple_of pins s σ H _ us Q I r (tup_of hz hq q)
theorem ok_turned {f : Addr} {fd : FuncData} {k : Nat} (T : Bl mg) (F : Fun K "turned" "turned" sTurned f fd) : FnOk P w K mg base CX0 (k + 1) f fd ["state"] (spTurned K) := by
  refine F.ok scTurned (fun vs H Q E h => ?_) (fun cdv A outer s H vs Q E hr h => ?_)
  · obtain ⟨_, _, _, _, _, rfl, _⟩ := h; rfl
  obtain ⟨z, st, sd, R, Fc, rfl, hz, hst, hSt, hF, q⟩ := h
  have nd := scTurned.nd
  refine ⟨_, pss_cons (ps_asg (pv 0) (pg_seq rfl (pgs_cons (pg_name (i := 1) nd rfl (.inl rfl)) (pgs_cons (pg_name (i := 2) nd rfl (.inl rfl)) pgs_nil))))
    (pss_one (ps_ret (pe_tup (pa_cons (pe_callTy call_tupZ rfl T.tuple bTuple (pa_cons (pv 1) pa_nil)) (pa_cons (pe_callTy call_tuple_of rfl T.tuple bTuple (pa_cons
      (pe_lc (own := [("face", 3)]) (g := gName 3) (tt := tYes) rfl nd (pi_seq (pv 2)) (blkOk_by (N := ["state", "standing", "faces", "face"]) (sc := defScope sTurned) (by decide +kernel))
        (fun _ _ _ _ _ => pg_name (i := 3) nd rfl (.inl rfl)) (fun _ _ _ _ _ => pts_nil) (fun _ _ _ _ _ => pe_un un_neg (pv 3))) pa_nil)) pa_nil))))), ?_⟩
  obtain ⟨a, r, fc, rd, fcd, rfl, hq, hr', hR, hf', hFd⟩ := state_at hst hSt
  obtain ⟨ra, rfl, hra⟩ := row_at hr' hR
  obtain ⟨fa, rfl, hfa⟩ := row_at hf' hFd
  refine ⟨_, rfl, a, _, rfl, sq_mono hid_le hq, rfl, _, _, rfl, _, _, rfl, rfl, ?_⟩
  refine ⟨_, rfl, z, ra, R, rfl, hz, hra, fun t H1 s1 ht => ?_⟩
  obtain ⟨bb, hbb⟩ := hfa.kind
  have hbb1 := hbb.up (hid_le.trans s1)
  refine ⟨_, rfl, fa, _, bb, rfl, hbb1, fun J wJ => fun D nD => ?_⟩
  have sD := same_new (o := .lst []) nD
  refine lc_it wJ (fun i H3 => H3 D = some (.lst ((negL (Fc.take i)).map V.int)) ∧ Same H1 H3) ⟨upd_same, sD⟩ (fun i H3 _ hP => hbb1.up hP.2) (fun i v H3 H4 hi hP hy => ?_) (fun H3 hP => ?_)
  · obtain ⟨hD, sm⟩ := hP
    obtain ⟨rfl, e1⟩ := hy
    rw [List.getElem?_map] at e1
    cases e : Fc[i]? with
    | none => rw [e] at e1; cases e1
    | some x =>
      rw [e] at e1
      cases e1
      refine ⟨rfl, yesT ?_⟩
      refine ⟨_, rfl, _, rfl, _, hD, ?_, ?_, fun c o ec => ?_⟩
      · rw [List.length_map, negL_len, List.length_take]; exact small1000 (by omega)
      · rw [upd_same, List.take_add_one, e]
        show _ = some (HO.lst ((negL (Fc.take i ++ [x])).map V.int))
        unfold negL
        rw [List.map_append, List.map_append]; rfl
      · rw [upd_ne (ne_of_none ec nD)]; exact sm _ _ ec
  · obtain ⟨hD, sm⟩ := hP
    rw [List.length_map, List.take_length] at hD
    refine ⟨D, _, rfl, .inl ⟨SqL.of hD, fun u nu => ?_⟩⟩
    have su := same_new (o := .tup ((negL Fc).map V.int)) nu
    refine ⟨by show 2 ≤ sizeLine; decide, fun p np => ?_⟩
    have sp := same_new (o := .tup [.ref t, .ref u]) np
    have c1 := s1.trans sm
    have nuz : u ≠ z := fun e => hz (by rw [← e]; exact c1.free nu)
    have npz : p ≠ z := fun e => hz (by rw [← e]; exact (c1.trans su).free np)
    refine q p _ ((c1.trans su).trans sp) (.tup (.inl (.inl (by rw [hid_ne npz, upd_same]))) (.cons (dp_up ht (hid_mono (sm.trans (su.trans sp)))) (.cons (.tup (.inl (.inl (hid_mono sp _ _ (by rw [hid_ne nuz, upd_same])))) (dps_ints (negL Fc))) .nil)))
/-! beat -/
def spBeat (K : PySem.W.Frag) : Sp := fun vs H Q _ => ∃ (z : Addr) (b st : V) (bd sd : PyData) (B : List (List Int)) (hi : Int) (S : List Int × List Int), vs = [b, st] ∧ H z ≠ none ∧ Dp K H b bd ∧ BookD bd B ∧ Dp K (hid H z) st sd ∧ StateD sd S.1 S.2 ∧ B.length ≤ 1000 ∧ GoodB B hi ∧ Ok B S ∧
  ∀ (p : Addr) (H' : Hp), Same H H' → Dp K (hid H' z) (.ref p) (stD (beatM B S)) → Q (.ref p) H'
theorem ok_beat {f fM fT fL fE : Addr} {fd fdM fdT fdL fdE : FuncData} {k : Nat} (T : Bl mg) (F : Fun K "beat" "beat" sBeat f fd)
    (DM : Df K mg "mover" sMover ["book", "state"] fM fdM) (GM : FnOk P w K mg base CX0 k fM fdM ["book", "state"] (spMover K))
    (DT : Df K mg "turned" sTurned ["state"] fT fdT) (GT : FnOk P w K mg base CX0 k fT fdT ["state"] (spTurned K))
    (DL : Df K mg "length_of" sLengthOf ["book", "rungs", "climber"] fL fdL) (GL : FnOk P w K mg base CX0 k fL fdL ["book", "rungs", "climber"] (spLengthOf K))
    (DE : Df K mg "end_rung" sEndRung ["length", "face"] fE fdE) (GE : FnOk P w K mg base CX0 k fE fdE ["length", "face"] spEnd) :
    FnOk P w K mg base CX0 (k + 1) f fd ["book", "state"] (spBeat K) := by
  refine F.ok scBeat (fun vs H Q E h => ?_) (fun cdv A outer s H vs Q E hr h => ?_)
  · obtain ⟨_, _, _, _, _, _, _, _, rfl, _⟩ := h; rfl
  obtain ⟨z, b, st, bd, sd, B, hi, ⟨R, Fc⟩, rfl, hz, hb, hB, hst, hSt, hlen, hG, hOk, q⟩ := h
  have nd := scBeat.nd
  have hS : Stands B R := hOk.st
  have hFl : Fc.length = B.length := hOk.fl
  have hRl : R.length = B.length := hS.len
  refine ⟨_, pss_cons (ps_set (i := 2) nd rfl (.inl rfl) (pe_do DM GM hr rfl (pa_cons (pv 0) (pa_cons (pv 1) pa_nil))))
    (pss_cons (ps_if (pt_cmp (pc_isN (pv 2))) (pss_one (ps_ret (pe_do DT GT hr rfl (pa_cons (pv 1) pa_nil)))) pss_nil)
    (pss_cons (ps_asg (pv 1) (pg_seq rfl (pgs_cons (pg_name (i := 3) nd rfl (.inl rfl)) (pgs_cons (pg_name (i := 4) nd rfl (.inl rfl)) pgs_nil))))
    (pss_cons (ps_set (i := 5) nd rfl (.inl rfl) (pe_callTy call_list_of rfl T.list bList (pa_cons (pe_slice sl_seq (pv 3) po_none (po_some (pv 2))) pa_nil)))
    (pss_cons (ps_expr (pe_bm PySem.F.plainAttrs_list PySem.F.slot_list_append PySem.F.type_list_append mt_append (pv 5) (pa_cons (pe_op op_add (pe_ix ix_seq (pv 3) (pv 2) (fun _ _ => rfl)) (pe_ix ix_seq (pv 4) (pv 2) (fun _ _ => rfl))) pa_nil)))
    (pss_cons (ps_for PassesOwn.never rfl (pi_range2 rfl T.range (pa_cons (pe_op op_add (pv 2) pe_int) (pa_cons (pe_callB call_len_seq rfl T.len bLen (pa_cons (pv 0) pa_nil)) pa_nil))) (pg_name (i := 6) nd rfl (.inl rfl))
      (pss_one (ps_expr (pe_bm PySem.F.plainAttrs_list PySem.F.slot_list_append PySem.F.type_list_append mt_append (pv 5) (pa_cons (pe_do DE GE hr rfl (pa_cons (pe_do DL GL hr rfl (pa_cons (pv 0) (pa_cons (pv 5) (pa_cons (pv 6) pa_nil)))) (pa_cons (pe_ix ix_seq (pv 4) (pv 6) (fun _ _ => rfl)) pa_nil))) pa_nil)))))
    (pss_cons (ps_set (i := 7) nd rfl (.inl rfl) (pe_callTy call_list_of rfl T.list bList (pa_cons (pe_slice sl_seq (pv 4) po_none (po_some (pe_op op_add (pv 2) pe_int))) pa_nil)))
    (pss_cons (ps_setLc (i := 8) (own := [("face", 9)]) (g := gName 9) (tt := tYes) rfl nd rfl rfl (sw_true rfl rfl rfl (by decide +kernel)) (pi_seq (pe_slice sl_seq (pv 4) (po_some (pe_op op_add (pv 2) pe_int)) po_none))
      (blkOk_by (N := ["book", "state", "goer", "standing", "faces", "rungs", "climber", "kept", "negated", "face"]) (sc := defScope sBeat) (by decide +kernel))
      (fun _ _ _ _ _ => pg_name (i := 9) nd rfl (.inl rfl)) (fun _ _ _ _ _ => pts_nil) (fun _ _ _ _ _ => pe_un un_neg (pv 9)))
    (pss_one (ps_ret (pe_tup (pa_cons (pe_callTy call_tupZ rfl T.tuple bTuple (pa_cons (pv 5) pa_nil)) (pa_cons (pe_callTy call_tupZ rfl T.tuple bTuple (pa_cons (pe_op op_cat (pv 7) (pv 8)) pa_nil)) pa_nil)))))))))))), ?_⟩
  refine ⟨_, rfl, _, rfl, b, st, bd, sd, B, R, Fc, rfl, hb, hB, dp_up hst hid_le, hSt, hlen, hS, hFl, fun H1 s1 => ?_⟩
  cases hm : moverO B R Fc with
  | none =>
    refine ⟨_, rfl, _, rfl, iteT ?_⟩
    have hz1 : H1 z ≠ none := fun e => hz (s1.free e)
    refine ⟨_, rfl, z, st, sd, R, Fc, rfl, hz1, dp_up hst (hid_mono s1), hSt, by omega, fun p H2 s2 hp => ?_⟩
    refine q p H2 (s1.trans s2) ?_
    have e : beatM B (R, Fc) = (R, negL Fc) := by unfold beatM; rw [show moverO B (R, Fc).1 (R, Fc).2 = none from hm]; rfl
    rw [e]; exact hp
  | some g =>
    obtain ⟨n, r, fg, hg, e1, e2, e3, r1, r2, hne, hf, v1, v2⟩ := mover_new hG hOk hm
    obtain ⟨t1, t2⟩ := take_stands (v := r + fg) hS hg e1 v1 v2
    refine ⟨_, rfl, _, rfl, iteF ?_⟩
    obtain ⟨a, rv, fv, rd, fcd, rfl, hq, hr', hR, hf', hFd⟩ := state_at hst hSt
    obtain ⟨ra, rfl, hra⟩ := row_at hr' hR
    obtain ⟨fa, rfl, hfa⟩ := row_at hf' hFd
    refine ⟨_, rfl, a, _, rfl, sq_mono (hid_le.trans s1) hq, rfl, _, _, rfl, _, _, rfl, rfl, ?_⟩
    -- rungs = list(standing[:goer])
    refine ⟨_, rfl, _, rfl, _, rfl, ra, _, rfl, sq_mono (hid_le.trans s1) hra, fun c1 H2 s2 hc1 => ?_⟩
    rw [cut_ints, HT.sIx_nat, HT.sIx_none, List.drop_zero, Nat.sub_zero, show min g R.length = g by omega] at hc1
    have q2 := s1.trans s2
    refine ⟨c1, _, rfl, hc1, fun ru nru => ?_⟩
    have s3 := same_new (o := .lst ((R.take g).map V.int)) nru
    have q3 := q2.trans s3
    have nruH : H ru = none := q2.free nru
    have nruz : ru ≠ z := fun e => hz (by rw [← e]; exact nruH)
    -- rungs.append
    refine ⟨_, rfl, .inl ⟨rfl, _, SqL.of upd_same⟩, _, rfl, _, rfl, ix_of (sq_mono (hid_le.trans q3) hra) (atI_nat (j := g) (by rw [List.getElem?_map, e2]; rfl)) ?_⟩
    refine ⟨_, rfl, _, rfl, ix_of (sq_mono (hid_le.trans q3) hfa) (atI_nat (j := g) (by rw [List.getElem?_map, e3]; rfl)) ?_⟩
    refine ⟨_, _, rfl, rfl, ru, _, _, rfl, rfl, upd_same, ?_, ?_⟩
    · rw [List.length_map, List.length_take]; exact small1000 (by omega)
    have q4 : Same H (upd (upd H2 ru (.lst ((R.take g).map V.int))) ru (.lst ((R.take g).map V.int ++ [V.int (r + fg)]))) := fun c o ec => by
      rw [upd_ne (ne_of_none ec nruH)]; exact q3 _ _ ec
    have e4 : (upd (upd H2 ru (.lst ((R.take g).map V.int))) ru (.lst ((R.take g).map V.int ++ [V.int (r + fg)]))) ru = some (.lst ((R.take g ++ [r + fg]).map V.int)) := by rw [upd_same, List.map_append]; rfl
    generalize upd (upd H2 ru (.lst ((R.take g).map V.int))) ru (.lst ((R.take g).map V.int ++ [V.int (r + fg)])) = H4 at q4 e4
    -- the younger ones
    obtain ⟨ba, xs, rfl, hba, hxl⟩ := book_len (dp_up hb q4) hB
    refine ⟨_, rfl, _, _, rfl, rfl, _, rfl, ba, xs, rfl, hba, _, _, rfl, ⟨by omega, by omega, by omega, by omega⟩, ?_⟩
    have en : (((xs.length : Nat) : Int) - (((g : Nat) : Int) + 1)).toNat = B.length - (g + 1) := by omega
    rw [en]
    refine for_range (lo := (g : Int) + 1) (n := B.length - (g + 1)) (fun j σ H5 => ∃ y6 : Option V, σ = [some (.ref ba), some (.ref a), some (.int (g : Nat)), some (.ref ra), some (.ref fa), some (.ref ru), y6, none, none, none] ∧ H5 ru = some (.lst ((goB B Fc j (R.take g ++ [r + fg])).map V.int)) ∧ Same H H5)
      ⟨none, rfl, e4, q4⟩ (fun j σ H5 hj hP => ?_) (fun σ H5 hP => ?_)
    · obtain ⟨y6, rfl, hru, sm⟩ := hP
      have gl := goB_len B Fc j (R.take g ++ [r + fg])
      rw [t2] at gl
      have gs := goB_stands (F := Fc) hG j (R.take g ++ [r + fg]) (by rw [t2]; omega) (by rw [t2]; exact t1)
      rw [t2] at gs
      obtain ⟨n2, l1, l2, l3⟩ := len_ex hG (show g + 1 + j < B.length by omega) gs
      have hF2 : Fc[g + 1 + j]? = some Fc[g + 1 + j] := List.getElem?_eq_getElem (by omega)
      have ej : ((g : Nat) : Int) + 1 + (j : Nat) = ((g + 1 + j : Nat) : Int) := by omega
      have step : goB B Fc (j + 1) (R.take g ++ [r + fg]) = goB B Fc j (R.take g ++ [r + fg]) ++ [endR n2 Fc[g + 1 + j]] := by
        rw [goB_snoc, gl, l1, hF2]; rfl
      refine ⟨_, rfl, .inl ⟨rfl, _, SqL.of hru⟩, ?_⟩
      refine ⟨_, rfl, _, rfl, _, rfl, _, _, g + 1 + j, bd, rowL (goB B Fc j (R.take g ++ [r + fg])), B, _, n2, ?_, dp_up hb sm, hB, dp_lst_ints hru, rowL_row _, l1, ?_⟩
      · show [V.ref ba, V.ref ru, V.int ((g : Int) + 1 + (j : Int))] = _
        rw [ej]
      refine ⟨_, rfl, _, rfl, ix_of (sq_mono (hid_le.trans sm) hfa) (v := V.int Fc[g + 1 + j]) ?_ ?_⟩
      · rw [ej]; exact atI_nat (by rw [List.getElem?_map, hF2]; rfl)
      refine ⟨_, _, rfl, ru, _, _, rfl, rfl, hru, ?_, _, rfl, ?_, fun c o ec => ?_⟩
      · rw [List.length_map]; exact small1000 (by omega)
      · rw [upd_same, step, List.map_append]; rfl
      · rw [upd_ne (ne_of_none ec nruH)]; exact sm _ _ ec
    obtain ⟨y6, rfl, hru5, q5⟩ := hP
    generalize hR2 : goB B Fc (B.length - (g + 1)) (R.take g ++ [r + fg]) = R2 at hru5
    -- kept
    have eg : ((g : Nat) : Int) + 1 = ((g + 1 : Nat) : Int) := by omega
    refine ⟨_, rfl, _, rfl, _, _, rfl, rfl, _, rfl, fa, _, rfl, sq_mono (hid_le.trans q5) hfa, fun c2 H6 s6 hc2 => ?_⟩
    rw [cut_ints, show HT.sIx Fc.length Fc.length (some (((g : Nat) : Int) + 1)) = min (g + 1) Fc.length from by rw [eg]; exact HT.sIx_nat _ _ _, HT.sIx_none, List.drop_zero, Nat.sub_zero, show min (g + 1) Fc.length = g + 1 by omega] at hc2
    have q6 := q5.trans s6
    refine ⟨c2, _, rfl, hc2, fun ke nke => ?_⟩
    have s7 := same_new (o := .lst ((Fc.take (g + 1)).map V.int)) nke
    have q7 := q6.trans s7
    have eke : (upd H6 ke (.lst ((Fc.take (g + 1)).map V.int))) ke = some (.lst ((Fc.take (g + 1)).map V.int)) := upd_same
    have eru7 := s7 _ _ (s6 _ _ hru5)
    generalize upd H6 ke (.lst ((Fc.take (g + 1)).map V.int)) = H7 at q7 eke eru7
    -- negated
    refine ⟨_, rfl, _, rfl, _, _, rfl, rfl, _, rfl, fa, _, rfl, sq_mono (hid_le.trans q7) hfa, fun c3 H8 s8 hc3 => ?_⟩
    rw [cut_ints, show HT.sIx Fc.length 0 (some (((g : Nat) : Int) + 1)) = min (g + 1) Fc.length from by rw [eg]; exact HT.sIx_nat _ _ _, HT.sIx_none, show min (g + 1) Fc.length = g + 1 by omega, show (Fc.drop (g + 1)).take (Fc.length - (g + 1)) = Fc.drop (g + 1) from List.take_of_length_le (by rw [List.length_drop]; exact Nat.le_refl _)] at hc3
    have q8 := q7.trans s8
    obtain ⟨bb, hbb⟩ := hc3.kind
    refine ⟨c3, (Fc.drop (g + 1)).map V.int, bb, rfl, hbb, fun J wJ => fun D nD => ?_⟩
    have sD := same_new (o := .lst []) nD
    refine lc_it wJ (fun i H9 => H9 D = some (.lst ((negL ((Fc.drop (g + 1)).take i)).map V.int)) ∧ Same H8 H9) ⟨upd_same, sD⟩ (fun i H9 _ hP => hbb.up hP.2) (fun i v H9 H10 hi hP hy => ?_) (fun H9 hP => ?_)
    · obtain ⟨hD, sm⟩ := hP
      obtain ⟨rfl, e1⟩ := hy
      rw [List.getElem?_map] at e1
      cases e : (Fc.drop (g + 1))[i]? with
      | none => rw [e] at e1; cases e1
      | some x =>
        rw [e] at e1
        cases e1
        refine ⟨rfl, yesT ?_⟩
        refine ⟨_, rfl, _, rfl, _, hD, ?_, ?_, fun c o ec => ?_⟩
        · rw [List.length_map, negL_len, List.length_take, List.length_drop]; exact small1000 (by omega)
        · rw [upd_same, List.take_add_one, e]
          show _ = some (HO.lst ((negL ((Fc.drop (g + 1)).take i ++ [x])).map V.int))
          unfold negL
          rw [List.map_append, List.map_append]; rfl
        · rw [upd_ne (ne_of_none ec nD)]; exact sm _ _ ec
    obtain ⟨hD, s9⟩ := hP
    rw [List.length_map, List.take_length] at hD
    have q9 := q8.trans s9
    have eru9 := s9 _ _ (s8 _ _ eru7)
    have eke9 := s9 _ _ (s8 _ _ eke)
    have hz9 : H9 z ≠ none := fun e => hz (q9.free e)
    -- the end
    refine ⟨_, rfl, z, ru, R2, rfl, hz9, .inl (SqL.of (by rw [hid_ne nruz]; exact eru9)), fun t H10 s10 ht => ?_⟩
    have q10 := q9.trans s10
    refine ⟨_, rfl, _, rfl, ke, D, _, _, rfl, rfl, s10 _ _ eke9, s10 _ _ hD, ?_, fun u nu => ?_⟩
    · rw [List.length_map, List.length_map, List.length_take, negL_len, List.length_drop]
      exact Nat.le_of_lt (small1000 (by omega))
    have s11 := same_new (o := .lst ((Fc.take (g + 1)).map V.int ++ (negL (Fc.drop (g + 1))).map V.int)) nu
    have q11 := q10.trans s11
    have nuz : u ≠ z := fun e => hz (by rw [← e]; exact q10.free nu)
    have hz11 := fun e => hz (q11.free (l := z) e)
    refine ⟨z, u, Fc.take (g + 1) ++ negL (Fc.drop (g + 1)), rfl, hz11, .inl (SqL.of (by rw [hid_ne nuz, upd_same, List.map_append])), fun t2 H12 s12 ht2 => ?_⟩
    have q12 := q11.trans s12
    refine ⟨by show 2 ≤ sizeLine; decide, fun p np => ?_⟩
    have sp := same_new (o := .tup [.ref t, .ref t2]) np
    have npz : p ≠ z := fun e => hz (by rw [← e]; exact q12.free np)
    refine q p _ (q12.trans sp) ?_
    have e : beatM B (R, Fc) = (R2, Fc.take (g + 1) ++ negL (Fc.drop (g + 1))) := by
      unfold beatM
      rw [show moverO B (R, Fc).1 (R, Fc).2 = some g from hm]
      show (goB B Fc _ (R.take g ++ [R[g]?.getD 0 + Fc[g]?.getD 0]), _) = _
      rw [e2, e3, ← hR2]; rfl
    rw [e]
    exact .tup (.inl (.inl (by rw [hid_ne npz, upd_same]))) (.cons (dp_up ht (hid_mono ((s11.trans s12).trans sp))) (.cons (dp_up ht2 (hid_mono sp)) .nil))
end
end Af
namespace Af
open PySem PySem.Spec PyProof.Rows L2
section
variable {P : Program} {w : World} {K : PySem.W.Frag} {mg : Str → Option Value} {base : Heap}
def spBeatP (K : PySem.W.Frag) : Sp := fun vs H Q _ => ∃ (b st : V) (bd : PyData) (B : List (List Int)) (hi : Int) (S : List Int × List Int), vs = [b, st] ∧ Dp K H b bd ∧ BookD bd B ∧ PSt H st S ∧ B.length ≤ 1000 ∧ GoodB B hi ∧ Ok B S ∧
  ∀ (p : Addr) (H' : Hp), Same H H' → PSt H' (.ref p) (beatM B S) → Q (.ref p) H'
theorem ok_beatP {f fM fT fL fE : Addr} {fd fdM fdT fdL fdE : FuncData} {k : Nat} (T : Bl mg) (F : Fun K "beat" "beat" sBeat f fd)
    (DM : Df K mg "mover" sMover ["book", "state"] fM fdM) (GM : FnOk P w K mg base CX0 k fM fdM ["book", "state"] (spMover K))
    (DT : Df K mg "turned" sTurned ["state"] fT fdT) (GT : FnOk P w K mg base CX0 k fT fdT ["state"] spTurnedP)
    (DL : Df K mg "length_of" sLengthOf ["book", "rungs", "climber"] fL fdL) (GL : FnOk P w K mg base CX0 k fL fdL ["book", "rungs", "climber"] (spLengthOf K))
    (DE : Df K mg "end_rung" sEndRung ["length", "face"] fE fdE) (GE : FnOk P w K mg base CX0 k fE fdE ["length", "face"] spEnd) :
    FnOk P w K mg base CX0 (k + 1) f fd ["book", "state"] (spBeatP K) := by
  refine F.ok scBeat (fun vs H Q E h => ?_) (fun cdv A outer s H vs Q E hr h => ?_)
  · obtain ⟨_, _, _, _, _, _, rfl, _⟩ := h; rfl
  obtain ⟨b, st, bd, B, hi, ⟨R, Fc⟩, rfl, hb, hB, hPS, hlen, hG, hOk, q⟩ := h
  obtain ⟨a, ra, fa, rfl, ha0, hra0, hfa0⟩ := id hPS
  have hq : Sq K H a [.ref ra, .ref fa] := .inr (.inl (.inl ha0))
  have hra : Sq K H ra (R.map V.int) := .inr (.inl (.inl hra0))
  have hfa : Sq K H fa (Fc.map V.int) := .inr (.inl (.inl hfa0))
  have nd := scBeat.nd
  have hS : Stands B R := hOk.st
  have hFl : Fc.length = B.length := hOk.fl
  have hRl : R.length = B.length := hS.len
  refine ⟨_, pss_cons (ps_set (i := 2) nd rfl (.inl rfl) (pe_do DM GM hr rfl (pa_cons (pv 0) (pa_cons (pv 1) pa_nil))))
    (pss_cons (ps_if (pt_cmp (pc_isN (pv 2))) (pss_one (ps_ret (pe_do DT GT hr rfl (pa_cons (pv 1) pa_nil)))) pss_nil)
    (pss_cons (ps_asg (pv 1) (pg_seq rfl (pgs_cons (pg_name (i := 3) nd rfl (.inl rfl)) (pgs_cons (pg_name (i := 4) nd rfl (.inl rfl)) pgs_nil))))
    (pss_cons (ps_set (i := 5) nd rfl (.inl rfl) (pe_callTy call_list_of rfl T.list bList (pa_cons (pe_slice sl_seq (pv 3) po_none (po_some (pv 2))) pa_nil)))
    (pss_cons (ps_expr (pe_bm PySem.F.plainAttrs_list PySem.F.slot_list_append PySem.F.type_list_append mt_append (pv 5) (pa_cons (pe_op op_add (pe_ix ix_seq (pv 3) (pv 2) (fun _ _ => rfl)) (pe_ix ix_seq (pv 4) (pv 2) (fun _ _ => rfl))) pa_nil)))
    (pss_cons (ps_for PassesOwn.never rfl (pi_range2 rfl T.range (pa_cons (pe_op op_add (pv 2) pe_int) (pa_cons (pe_callB call_len_seq rfl T.len bLen (pa_cons (pv 0) pa_nil)) pa_nil))) (pg_name (i := 6) nd rfl (.inl rfl))
      (pss_one (ps_expr (pe_bm PySem.F.plainAttrs_list PySem.F.slot_list_append PySem.F.type_list_append mt_append (pv 5) (pa_cons (pe_do DE GE hr rfl (pa_cons (pe_do DL GL hr rfl (pa_cons (pv 0) (pa_cons (pv 5) (pa_cons (pv 6) pa_nil)))) (pa_cons (pe_ix ix_seq (pv 4) (pv 6) (fun _ _ => rfl)) pa_nil))) pa_nil)))))
    (pss_cons (ps_set (i := 7) nd rfl (.inl rfl) (pe_callTy call_list_of rfl T.list bList (pa_cons (pe_slice sl_seq (pv 4) po_none (po_some (pe_op op_add (pv 2) pe_int))) pa_nil)))
    (pss_cons (ps_setLc (i := 8) (own := [("face", 9)]) (g := gName 9) (tt := tYes) rfl nd rfl rfl (sw_true rfl rfl rfl (by decide +kernel)) (pi_seq (pe_slice sl_seq (pv 4) (po_some (pe_op op_add (pv 2) pe_int)) po_none))
      (blkOk_by (N := ["book", "state", "goer", "standing", "faces", "rungs", "climber", "kept", "negated", "face"]) (sc := defScope sBeat) (by decide +kernel))
      (fun _ _ _ _ _ => pg_name (i := 9) nd rfl (.inl rfl)) (fun _ _ _ _ _ => pts_nil) (fun _ _ _ _ _ => pe_un un_neg (pv 9)))
    (pss_one (ps_ret (pe_tup (pa_cons (pe_callTy call_tuple_of rfl T.tuple bTuple (pa_cons (pv 5) pa_nil)) (pa_cons (pe_callTy call_tuple_of rfl T.tuple bTuple (pa_cons (pe_op op_cat (pv 7) (pv 8)) pa_nil)) pa_nil)))))))))))), ?_⟩
  refine ⟨_, rfl, _, rfl, b, .ref a, bd, stD (R, Fc), B, R, Fc, rfl, hb, hB, hPS.dp, stateT_state _ _, hlen, hS, hFl, fun H1 s1 => ?_⟩
  cases hm : moverO B R Fc with
  | none =>
    refine ⟨_, rfl, _, rfl, iteT ?_⟩
    refine ⟨_, rfl, .ref a, (R, Fc), rfl, hPS.up s1, (by show Fc.length ≤ 1000; omega), fun p H2 s2 hp => ?_⟩
    refine q p H2 (s1.trans s2) ?_
    have e : beatM B (R, Fc) = (R, negL Fc) := by unfold beatM; rw [show moverO B (R, Fc).1 (R, Fc).2 = none from hm]; rfl
    rw [e]; exact hp
  | some g =>
    obtain ⟨n, r, fg, hg, e1, e2, e3, r1, r2, hne, hf, v1, v2⟩ := mover_new hG hOk hm
    obtain ⟨t1, t2⟩ := take_stands (v := r + fg) hS hg e1 v1 v2
    refine ⟨_, rfl, _, rfl, iteF ?_⟩
    refine ⟨_, rfl, a, _, rfl, sq_mono (s1) hq, rfl, _, _, rfl, _, _, rfl, rfl, ?_⟩
    -- rungs = list(standing[:goer])
    refine ⟨_, rfl, _, rfl, _, rfl, ra, _, rfl, sq_mono (s1) hra, fun c1 H2 s2 hc1 => ?_⟩
    rw [cut_ints, HT.sIx_nat, HT.sIx_none, List.drop_zero, Nat.sub_zero, show min g R.length = g by omega] at hc1
    have q2 := s1.trans s2
    refine ⟨c1, _, rfl, hc1, fun ru nru => ?_⟩
    have s3 := same_new (o := .lst ((R.take g).map V.int)) nru
    have q3 := q2.trans s3
    have nruH : H ru = none := q2.free nru
    -- rungs.append
    refine ⟨_, rfl, .inl ⟨rfl, _, SqL.of upd_same⟩, _, rfl, _, rfl, ix_of (sq_mono (q3) hra) (atI_nat (j := g) (by rw [List.getElem?_map, e2]; rfl)) ?_⟩
    refine ⟨_, rfl, _, rfl, ix_of (sq_mono (q3) hfa) (atI_nat (j := g) (by rw [List.getElem?_map, e3]; rfl)) ?_⟩
    refine ⟨_, _, rfl, rfl, ru, _, _, rfl, rfl, upd_same, ?_, ?_⟩
    · rw [List.length_map, List.length_take]; exact small1000 (by omega)
    have q4 : Same H (upd (upd H2 ru (.lst ((R.take g).map V.int))) ru (.lst ((R.take g).map V.int ++ [V.int (r + fg)]))) := fun c o ec => by
      rw [upd_ne (ne_of_none ec nruH)]; exact q3 _ _ ec
    have e4 : (upd (upd H2 ru (.lst ((R.take g).map V.int))) ru (.lst ((R.take g).map V.int ++ [V.int (r + fg)]))) ru = some (.lst ((R.take g ++ [r + fg]).map V.int)) := by rw [upd_same, List.map_append]; rfl
    generalize upd (upd H2 ru (.lst ((R.take g).map V.int))) ru (.lst ((R.take g).map V.int ++ [V.int (r + fg)])) = H4 at q4 e4
    -- the younger ones
    obtain ⟨ba, xs, rfl, hba, hxl⟩ := book_len (dp_up hb q4) hB
    refine ⟨_, rfl, _, _, rfl, rfl, _, rfl, ba, xs, rfl, hba, _, _, rfl, ⟨by omega, by omega, by omega, by omega⟩, ?_⟩
    have en : (((xs.length : Nat) : Int) - (((g : Nat) : Int) + 1)).toNat = B.length - (g + 1) := by omega
    rw [en]
    refine for_range (lo := (g : Int) + 1) (n := B.length - (g + 1)) (fun j σ H5 => ∃ y6 : Option V, σ = [some (.ref ba), some (.ref a), some (.int (g : Nat)), some (.ref ra), some (.ref fa), some (.ref ru), y6, none, none, none] ∧ H5 ru = some (.lst ((goB B Fc j (R.take g ++ [r + fg])).map V.int)) ∧ Same H H5)
      ⟨none, rfl, e4, q4⟩ (fun j σ H5 hj hP => ?_) (fun σ H5 hP => ?_)
    · obtain ⟨y6, rfl, hru, sm⟩ := hP
      have gl := goB_len B Fc j (R.take g ++ [r + fg])
      rw [t2] at gl
      have gs := goB_stands (F := Fc) hG j (R.take g ++ [r + fg]) (by rw [t2]; omega) (by rw [t2]; exact t1)
      rw [t2] at gs
      obtain ⟨n2, l1, l2, l3⟩ := len_ex hG (show g + 1 + j < B.length by omega) gs
      have hF2 : Fc[g + 1 + j]? = some Fc[g + 1 + j] := List.getElem?_eq_getElem (by omega)
      have ej : ((g : Nat) : Int) + 1 + (j : Nat) = ((g + 1 + j : Nat) : Int) := by omega
      have step : goB B Fc (j + 1) (R.take g ++ [r + fg]) = goB B Fc j (R.take g ++ [r + fg]) ++ [endR n2 Fc[g + 1 + j]] := by
        rw [goB_snoc, gl, l1, hF2]; rfl
      refine ⟨_, rfl, .inl ⟨rfl, _, SqL.of hru⟩, ?_⟩
      refine ⟨_, rfl, _, rfl, _, rfl, _, _, g + 1 + j, bd, rowL (goB B Fc j (R.take g ++ [r + fg])), B, _, n2, ?_, dp_up hb sm, hB, dp_lst_ints hru, rowL_row _, l1, ?_⟩
      · show [V.ref ba, V.ref ru, V.int ((g : Int) + 1 + (j : Int))] = _
        rw [ej]
      refine ⟨_, rfl, _, rfl, ix_of (sq_mono (sm) hfa) (v := V.int Fc[g + 1 + j]) ?_ ?_⟩
      · rw [ej]; exact atI_nat (by rw [List.getElem?_map, hF2]; rfl)
      refine ⟨_, _, rfl, ru, _, _, rfl, rfl, hru, ?_, _, rfl, ?_, fun c o ec => ?_⟩
      · rw [List.length_map]; exact small1000 (by omega)
      · rw [upd_same, step, List.map_append]; rfl
      · rw [upd_ne (ne_of_none ec nruH)]; exact sm _ _ ec
    obtain ⟨y6, rfl, hru5, q5⟩ := hP
    generalize hR2 : goB B Fc (B.length - (g + 1)) (R.take g ++ [r + fg]) = R2 at hru5
    -- kept
    have eg : ((g : Nat) : Int) + 1 = ((g + 1 : Nat) : Int) := by omega
    refine ⟨_, rfl, _, rfl, _, _, rfl, rfl, _, rfl, fa, _, rfl, sq_mono (q5) hfa, fun c2 H6 s6 hc2 => ?_⟩
    rw [cut_ints, show HT.sIx Fc.length Fc.length (some (((g : Nat) : Int) + 1)) = min (g + 1) Fc.length from by rw [eg]; exact HT.sIx_nat _ _ _, HT.sIx_none, List.drop_zero, Nat.sub_zero, show min (g + 1) Fc.length = g + 1 by omega] at hc2
    have q6 := q5.trans s6
    refine ⟨c2, _, rfl, hc2, fun ke nke => ?_⟩
    have s7 := same_new (o := .lst ((Fc.take (g + 1)).map V.int)) nke
    have q7 := q6.trans s7
    have eke : (upd H6 ke (.lst ((Fc.take (g + 1)).map V.int))) ke = some (.lst ((Fc.take (g + 1)).map V.int)) := upd_same
    have eru7 := s7 _ _ (s6 _ _ hru5)
    generalize upd H6 ke (.lst ((Fc.take (g + 1)).map V.int)) = H7 at q7 eke eru7
    -- negated
    refine ⟨_, rfl, _, rfl, _, _, rfl, rfl, _, rfl, fa, _, rfl, sq_mono (q7) hfa, fun c3 H8 s8 hc3 => ?_⟩
    rw [cut_ints, show HT.sIx Fc.length 0 (some (((g : Nat) : Int) + 1)) = min (g + 1) Fc.length from by rw [eg]; exact HT.sIx_nat _ _ _, HT.sIx_none, show min (g + 1) Fc.length = g + 1 by omega, show (Fc.drop (g + 1)).take (Fc.length - (g + 1)) = Fc.drop (g + 1) from List.take_of_length_le (by rw [List.length_drop]; exact Nat.le_refl _)] at hc3
    have q8 := q7.trans s8
    obtain ⟨bb, hbb⟩ := hc3.kind
    refine ⟨c3, (Fc.drop (g + 1)).map V.int, bb, rfl, hbb, fun J wJ => fun D nD => ?_⟩
    have sD := same_new (o := .lst []) nD
    refine lc_it wJ (fun i H9 => H9 D = some (.lst ((negL ((Fc.drop (g + 1)).take i)).map V.int)) ∧ Same H8 H9) ⟨upd_same, sD⟩ (fun i H9 _ hP => hbb.up hP.2) (fun i v H9 H10 hi hP hy => ?_) (fun H9 hP => ?_)
    · obtain ⟨hD, sm⟩ := hP
      obtain ⟨rfl, e1⟩ := hy
      rw [List.getElem?_map] at e1
      cases e : (Fc.drop (g + 1))[i]? with
      | none => rw [e] at e1; cases e1
      | some x =>
        rw [e] at e1
        cases e1
        refine ⟨rfl, yesT ?_⟩
        refine ⟨_, rfl, _, rfl, _, hD, ?_, ?_, fun c o ec => ?_⟩
        · rw [List.length_map, negL_len, List.length_take, List.length_drop]; exact small1000 (by omega)
        · rw [upd_same, List.take_add_one, e]
          show _ = some (HO.lst ((negL ((Fc.drop (g + 1)).take i ++ [x])).map V.int))
          unfold negL
          rw [List.map_append, List.map_append]; rfl
        · rw [upd_ne (ne_of_none ec nD)]; exact sm _ _ ec
    obtain ⟨hD, s9⟩ := hP
    rw [List.length_map, List.take_length] at hD
    have q9 := q8.trans s9
    have eru9 := s9 _ _ (s8 _ _ eru7)
    have eke9 := s9 _ _ (s8 _ _ eke)
    -- the end
    refine ⟨_, rfl, ru, _, rfl, .inl ⟨SqL.of eru9, fun t nt => ?_⟩⟩
    have s10 := same_new (o := .tup (R2.map V.int)) nt
    have et : (upd H9 t (.tup (R2.map V.int))) t = some (.tup (R2.map V.int)) := upd_same
    generalize upd H9 t (.tup (R2.map V.int)) = H10 at s10 et
    have q10 := q9.trans s10
    refine ⟨_, rfl, _, rfl, ke, D, _, _, rfl, rfl, s10 _ _ eke9, s10 _ _ hD, ?_, fun u nu => ?_⟩
    · rw [List.length_map, List.length_map, List.length_take, negL_len, List.length_drop]
      exact Nat.le_of_lt (small1000 (by omega))
    have s11 := same_new (o := .lst ((Fc.take (g + 1)).map V.int ++ (negL (Fc.drop (g + 1))).map V.int)) nu
    have q11 := q10.trans s11
    refine ⟨u, _, rfl, .inl ⟨SqL.of upd_same, fun t2 nt2 => ?_⟩⟩
    have em : ((Fc.take (g + 1)).map V.int ++ (negL (Fc.drop (g + 1))).map V.int) = (Fc.take (g + 1) ++ negL (Fc.drop (g + 1))).map V.int := by rw [List.map_append]
    rw [em] at nt2 s11 q11 ⊢
    have s12 := same_new (o := .tup ((Fc.take (g + 1) ++ negL (Fc.drop (g + 1))).map V.int)) nt2
    have q12 := q11.trans s12
    refine ⟨by show 2 ≤ sizeLine; decide, fun p np => ?_⟩
    have sp := same_new (o := .tup [.ref t, .ref t2]) np
    refine q p _ (q12.trans sp) ?_
    have e : beatM B (R, Fc) = (R2, Fc.take (g + 1) ++ negL (Fc.drop (g + 1))) := by
      unfold beatM
      rw [show moverO B (R, Fc).1 (R, Fc).2 = some g from hm]
      show (goB B Fc _ (R.take g ++ [R[g]?.getD 0 + Fc[g]?.getD 0]), _) = _
      rw [e2, e3, ← hR2]; rfl
    rw [e]
    exact ⟨p, t, t2, rfl, upd_same, sp _ _ (s12 _ _ (s11 _ _ et)), sp _ _ upd_same⟩
end
end Af
namespace Af
open PySem PySem.Spec PyProof.Rows L2
section
variable {P : Program} {w : World} {K : PySem.W.Frag} {mg : Str → Option Value} {base : Heap}
/-! _law_cells -/
def spCells (K : PySem.W.Frag) : Sp := fun vs H Q _ => ∃ (a : Addr) (ns : List Int) (most : Nat), vs = [.ref a, .int most] ∧ SqL K H a (ns.map V.int) ∧ ns.length ≤ 63 ∧ 1 ≤ most ∧ most ≤ 10 ∧
  ∀ (p : Addr) (H' : Hp) (cs : List Int), H p = none → Same H H' → H' p = some (.lst (cs.map V.int)) → cs.length ≤ most → 1 ≤ cs.length → Q (.ref p) H'
theorem ok_cells {f : Addr} {fd : FuncData} {k : Nat} (T : Bl mg) (F : Fun K "_law_cells" "_law_cells" sLawCells f fd) : FnOk P w K mg base CX0 (k + 1) f fd ["_law_script", "_law_most"] (spCells K) := by
  refine F.ok scLawCells (fun vs H Q E h => ?_) (fun cdv A outer s H vs Q E hr h => ?_)
  · obtain ⟨_, _, _, rfl, _⟩ := h; rfl
  obtain ⟨a, ns, most, rfl, hS, h63, m1, m2, q⟩ := h
  have hu := hr.units
  refine ⟨_, pss_cons (ps_set (i := 2) scLawCells.nd rfl (.inl rfl) (pe_callTy call_list_of rfl T.list bList (pa_cons (pe_slice sl_list (pv 0) po_none (po_some (pv 1))) pa_nil)))
    (pss_cons (ps_for PassesOwn.never rfl (pi_enum rfl T.enum (pa_cons (pe_slice sl_list (pv 0) (po_some (pv 1)) (po_some pe_int)) pa_nil))
        (pg_tup rfl (pgs_cons (pg_name (i := 3) scLawCells.nd rfl (.inl rfl)) (pgs_cons (pg_name (i := 4) scLawCells.nd rfl (.inl rfl)) pgs_nil)))
        (pss_one (ps_asg (pe_op op_add (pe_ix ix_list (pv 2) (pe_op op_mod (pv 3) (pv 1)) (fun _ _ => rfl)) (pe_op op_mul (pv 4) (pe_op op_add (pv 3) pe_int))) (pg_sub (pv 2) (pe_op op_mod (pv 3) (pv 1)) set_list))))
    (pss_one (ps_ret (pe_ifExp (pt_cmpR (op_neD hu) (pv 2) (pe_lst pa_nil) (nomark _)) (pv 2) (pe_lst (pa_cons pe_int pa_nil)))))), ?_⟩
  -- list(script[:most])
  refine ⟨_, rfl, _, rfl, _, rfl, a, _, rfl, hS, fun c nc => ?_⟩
  rw [cut_ints, HT.sIx_nat, HT.sIx_none, List.drop_zero, Nat.sub_zero]
  refine ⟨c, _, rfl, .inl (SqL.of upd_same), fun p np => ?_⟩
  have s1 := same_new (o := .lst ((ns.take (min most ns.length)).map V.int)) nc
  have s2 := same_new (o := .lst ((ns.take (min most ns.length)).map V.int)) np
  have np0 : H p = none := s1.free np
  have hp : (upd (upd H c (.lst ((ns.take (min most ns.length)).map V.int))) p (.lst ((ns.take (min most ns.length)).map V.int))) p = some (.lst ((ns.take (min most ns.length)).map V.int)) := upd_same
  have s12 := s1.trans s2
  generalize upd (upd H c (.lst ((ns.take (min most ns.length)).map V.int))) p (.lst ((ns.take (min most ns.length)).map V.int)) = H1 at hp s12
  -- script[most:63]
  refine ⟨_, rfl, _, rfl, _, rfl, 63, rfl, a, _, rfl, s12.seq hS, fun e ne => ?_⟩
  rw [cut_ints, HT.sIx_nat, show HT.sIx ns.length ns.length (some (63 : Int)) = min 63 ns.length from HT.sIx_nat ns.length ns.length 63]
  generalize hsl : (ns.drop (min most ns.length)).take (min 63 ns.length - min most ns.length) = sl
  refine ⟨e, _, rfl, SqL.of upd_same, ?_⟩
  have nep : e ≠ p := fun z => by rw [z, hp] at ne; cases ne
  have s3 := same_new (o := .lst (sl.map V.int)) ne
  refine for_it (walk_enum (xs := sl.map V.int)) (fun i σ H3 => ∃ (y3 y4 : Option V) (cs : List Int), σ = [some (.ref a), some (.int most), some (.ref p), y3, y4] ∧ cs.length = min most ns.length ∧ H3 p = some (.lst (cs.map V.int)) ∧ Same H H3 ∧ H3 e = some (.lst (sl.map V.int)))
    ⟨none, none, _, rfl, by rw [List.length_take]; omega, (s3 _ _ hp), s12.trans s3, upd_same⟩ (fun i σ H3 _ ⟨_, _, _, _, _, _, _, he⟩ => SqL.of he) (fun i x σ H3 H4 hi hP hy => ?_) (fun σ H3 hP => ?_)
  · obtain ⟨y3, y4, cs, rfl, hc, hp3, sm, he⟩ := hP
    obtain ⟨Tt, x1, x2, rfl, nT, rfl, e1, e2⟩ := hy
    have e1' : x1 = .int (i : Nat) := (Option.some.inj e1).symm
    subst e1'
    obtain ⟨v, e3, rfl⟩ : ∃ v, sl[i]? = some v ∧ V.int v = x2 := by
      have e2' : (sl.map V.int)[i]? = some x2 := e2
      rw [List.getElem?_map] at e2'
      cases z : sl[i]? with
      | none => rw [z] at e2'; cases e2'
      | some v => rw [z] at e2'; exact ⟨v, rfl, Option.some.inj e2'⟩
    have hlen : most < ns.length := by
      have z : i < sl.length := (List.getElem?_eq_some_iff.mp e3).1
      rw [← hsl, List.length_take, List.length_drop] at z
      omega
    have hcl : cs.length = most := by omega
    have hT := same_new (o := .tup [.int (i : Nat), .int v]) nT
    have hpT : (upd H3 Tt (.tup [.int (i : Nat), .int v])) p = some (.lst (cs.map V.int)) := hT _ _ hp3
    have ej : ((i : Nat) : Int) % (most : Int) = ((i % most : Nat) : Int) := rfl
    have jl : i % most < cs.length := by rw [hcl]; exact Nat.mod_lt _ (by omega)
    refine ⟨Tt, _, rfl, .inl (.inl upd_same), rfl, _, _, rfl, _, _, rfl, rfl, ?_⟩
    refine ⟨_, rfl, _, rfl, _, rfl, _, _, rfl, rfl, (show (0 : Int) < most by omega), ?_⟩
    refine ⟨p, _, ((i % most : Nat) : Int), _, rfl, rfl, SqL.of hpT, atI_nat (j := i % most) (by rw [List.getElem?_map, List.getElem?_eq_getElem jl]; rfl), ?_⟩
    refine ⟨_, rfl, _, rfl, _, _, rfl, rfl, _, _, rfl, rfl, .inr ⟨by omega, ?_⟩, _, _, rfl, rfl, ?_⟩
    · have z : i < sl.length := (List.getElem?_eq_some_iff.mp e3).1
      rw [← hsl, List.length_take, List.length_drop] at z
      have : ((i : Nat) : Int) + 2 < 18446744073709551616 := by omega
      exact this
    refine ⟨_, rfl, _, rfl, _, rfl, _, _, rfl, rfl, (show (0 : Int) < most by omega), ?_⟩
    refine ⟨p, _, ((i % most : Nat) : Int), i % most, rfl, rfl, hpT, ixN_nat (by rw [List.length_map]; exact jl), ?_⟩
    refine ⟨_, _, cs.set (i % most) (cs[i % most] + v * ((i : Nat) + 2)), rfl, by rw [List.length_set]; exact hc, ?_, fun b o eb => ?_, ?_⟩
    · rw [upd_same, List.map_set]
    · rw [upd_ne (ne_of_none eb np0)]; exact hT _ _ (sm _ _ eb)
    · rw [upd_ne nep]; exact hT _ _ he
  · obtain ⟨y3, y4, cs, rfl, hc, hp3, sm, he⟩ := hP
    refine ⟨_, rfl, by show 0 ≤ sizeLine; decide, fun z nz => ?_⟩
    have sz := same_new (o := .lst []) nz
    refine ⟨_, _, dp_lst_ints (sz _ _ hp3), .lst (SqL.of upd_same) .nil, shaped_ints cs, shaped_ints [], _, rfl, ?_⟩
    rw [eqv_ints_nil]
    refine ite2 (fun e0 => ?_) (fun e0 => ?_)
    · have h1 : 1 ≤ cs.length := by cases cs with | nil => cases e0 | cons _ _ => simp
      exact ⟨_, rfl, q p _ cs np0 (sm.trans sz) (sz _ _ hp3) (by omega) h1⟩
    · refine ⟨by show 1 ≤ sizeLine; decide, fun r nr => ?_⟩
      have sr := same_new (o := .lst [.int 0]) nr
      exact q r _ [0] (sm.free (sz.free nr)) (sm.trans (sz.trans sr)) upd_same (by simpa using m1) (by simp)
end
end Af
namespace Af
open PySem PySem.Spec PyProof.Rows L2
section
variable {P : Program} {w : World} {K : PySem.W.Frag} {mg : Str → Option Value} {base : Heap}
/-! _law_take: some number below the span -/
def spTake : Sp := fun vs H Q _ => ∃ (bx : Addr) (span : Int) (m : Nat), vs = [.ref bx, .int span] ∧ Box H bx m ∧ m ≤ 1000000000 ∧ 1 ≤ span ∧ span ≤ 10000000 ∧
  ∀ (r : Int) (H' : Hp), 0 ≤ r → r < span → Box H' bx (m + 1) → hid H' bx = hid H bx → Q (.int r) H'
theorem ok_take {f : Addr} {fd : FuncData} {k : Nat} (F : Fun K "_law_take" "_law_take" sLawTake f fd) : FnOk P w K mg base CX0 (k + 1) f fd ["_law_box_here", "_law_span"] spTake := by
  refine F.ok scLawTake (fun vs H Q E h => ?_) (fun cdv A outer s H vs Q E hr h => ?_)
  · obtain ⟨_, _, _, rfl, _⟩ := h; rfl
  obtain ⟨bx, span, m, rfl, hB, hm, s1, s2, q⟩ := h
  refine ⟨_, pss_cons (ps_if (pt_cmpR op_gt (pe_ix ix_list (pv 0) pe_int (fun _ _ => rfl)) pe_int (nomark _))
      (pss_cons (ps_set (i := 2) scLawTake.nd rfl (.inl rfl) (pe_op op_mod (pe_ix ix_list (pv 0) pe_int (fun _ _ => rfl)) (pv 1)))
      (pss_cons (ps_asg (pe_op op_fdiv (pe_ix ix_list (pv 0) pe_int (fun _ _ => rfl)) (pv 1)) (pg_sub (pv 0) pe_int set_list))
      (pss_one (ps_ret (pv 2))))) pss_nil)
    (pss_cons (ps_if (pt_cmpR op_gt (pv 1) (pe_op op_pow pe_int pe_int) (nomark _)) pss_never pss_nil)
    (pss_cons (ps_asg (pe_op op_add (pe_ix ix_list (pv 0) pe_int (fun _ _ => rfl)) pe_int) (pg_sub (pv 0) pe_int set_list))
    (pss_cons (ps_set (i := 3) scLawTake.nd rfl (.inl rfl) (pe_op op_mod (pe_op op_pow (pe_op op_add (pe_ix ix_list (pv 0) pe_int (fun _ _ => rfl)) (pe_op op_mul pe_int (pe_ix ix_list (pv 0) pe_int (fun _ _ => rfl)))) pe_int) pe_int))
    (pss_one (ps_ret (pe_op op_mod (pe_op op_fdiv (pe_op op_mod (pe_op op_add (pe_op op_mul (pv 3) (pe_op op_add (pe_op op_mod (pv 3) pe_int) pe_int)) (pe_op op_mul (pe_ix ix_list (pv 0) pe_int (fun _ _ => rfl)) pe_int)) pe_int) pe_int) (pv 1))))))), ?_⟩
  obtain ⟨a, b, c, hb, a0, b0, b1, c0, c1⟩ := hB
  have hL : SqL K H bx [.int a, .int b, .int c] := SqL.of hb
  refine ⟨_, rfl, bx, _, 0, _, rfl, rfl, hL, atI_nat (j := 0) rfl, _, _, rfl, rfl, _, rfl, ?_⟩
  refine ite2 (fun e => ?_) (fun e => ?_)
  · refine ⟨_, rfl, bx, _, 0, _, rfl, rfl, hL, atI_nat (j := 0) rfl, _, rfl, _, _, rfl, rfl, (show (0 : Int) < span by omega), ?_⟩
    refine ⟨_, rfl, bx, _, 0, _, rfl, rfl, hL, atI_nat (j := 0) rfl, _, rfl, _, _, rfl, rfl, ⟨(show (0 : Int) < span by omega), (show span < 1073741824 by omega)⟩, ?_⟩
    refine ⟨_, rfl, bx, _, 0, 0, rfl, rfl, hb, rfl, ?_⟩
    refine ⟨_, rfl, q (a % span) _ (Int.emod_nonneg _ (by omega)) (Int.emod_lt_of_pos _ (by omega)) ?_ hid_upd⟩
    exact ⟨a / span, b, c, upd_same, Int.ediv_nonneg a0 (by omega), b0, b1, c0, by omega⟩
  · refine ⟨_, rfl, _, _, rfl, rfl, ⟨by decide, by decide, by decide⟩, _, _, rfl, rfl, _, rfl, ?_⟩
    refine ite2 (fun e2 => ?_) (fun _ => ?_)
    · have z : (10 : Int) ^ (7 : Int).toNat < span := of_decide_eq_true e2
      have z2 : (10 : Int) ^ (7 : Int).toNat = 10000000 := by decide
      omega
    · refine ⟨_, rfl, bx, _, 2, _, rfl, rfl, hL, atI_nat (j := 2) rfl, _, _, rfl, rfl, ?_⟩
      refine ⟨_, rfl, bx, _, 2, 2, rfl, rfl, hb, rfl, ?_⟩
      show _
      have hb2 : (upd H bx (.lst [.int a, .int b, .int (c + 1)])) bx = some (.lst [.int a, .int b, .int (c + 1)]) := upd_same
      have hL2 : SqL K (upd H bx (.lst [.int a, .int b, .int (c + 1)])) bx [.int a, .int b, .int (c + 1)] := SqL.of hb2
      refine ⟨_, rfl, bx, _, 1, _, rfl, rfl, hL2, atI_nat (j := 1) rfl, _, rfl, bx, _, 2, _, rfl, rfl, hL2, atI_nat (j := 2) rfl, _, _, rfl, rfl, .inl ⟨by decide, by decide⟩, _, _, rfl, rfl, _, _, rfl, rfl, ⟨by decide, by decide, ?_⟩, _, _, rfl, rfl, (show (0 : Int) < 2147483647 by decide), ?_⟩
      · show (b + 39373 * (c + 1)).natAbs < 2 ^ 64
        have : b < 4611686018427387904 := b1
        have e64 : (2 : Nat) ^ 64 = 18446744073709551616 := by decide
        omega
      · generalize ho : (b + 39373 * (c + 1)) ^ (5 : Int).toNat % 2147483647 = once
        have o1 : 0 ≤ once := by rw [← ho]; exact Int.emod_nonneg _ (by decide)
        have o2 : once < 2147483647 := by rw [← ho]; exact Int.emod_lt_of_pos _ (by decide)
        refine ⟨_, rfl, _, rfl, _, _, rfl, rfl, (show (0 : Int) < 40009 by decide), _, _, rfl, rfl, _, _, rfl, rfl, .inl ⟨by omega, by omega⟩, _, rfl, bx, _, 2, _, rfl, rfl, hL2, atI_nat (j := 2) rfl, _, _, rfl, rfl, .inr ⟨by decide, by decide⟩, _, _, rfl, rfl, _, _, rfl, rfl, (show (0 : Int) < 2147483629 by decide), _, _, rfl, rfl, ⟨by decide, by decide⟩, _, rfl, _, _, rfl, rfl, (show (0 : Int) < span by omega), ?_⟩
        exact q _ _ (Int.emod_nonneg _ (by omega)) (Int.emod_lt_of_pos _ (by omega)) ⟨a, b, c + 1, upd_same, a0, b0, b1, by omega, by omega⟩ hid_upd
end
end Af
namespace Af
open PySem PySem.Spec PyProof.Rows L2
section
variable {P : Program} {w : World} {K : PySem.W.Frag} {mg : Str → Option Value} {base : Heap}
/-! _law_random_standing -/
def spRStand (K : PySem.W.Frag) : Sp := fun vs H Q _ => ∃ (bx : Addr) (sh : V) (B : List (List Int)) (hi : Int) (m : Nat), vs = [.ref bx, sh] ∧ Box H bx m ∧ m ≤ 500000000 ∧ Dp K (hid H bx) sh (bookT B) ∧ GoodB B hi ∧ hi ≤ 1000 ∧ B.length ≤ 1000 ∧
  ∀ (p : Addr) (H' : Hp) (R : List Int), Stands B R → Box H' bx (m + B.length) → Same (hid H bx) (hid H' bx) → H p = none → H' p = some (.tup (R.map V.int)) → Q (.ref p) H'
theorem ok_rstand {f fT fL : Addr} {fd fdT fdL : FuncData} {k : Nat} (T : Bl mg) (F : Fun K "_law_random_standing" "_law_random_standing" sLawRandomStanding f fd)
    (DT : Df K mg "_law_take" sLawTake ["_law_box_here", "_law_span"] fT fdT) (GT : FnOk P w K mg base CX0 k fT fdT ["_law_box_here", "_law_span"] spTake)
    (DL : Df K mg "_law_ladder" sLawLadder ["_law_shelf", "_law_rungs", "_law_who"] fL fdL) (GL : FnOk P w K mg base CX0 k fL fdL ["_law_shelf", "_law_rungs", "_law_who"] (spLengthOf K)) :
    FnOk P w K mg base CX0 (k + 1) f fd ["_law_box_here", "_law_shelf"] (spRStand K) := by
  refine F.ok scLawRandomStanding (fun vs H Q E h => ?_) (fun cdv A outer s H vs Q E hr h => ?_)
  · obtain ⟨_, _, _, _, _, rfl, _⟩ := h; rfl
  obtain ⟨bx, sh, B, hi, m, rfl, hbox, hm, hsh, hG, hhi, hlen, q⟩ := h
  have nd := scLawRandomStanding.nd
  refine ⟨_, pss_cons (ps_set (i := 2) nd rfl (.inl rfl) (pe_lst pa_nil))
    (pss_cons (ps_for PassesOwn.never rfl (pi_range1 rfl T.range (pa_cons (pe_callB call_len_seq rfl T.len bLen (pa_cons (pv 1) pa_nil)) pa_nil)) (pg_name (i := 3) nd rfl (.inl rfl))
      (pss_one (ps_expr (pe_bm PySem.F.plainAttrs_list PySem.F.slot_list_append PySem.F.type_list_append mt_append (pv 2) (pa_cons (pe_op op_add pe_int (pe_do DT GT hr rfl (pa_cons (pv 0) (pa_cons (pe_do DL GL hr rfl (pa_cons (pv 1) (pa_cons (pv 2) (pa_cons (pv 3) pa_nil)))) pa_nil)))) pa_nil)))))
    (pss_one (ps_ret (pe_callTy call_tuple_of rfl T.tuple bTuple (pa_cons (pv 2) pa_nil))))), ?_⟩
  refine ⟨by show 0 ≤ sizeLine; decide, fun fo nf => ?_⟩
  have s1 := same_new (o := .lst []) nf
  have nfb : fo ≠ bx := hbox.ne nf
  obtain ⟨a, xs, rfl, ha, hxl⟩ := book_len (dp_up hsh (hid_le.trans s1)) (bookT_book B)
  refine ⟨_, rfl, a, xs, rfl, ha, _, rfl, by omega, by omega, ?_⟩
  have en : ((xs.length : Nat) : Int).toNat = B.length := by omega
  rw [en]
  refine for_range (lo := 0) (n := B.length) (fun i σ H3 => ∃ (y3 : Option V) (R : List Int), σ = [some (.ref bx), some (.ref a), some (.ref fo), y3] ∧ R.length = i ∧ StandsTo B R i ∧ H3 fo = some (.lst (R.map V.int)) ∧ Box H3 bx (m + i) ∧ Same (hid H bx) (hid H3 bx))
    ⟨none, [], rfl, rfl, fun c hc => absurd hc (Nat.not_lt_zero c), upd_same, hbox.new nf, hid_mono s1⟩ (fun i σ H3 hi3 hP => ?_) (fun σ H3 hP => ?_)
  · obtain ⟨y3, R, rfl, hRl, hS, hfo, hB3, sm⟩ := hP
    subst hRl
    obtain ⟨n, en1, en2, en3⟩ := len_ex hG hi3 hS
    have hbook : Dp K H3 (.ref a) (bookT B) := dp_up hsh (sm.trans hid_le)
    refine ⟨_, rfl, .inl ⟨rfl, _, SqL.of hfo⟩, ?_⟩
    refine ⟨_, rfl, _, rfl, _, rfl, _, rfl, _, _, R.length, bookT B, rowL R, B, R, n, ?_, hbook, bookT_book B, dp_lst_ints hfo, rowL_row R, en1, ?_⟩
    · show [V.ref a, V.ref fo, V.int (0 + (R.length : Int))] = _
      rw [Int.zero_add]
    refine ⟨bx, n, m + R.length, rfl, hB3, by omega, en2, by omega, fun r H5 r0 r1 hB5 hh5 => ?_⟩
    have hfo5 : H5 fo = some (.lst (R.map V.int)) := by rw [hid_eq hh5 nfb]; exact hfo
    refine ⟨_, _, rfl, rfl, fo, _, _, rfl, rfl, hfo5, ?_, _, R ++ [1 + r], rfl, by simp, stands_snoc hS en1 (by omega) (by omega), ?_, ?_, ?_⟩
    · rw [List.length_map]; exact small1000 (by omega)
    · rw [upd_same, List.map_append]; rfl
    · obtain ⟨x1, x2, x3, g1, g2⟩ := hB5
      exact ⟨x1, x2, x3, by rw [upd_ne nfb.symm]; exact g1, g2⟩
    · intro c o ec
      have nc : c ≠ bx := (hid_some ec).1
      have ncf : c ≠ fo := ne_of_none (hid_some ec).2 nf
      rw [hid_ne nc, upd_ne ncf, hid_eq hh5 nc]
      have := sm _ _ ec
      rwa [hid_ne nc] at this
  · obtain ⟨y3, R, rfl, hRl, hS, hfo, hB3, sm⟩ := hP
    refine ⟨_, rfl, fo, _, rfl, .inl ⟨SqL.of hfo, fun p np => ?_⟩⟩
    have npb : p ≠ bx := hB3.ne np
    have nph : H p = none := by
      cases e : H p with
      | none => rfl
      | some o =>
        have z := sm p o (by rw [hid_ne npb]; exact e)
        rw [hid_ne npb, np] at z; cases z
    exact q p _ R ⟨hRl, hS⟩ (hB3.new np) (sm.trans (hid_mono (same_new np))) nph upd_same
end
end Af
namespace Af
open PySem PySem.Spec PyProof.Rows L2
section
variable {P : Program} {w : World} {K : PySem.W.Frag} {mg : Str → Option Value} {base : Heap}
/-! _law_random_faces -/
def spRFaces : Sp := fun vs H Q _ => ∃ (bx : Addr) (n m : Nat), vs = [.ref bx, .int n] ∧ Box H bx m ∧ m ≤ 500000000 ∧ n ≤ 1000 ∧
  ∀ (p : Addr) (H' : Hp) (F : List Int), F.length = n → FacesOk F → Box H' bx (m + n) → Same (hid H bx) (hid H' bx) → H p = none → H' p = some (.tup (F.map V.int)) → Q (.ref p) H'
theorem ok_rfaces {f fT : Addr} {fd fdT : FuncData} {k : Nat} (T : Bl mg) (F : Fun K "_law_random_faces" "_law_random_faces" sLawRandomFaces f fd)
    (DT : Df K mg "_law_take" sLawTake ["_law_box_here", "_law_span"] fT fdT) (GT : FnOk P w K mg base CX0 k fT fdT ["_law_box_here", "_law_span"] spTake) :
    FnOk P w K mg base CX0 (k + 1) f fd ["_law_box_here", "_law_count"] spRFaces := by
  refine F.ok scLawRandomFaces (fun vs H Q E h => ?_) (fun cdv A outer s H vs Q E hr h => ?_)
  · obtain ⟨_, _, _, rfl, _⟩ := h; rfl
  obtain ⟨bx, n, m, rfl, hbox, hm, hn, q⟩ := h
  have nd := scLawRandomFaces.nd
  refine ⟨_, pss_one (ps_ret (pe_callTy call_tuple_of rfl T.tuple bTuple (pa_cons
    (pe_lc (own := [("_law_who", 2)]) (g := gName 2) (tt := tYes) rfl nd (pi_range1 rfl T.range (pa_cons (pv 1) pa_nil))
      (blkOk_by (N := ["_law_box_here", "_law_count", "_law_who"]) (sc := defScope sLawRandomFaces) (by decide +kernel))
      (fun _ _ _ _ _ => pg_name (i := 2) nd rfl (.inl rfl)) (fun _ _ _ _ _ => pts_nil)
      (fun _ _ _ _ _ => pe_op op_sub pe_int (pe_op op_mul pe_int (pe_do DT GT hr rfl (pa_cons (pv 0) (pa_cons pe_int pa_nil)))))) pa_nil))), ?_⟩
  refine ⟨_, rfl, _, rfl, by omega, by omega, fun D nD => ?_⟩
  have nDb : D ≠ bx := hbox.ne nD
  have en : ((n : Nat) : Int).toNat = n := by omega
  rw [en]
  refine lc_range (lo := 0) (n := n) (fun i H3 => ∃ Fc : List Int, Fc.length = i ∧ FacesOk Fc ∧ H3 D = some (.lst (Fc.map V.int)) ∧ Box H3 bx (m + i) ∧ hid (hid H3 bx) D = hid (hid H bx) D)
    ⟨[], rfl, fun x hx => (by cases hx), upd_same, hbox.new nD, by rw [hid_new nDb, hid_upd]⟩ (fun i H3 hi hP => ?_) (fun H3 hP => ?_)
  · obtain ⟨Fc, hl, hF, hD, hB, hh⟩ := hP
    refine ⟨rfl, yesT ?_⟩
    refine ⟨_, rfl, bx, _, m + i, rfl, hB, by omega, by decide, by decide, fun r H5 r0 r1 hB5 hh5 => ?_⟩
    refine ⟨_, _, rfl, rfl, .inl ⟨by decide, by decide⟩, _, _, rfl, rfl, Fc.map V.int, ?_, ?_, Fc ++ [1 - 2 * r], by simp [hl], fun x hx => ?_, ?_, ?_, ?_⟩
    · rw [hid_eq hh5 nDb]; exact hD
    · rw [List.length_map]; exact small1000 (by omega)
    · rcases List.mem_append.mp hx with hx | hx
      · exact hF x hx
      · obtain rfl : x = 1 - 2 * r := by simpa using hx
        omega
    · rw [upd_same, List.map_append]; rfl
    · obtain ⟨x1, x2, x3, g1, g2⟩ := hB5
      exact ⟨x1, x2, x3, by rw [upd_ne nDb.symm]; exact g1, g2⟩
    · rw [hid_new nDb, hid_upd, hh5, hh]
  · obtain ⟨Fc, hl, hF, hD, hB, hh⟩ := hP
    refine ⟨D, _, rfl, .inl ⟨SqL.of hD, fun p np => ?_⟩⟩
    have s1 : Same (hid H bx) (hid H3 bx) := fun c o ec => by
      have c1 := (hid_some ec).1
      have c3 : c ≠ D := ne_of_none (hid_some ec).2 nD
      have := congrFun hh c
      rw [hid_ne c3, hid_ne c3] at this
      rw [this]; exact ec
    have npb : p ≠ bx := hB.ne np
    have nph : H p = none := by
      cases e : H p with
      | none => rfl
      | some o =>
        have z := s1 p o (by rw [hid_ne npb]; exact e)
        rw [hid_ne npb, np] at z; cases z
    exact q p _ Fc hl hF (hB.new np) (s1.trans (hid_mono (same_new np))) nph upd_same
end
end Af
namespace Af
open PySem PySem.Spec PyProof.Rows L2
section
variable {P : Program} {w : World} {K : PySem.W.Frag} {mg : Str → Option Value} {base : Heap}
/-! lists of states of plain tuples -/
def PSL (H : Hp) (vs : List V) (L : List (List Int × List Int)) : Prop := vs.length = L.length ∧ ∀ (i : Nat) (S : List Int × List Int), L[i]? = some S → ∃ v, vs[i]? = some v ∧ PSt H v S
theorem PSL.up {H H' : Hp} {vs : List V} {L : List (List Int × List Int)} (h : PSL H vs L) (s : Same H H') : PSL H' vs L := ⟨h.1, fun i S e => by
  obtain ⟨v, h1, h2⟩ := h.2 i S e
  exact ⟨v, h1, h2.up s⟩⟩
theorem PSL.one {H : Hp} {v : V} {S : List Int × List Int} (h : PSt H v S) : PSL H [v] [S] := ⟨rfl, fun i T e => (match i, e with
  | 0, e => by cases e; exact ⟨v, rfl, h⟩
  | i + 1, e => by cases e)⟩
theorem PSL.snoc {H : Hp} {vs : List V} {L : List (List Int × List Int)} {v : V} {S : List Int × List Int} (h : PSL H vs L) (g : PSt H v S) : PSL H (vs ++ [v]) (L ++ [S]) := by
  obtain ⟨h1, h2⟩ := h
  refine ⟨by rw [List.length_append, List.length_append, h1]; rfl, fun i T e => ?_⟩
  by_cases hi : i < L.length
  · rw [List.getElem?_append_left hi] at e
    rw [List.getElem?_append_left (by omega)]
    exact h2 i T e
  · rw [List.getElem?_append_right (by omega)] at e
    rw [List.getElem?_append_right (by omega), h1]
    cases hj : i - L.length with
    | zero => rw [hj] at e; cases e; exact ⟨v, rfl, g⟩
    | succ j => rw [hj] at e; cases e
theorem PSt.hide {H : Hp} {v : V} {S : List Int × List Int} {b : Addr} {l : List V} : PSt H v S → H b = some (.lst l) → PSt (hid H b) v S
  | ⟨a, r, f, e, h1, h2, h3⟩, hb => by
    have n : ∀ {c : Addr} {l' : List V}, H c = some (.tup l') → c ≠ b := fun h z => by rw [z, hb] at h; cases h
    exact ⟨a, r, f, e, by rw [hid_ne (n h1)]; exact h1, by rw [hid_ne (n h2)]; exact h2, by rw [hid_ne (n h3)]; exact h3⟩
theorem rdL_take (B : List (List Int)) (S : List Int × List Int) {m : Nat} (h : 2 * manyN B = (m : Int) + 1) : (List.range (m + 1)).map (fun j => itB B j S) = rdL B S := by
  unfold rdL
  rw [show 2 * (manyN B).toNat = m + 1 by omega]
/-! _law_random_state -/
def spRStateP (K : PySem.W.Frag) : Sp := fun vs H Q _ => ∃ (bx : Addr) (sh : V) (B : List (List Int)) (hi : Int) (m : Nat), vs = [.ref bx, sh] ∧ Box H bx m ∧ m ≤ 400000000 ∧ Dp K (hid H bx) sh (bookT B) ∧ GoodB B hi ∧ hi ≤ 1000 ∧ B.length ≤ 1000 ∧
  ∀ (p : Addr) (H' : Hp) (S : List Int × List Int), Ok B S → Box H' bx (m + 2 * B.length) → Same (hid H bx) (hid H' bx) → PSt (hid H' bx) (.ref p) S → Q (.ref p) H'
theorem ok_rstateP {f fS fF : Addr} {fd fdS fdF : FuncData} {k : Nat} (T : Bl mg) (F : Fun K "_law_random_state" "_law_random_state" sLawRandomState f fd)
    (DS : Df K mg "_law_random_standing" sLawRandomStanding ["_law_box_here", "_law_shelf"] fS fdS) (GS : FnOk P w K mg base CX0 k fS fdS ["_law_box_here", "_law_shelf"] (spRStand K))
    (DF : Df K mg "_law_random_faces" sLawRandomFaces ["_law_box_here", "_law_count"] fF fdF) (GF : FnOk P w K mg base CX0 k fF fdF ["_law_box_here", "_law_count"] spRFaces) :
    FnOk P w K mg base CX0 (k + 1) f fd ["_law_box_here", "_law_shelf"] (spRStateP K) := by
  refine F.ok scLawRandomState (fun vs H Q E h => ?_) (fun cdv A outer s H vs Q E hr h => ?_)
  · obtain ⟨_, _, _, _, _, rfl, _⟩ := h; rfl
  obtain ⟨bx, sh, B, hi, m, rfl, hbox, hm, hsh, hG, hhi, hlen, q⟩ := h
  refine ⟨_, pss_one (ps_ret (pe_tup (pa_cons (pe_do DS GS hr rfl (pa_cons (pv 0) (pa_cons (pv 1) pa_nil))) (pa_cons (pe_do DF GF hr rfl (pa_cons (pv 0) (pa_cons (pe_callB call_len_seq rfl T.len bLen (pa_cons (pv 1) pa_nil)) pa_nil))) pa_nil)))), ?_⟩
  refine ⟨_, rfl, _, rfl, bx, sh, B, hi, m, rfl, hbox, by omega, hsh, hG, hhi, hlen, fun sp H1 R hS hB1 s1 nsp esp => ?_⟩
  obtain ⟨a, xs, rfl, ha, hxl⟩ := book_len (dp_up hsh (s1.trans hid_le)) (bookT_book B)
  refine ⟨_, rfl, _, rfl, a, xs, rfl, ha, bx, B.length, m + B.length, ?_, hB1, by omega, hlen, fun fp H2 Fc hFl hF hB2 s2 nfp efp => ?_⟩
  · rw [hxl]; rfl
  refine ⟨by show 2 ≤ sizeLine; decide, fun p np => ?_⟩
  have npb : p ≠ bx := hB2.ne np
  have s3 := same_new (o := .tup [.ref sp, .ref fp]) np
  have nspb : sp ≠ bx := hB1.neT esp
  have nfpb : fp ≠ bx := hB2.neT efp
  have s23 := s2.trans (hid_mono s3)
  exact q p _ (R, Fc) ⟨hS, hFl, hF⟩ ((hB2.new np).le (by omega)) (s1.trans s23) ⟨p, sp, fp, rfl, by rw [hid_ne npb, upd_same], s23 _ _ (by rw [hid_ne nspb]; exact esp), hid_mono s3 _ _ (by rw [hid_ne nfpb]; exact efp)⟩
/-! _law_lap -/
def spLap20 (K : PySem.W.Frag) : Sp := fun vs H Q _ => ∃ (sh st : V) (B : List (List Int)) (hi : Int) (S : List Int × List Int) (m : Nat), vs = [sh, st] ∧ Dp K H sh (bookT B) ∧ PSt H st S ∧ B.length ≤ 100 ∧ GoodB B hi ∧ Ok B S ∧ 2 * manyN B = (m : Int) + 1 ∧ m + 1 ≤ 512 ∧
  ∀ (p : Addr) (H' : Hp) (vs : List V), H p = none → Same H H' → H' p = some (.lst vs) → PSL (hid H' p) vs (rdL B S) → Q (.ref p) H'
set_option maxHeartbeats 1600000 in
theorem ok_lap20 {f fN : Addr} {fd fdN : FuncData} {k : Nat} (T : Bl mg) (F : Fun K "_law_lap" "_law_lap" sLawLap f fd)
    (DBeat : Df K mg "beat" sBeat ["book", "state"] fN fdN) (GBeat : FnOk P w K mg base CX0 k fN fdN ["book", "state"] (spBeatP K)) :
    FnOk P w K mg base CX0 (k + 1) f fd ["_law_shelf", "_law_spot"] (spLap20 K) := by
  refine F.ok scLawLap (fun vs H Q E h => ?_) (fun cdv A outer s H vs Q E hr h => ?_)
  · obtain ⟨_, _, _, _, _, _, rfl, _⟩ := h; rfl
  obtain ⟨sh, st, B, hi, S, m, rfl, hsh, hst, hlen, hG, hO, hm, hm9, q⟩ := h
  have nd := scLawLap.nd
  have hu64 := hr.units
  refine ⟨_, pss_cons (ps_par (i := 2) (j := 3) (by rfl) nd rfl rfl (by decide) rfl rfl (pa_cons (pe_lst (pa_cons (pv 1) pa_nil)) (pa_cons (pe_do DBeat GBeat hr rfl (pa_cons (pv 0) (pa_cons (pv 1) pa_nil))) pa_nil)) (by rfl))
    (pss_cons (ps_while PassesOwn.never (PW.pt (pw_and (pt_cmpR ((op_neD hu64)) (pv 3) (pv 1) (nomark _)) (pw_and1 (pt_cmpR op_lt (pe_callB call_len_seq rfl T.len bLen (pa_cons (pv 2) pa_nil)) pe_int (nomark _)))))
      (pss_cons (ps_expr (pe_bm PySem.F.plainAttrs_list PySem.F.slot_list_append PySem.F.type_list_append mt_append (pv 2) (pa_cons (pv 3) pa_nil)))
    (pss_one (ps_set (i := 3) nd rfl (.inl rfl) (pe_do DBeat GBeat hr rfl (pa_cons (pv 0) (pa_cons (pv 3) pa_nil)))))))
    (pss_one (ps_ret (pv 2)))), ?_⟩
  refine ⟨_, rfl, by show 1 ≤ sizeLine; decide, fun fo nf => ?_⟩
  have s1 := same_new (o := .lst [st]) nf
  have e1 : (upd H fo (.lst [st])) fo = some (.lst [st]) := upd_same
  generalize upd H fo (.lst [st]) = H1 at s1 e1
  refine ⟨_, rfl, _, rfl, sh, st, _, B, hi, S, rfl, dp_up hsh s1, bookT_book B, hst.up s1, by omega, hG, hO, fun h1 H2 s2 hh1 => ⟨_, _, rfl, ?_⟩⟩
  have e2 := s2 _ _ e1
  have s02 := s1.trans s2
  refine while_by (fun σ H3 => ∃ (i : Nat) (hv : V) (vs : List V), σ = [some sh, some st, some (.ref fo), some hv] ∧ i ≤ m ∧ H3 fo = some (.lst vs) ∧ PSL (hid H3 fo) vs ((List.range (i + 1)).map fun j => itB B j S) ∧ PSt (hid H3 fo) hv (itB B (i + 1) S) ∧ Same H H3)
    (fun σ H3 => 1000 - lstLen (H3 fo)) ⟨0, _, _, rfl, Nat.zero_le _, e2, .one ((hst.up s02).hide e2), hh1.hide e2, s02⟩ (fun σ H3 hP => ?_) (fun σ H3 Q1 Q2 h ⟨v, e1, w, e2, d, e, a1, a2, a3, a4, k, e3, q⟩ => ⟨v, e1, w, e2, d, e, a1, a2, a3, a4, k, e3, ?_⟩)
  · obtain ⟨i, hv, vs, rfl, him, hfo, hvs, hhv, sm⟩ := hP
    have hl := hvs.1
    rw [List.length_map, List.length_range] at hl
    refine ⟨_, rfl, _, rfl, stD (itB B (i + 1) S), stD S, dp_up hhv.dp hid_le, (hst.up sm).dp, shaped_st _ _, shaped_st _ _, _, rfl, ?_⟩
    show if (!PyData.eqv (stD (itB B (i + 1) S)) (stD S)) = true then _ else _
    rw [eqv_st]
    by_cases c : i = m
    · subst c
      rw [it_round hG hO (n := i + 1) (by omega), decide_eq_true rfl]
      refine iteF ?_
      refine iteF ?_
      exact ⟨_, rfl, q fo H3 vs nf sm hfo (by rw [← rdL_take B S hm]; exact hvs)⟩
    · rw [decide_eq_false (it_ne hG hO (n := i + 1) (by omega) (by omega))]
      refine iteT ?_
      refine ⟨_, rfl, fo, vs, rfl, .inl (SqL.of hfo), _, _, rfl, rfl, _, rfl, ?_⟩
      rw [show decide (((vs.length : Nat) : Int) < 600) = true from decide_eq_true (by omega)]
      refine iteT ?_
      refine ⟨_, rfl, .inl ⟨rfl, _, SqL.of hfo⟩, _, rfl, fo, _, _, rfl, rfl, hfo, ?_, ?_⟩
      · rw [hl]; exact small1000 (by omega)
      have sU : Same H (upd H3 fo (.lst (vs ++ [hv]))) := fun a o ea => by rw [upd_ne (ne_of_none ea nf)]; exact sm _ _ ea
      have kU : Same (hid H3 fo) (hid (upd H3 fo (.lst (vs ++ [hv]))) fo) := by rw [hid_upd]; exact Same.refl _
      have eU : (upd H3 fo (.lst (vs ++ [hv]))) fo = some (.lst (vs ++ [hv])) := upd_same
      generalize upd H3 fo (.lst (vs ++ [hv])) = H4 at sU kU eU
      refine ⟨_, rfl, _, rfl, sh, hv, _, B, hi, itB B (i + 1) S, rfl, dp_up hsh sU, bookT_book B, (hhv.up kU).up hid_le, by omega, hG, itB_ok hG _ hO, fun nh H5 s5 hn5 => ?_⟩
      have k5 : Same (hid H4 fo) (hid H5 fo) := hid_mono s5
      refine ⟨⟨i + 1, _, vs ++ [hv], rfl, by omega, s5 _ _ eU, ?_, hn5.hide (s5 _ _ eU), sU.trans s5⟩, ?_⟩
      · rw [List.range_succ, List.map_append]
        exact (hvs.up (kU.trans k5)).snoc (hhv.up (kU.trans k5))
      · show 1000 - lstLen (H5 fo) < 1000 - lstLen (H3 fo)
        rw [s5 _ _ eU, hfo]
        show 1000 - (vs ++ [hv]).length < 1000 - vs.length
        rw [List.length_append, List.length_singleton]; omega
  · cases k with
    | false => exact h _ _ q
    | true =>
      obtain ⟨v, e1, p, ys, ep, hs, i, j, ei, ej, k2, ek, q2⟩ := q
      exact ⟨v, e1, p, ys, ep, hs, i, j, ei, ej, k2, ek, h _ _ q2⟩
end
end Af
namespace Af
open PySem PySem.Spec PyProof.Rows L2
section
variable {P : Program} {w : World} {K : PySem.W.Frag} {mg : Str → Option Value} {base : Heap}
/-! part_clock -/
def spPart (K : PySem.W.Frag) : Sp := fun vs H Q _ => ∃ (b rg fv : V) (bd rd fcd : PyData) (B : List (List Int)) (R F : List Int) (hi : Int), vs = [b, rg, fv] ∧ Dp K H b bd ∧ BookD bd B ∧ Dp K H rg rd ∧ RowD rd R ∧ Dp K H fv fcd ∧ RowD fcd F ∧
  GoodB B hi ∧ hi ≤ 100 ∧ B.length ≤ 100 ∧ R.length ≤ B.length ∧ OkP (B.take R.length) R F ∧ ∀ H', Same H H' → Q (.int (clk (B.take R.length) R F)) H'
theorem ok_part {f fO fS : Addr} {fd fdO fdS : FuncData} {k : Nat} (T : Bl mg) (F : Fun K "part_clock" "part_clock" sPartClock f fd)
    (DO : Df K mg "ones" sOnes ["book"] fO fdO) (GO : FnOk P w K mg base CX0 k fO fdO ["book"] (spOnes K))
    (DS : Df K mg "sum_before" sSumBefore ["book", "weights", "standing", "faces"] fS fdS) (GS : FnOk P w K mg base CX0 k fS fdS ["book", "weights", "standing", "faces"] (spSumB K)) :
    FnOk P w K mg base CX0 (k + 1) f fd ["book", "rungs", "faces"] (spPart K) := by
  refine F.ok scPartClock (fun vs H Q E h => ?_) (fun cdv A outer s H vs Q E hr h => ?_)
  · obtain ⟨_, _, _, _, _, _, _, _, _, _, rfl, _⟩ := h; rfl
  obtain ⟨b, rg, fv, bd, rd, fcd, B, R, Fc, hi, rfl, hb, hB, hrg, hR, hfv, hF, hG, hhi, hlen, hRl, hO, q⟩ := h
  have nd := scPartClock.nd
  refine ⟨_, pss_cons (ps_set (i := 3) nd rfl (.inl rfl) (pe_slice slS (pv 0) po_none (po_some (pe_callB call_len_seq rfl T.len bLen (pa_cons (pv 1) pa_nil)))))
    (pss_one (ps_ret (pe_do DS GS hr rfl (pa_cons (pv 3) (pa_cons (pe_do DO GO hr rfl (pa_cons (pv 3) pa_nil)) (pa_cons (pv 1) (pa_cons (pv 2) pa_nil))))))), ?_⟩
  obtain ⟨ra, rfl, hra⟩ := row_at hrg hR
  obtain ⟨ds, hs, hrs⟩ := hB
  obtain ⟨ba, xs, bb, rfl, hbb, hxa⟩ := dp_seqB hb hs
  have hxl := (dps_len hxa).trans (rows_len hrs)
  refine ⟨_, rfl, _, rfl, ra, _, rfl, hra, _, rfl, ba, xs, bb, rfl, hbb, fun p H1 s1 hp => ?_⟩
  rw [show ((R.map V.int).length : Nat) = R.length from List.length_map _, cut_take (by omega)] at hp
  have hpd : Dp K H1 (.ref p) (seqD bb (ds.take R.length)) := dp_of_sqB hp (dpsTake _ (dps_up hxa s1))
  have hpB : BookD (seqD bb (ds.take R.length)) (B.take R.length) := ⟨_, seqD_seq _ _, rows_take hrs _⟩
  have hT := tabs_take hG R.length
  have hl2 : (B.take R.length).length ≤ 100 := by rw [List.length_take]; omega
  refine ⟨_, rfl, _, rfl, .ref p, _, B.take R.length, hi, rfl, hpd, hpB, hT, hhi, hl2, fun op H2 nop s2 hop => ?_⟩
  refine ⟨_, rfl, _, rfl, .ref p, .ref op, .ref ra, fv, _, _, rd, fcd, B.take R.length, R, Fc, hi, rfl, dp_up hpd s2, hpB, hop.dp, bookL_book _, dp_up hrg (s1.trans s2), hR, dp_up hfv (s1.trans s2), hF, hT, hhi, hl2, hO, fun H3 s3 => ?_⟩
  exact q H3 ((s1.trans s2).trans s3)
/-! flipped -/
def spFlip (K : PySem.W.Frag) : Sp := fun vs H Q _ => ∃ (b rg fv : V) (face : Int) (bd rd fcd : PyData) (B : List (List Int)) (R F : List Int) (hi : Int), vs = [b, .int face, rg, fv] ∧ Dp K H b bd ∧ BookD bd B ∧ Dp K H rg rd ∧ RowD rd R ∧ Dp K H fv fcd ∧ RowD fcd F ∧
  GoodB B hi ∧ hi ≤ 100 ∧ B.length ≤ 100 ∧ R.length ≤ B.length ∧ OkP (B.take R.length) R F ∧ ∀ H', Same H H' → Q (.int (flip (clk (B.take R.length) R F) face)) H'
theorem ok_flip {f fC : Addr} {fd fdC : FuncData} {k : Nat} (F : Fun K "flipped" "flipped" sFlipped f fd)
    (DC : Df K mg "part_clock" sPartClock ["book", "rungs", "faces"] fC fdC) (GC : FnOk P w K mg base CX0 k fC fdC ["book", "rungs", "faces"] (spPart K)) :
    FnOk P w K mg base CX0 (k + 1) f fd ["book", "face", "rungs", "faces"] (spFlip K) := by
  refine F.ok scFlipped (fun vs H Q E h => ?_) (fun cdv A outer s H vs Q E hr h => ?_)
  · obtain ⟨_, _, _, _, _, _, _, _, _, _, _, rfl, _⟩ := h; rfl
  obtain ⟨b, rg, fv, face, bd, rd, fcd, B, R, Fc, hi, rfl, hb, hB, hrg, hR, hfv, hF, hG, hhi, hlen, hRl, hO, q⟩ := h
  refine ⟨_, pss_one (ps_ret (pe_ifExp (pt_cmpR op_eq (pe_op op_mod (pe_do DC GC hr rfl (pa_cons (pv 0) (pa_cons (pv 2) (pa_cons (pv 3) pa_nil)))) pe_int) pe_int (nomark _)) (pe_un un_neg (pv 1)) (pv 1))), ?_⟩
  refine ⟨_, rfl, _, rfl, _, rfl, b, rg, fv, bd, rd, fcd, B, R, Fc, hi, rfl, hb, hB, hrg, hR, hfv, hF, hG, hhi, hlen, hRl, hO, fun H1 s1 => ?_⟩
  refine ⟨_, _, rfl, rfl, (show (0 : Int) < 2 by decide), rfl, _, rfl, ?_⟩
  have z := q H1 s1
  unfold flip at z
  refine ite2 (fun e => ?_) (fun e => ?_)
  · have e1 : clk (B.take R.length) R Fc % 2 = 1 := V.int.inj (of_decide_eq_true e)
    rw [if_pos e1] at z
    exact ⟨_, rfl, _, rfl, z⟩
  · have e1 : ¬ clk (B.take R.length) R Fc % 2 = 1 := fun c => e (decide_eq_true (congrArg V.int c))
    rw [if_neg e1] at z
    exact ⟨_, rfl, z⟩
end
end Af
namespace Af
open PySem PySem.Spec PyProof.Rows L2
section
variable {P : Program} {w : World} {K : PySem.W.Frag} {mg : Str → Option Value} {base : Heap}
/-! first_half_state -/
def spFhs (K : PySem.W.Frag) : Sp := fun vs H Q _ => ∃ (b sv wv : V) (bd sgd wd : PyData) (B : List (List Int)) (M : List Int) (c hi : Int), vs = [b, sv, wv, .int c] ∧ Dp K H b bd ∧ BookD bd B ∧ Dp K H sv sgd ∧ RowD sgd M ∧ Dp K H wv wd ∧ BookD wd (onesW B) ∧
  GoodB B hi ∧ hi ≤ 100 ∧ B.length ≤ 100 ∧ M.length = B.length - 1 ∧ FacesOk M ∧ 0 ≤ c ∧ c < manyN B ∧
  ∀ (p : Addr) (H' : Hp) (S : List Int × List Int), Ok B S → up S → clk B S.1 S.2 = c → sg B S.1 S.2 = M → H p = none → Same H H' → NewD K H H' (.ref p) (stateT S.1 S.2) → Q (.ref p) H'
/-- so far -/
structure SoFar (B : List (List Int)) (M : List Int) (c : Int) (i : Nat) (R F : List Int) (rest : Int) : Prop where
  rl : R.length = i
  fl : F.length = i
  st : StandsTo B R i
  fo : FacesOk F
  u : 0 < i → F[0]? = some 1
  sg : ∀ j, j + 1 < i → M[j]? = some (sgn B R F j)
  eq : rest = c - sumN (pas B R F) i
  lo : 0 ≤ rest
  hi : rest < qN B R i
theorem SoFar.next {B : List (List Int)} {M : List Int} {c : Int} {i : Nat} {R F : List Int} {rest hi l r s : Int} (h : SoFar B M c i R F rest) (G : GoodB B hi) (hi' : i < B.length) (el : lenAt B R i = some l) (r1 : 1 ≤ r) (r2 : r ≤ l)
    (es : (1 :: M)[i]? = some s) (hs : s = 1 ∨ s = -1) (a1 : pasN B i l r (flip (clk (B.take i) R F) s) ≤ rest) (a2 : rest < pasN B i l r (flip (clk (B.take i) R F) s) + cnt (B.drop (i + 1)) (r - 1).toNat) :
    SoFar B M c (i + 1) (R ++ [r]) (F ++ [flip (clk (B.take i) R F) s]) (rest - pasN B i l r (flip (clk (B.take i) R F) s)) := by
  have hR := h.rl
  have hF := h.fl
  have preR : ∀ j, j < i → (R ++ [r])[j]? = R[j]? := fun j hj => List.getElem?_append_left (by omega)
  have preF : ∀ j, j < i → (F ++ [flip (clk (B.take i) R F) s])[j]? = F[j]? := fun j hj => List.getElem?_append_left (by omega)
  have atR : (R ++ [r])[i]? = some r := by rw [← hR]; simp
  have atF : (F ++ [flip (clk (B.take i) R F) s])[i]? = some (flip (clk (B.take i) R F) s) := by
    have : (F ++ [flip (clk (B.take i) R F) s])[F.length]? = some (flip (clk (B.take i) R F) s) := by simp
    rwa [hF] at this
  have el' : lenAt B (R ++ [r]) i = some l := by rw [lenAt_pre preR]; exact el
  have st' : StandsTo B (R ++ [r]) (i + 1) := by
    have := stands_snoc (x := r) (by rw [hR]; exact h.st) (by rw [hR]; exact el) r1 r2
    rwa [hR] at this
  have hpas : pas B (R ++ [r]) (F ++ [flip (clk (B.take i) R F) s]) i = pasN B i l r (flip (clk (B.take i) R F) s) := pas_eq el' atR atF
  refine ⟨by rw [List.length_append, hR]; rfl, by rw [List.length_append, hF]; rfl, st', fun x hx => ?_, fun _ => ?_, fun j hj => ?_, ?_, by omega, ?_⟩
  · rcases List.mem_append.mp hx with hx | hx
    · exact h.fo x hx
    · obtain rfl : x = flip (clk (B.take i) R F) s := by simpa using hx
      exact flip_ok hs
  · by_cases z : i = 0
    · subst z
      have e1 : s = 1 := by simpa using es.symm
      rw [atF, e1, List.take_zero]; rfl
    · rw [preF 0 (by omega)]; exact h.u (by omega)
  · unfold sgn
    have hc : clk (B.take (j + 1)) (R ++ [r]) (F ++ [flip (clk (B.take i) R F) s]) = clk (B.take (j + 1)) R F := clk_pre fun m hm => by
      rw [List.length_take] at hm
      exact ⟨preR m (by omega), preF m (by omega)⟩
    rw [hc]
    by_cases z : j + 1 < i
    · rw [preF (j + 1) z]; exact h.sg j z
    · have z2 : j + 1 = i := by omega
      rw [z2, atF]
      show _ = some (flip _ (flip _ _))
      rw [flip_flip]
      rw [← z2] at es
      simpa using es
  · show _ = c - (sumN _ i + pas B _ _ i)
    rw [hpas, pas_pre (R := R) (F := F) fun j hj => ⟨preR j hj, preF j hj⟩]
    have := h.eq
    omega
  · rw [q_next (fun hl => ?_) hi' atR]
    · omega
    · obtain ⟨n, e, _⟩ := len_ex G hl st'
      exact ⟨n, e⟩
theorem ok_fhs {f fR fF fL fP fX : Addr} {fd fdR fdF fdL fdP fdX : FuncData} {k : Nat} (T : Bl mg) (F : Fun K "first_half_state" "first_half_state" sFirstHalfState f fd)
    (DR : Df K mg "running_sums" sRunningSums ["book", "weights"] fR fdR) (GR : FnOk P w K mg base CX0 k fR fdR ["book", "weights"] (spRun K))
    (DF : Df K mg "flipped" sFlipped ["book", "face", "rungs", "faces"] fF fdF) (GF : FnOk P w K mg base CX0 k fF fdF ["book", "face", "rungs", "faces"] (spFlip K))
    (DL : Df K mg "length_of" sLengthOf ["book", "rungs", "climber"] fL fdL) (GL : FnOk P w K mg base CX0 k fL fdL ["book", "rungs", "climber"] (spLengthOf K))
    (DX : Df K mg "rung_reached" sRungReached ["row", "length", "face", "number"] fX fdX) (GX : FnOk P w K mg base CX0 k fX fdX ["row", "length", "face", "number"] (spReach K))
    (DP : Df K mg "passed" sPassed ["row", "length", "rung", "face"] fP fdP) (GP : FnOk P w K mg base CX0 k fP fdP ["row", "length", "rung", "face"] (spPassed K)) :
    FnOk P w K mg base CX0 (k + 1) f fd ["book", "signs", "weights", "number"] (spFhs K) := by
  refine F.ok scFirstHalfState (fun vs H Q E h => ?_) (fun cdv A outer s H vs Q E hr h => ?_)
  · obtain ⟨_, _, _, _, _, _, _, _, _, _, rfl, _⟩ := h; rfl
  obtain ⟨b, sv, wv, bd, sgd, wd, B, M, c, hi, rfl, hb, hB, hsv, hM, hw, hW, hG, hhi, hlen, hMl, hMo, c0, c1, q⟩ := h
  have nd := scFirstHalfState.nd
  have hT := hG.tabs
  obtain ⟨n0, e0⟩ := hG.first
  have h0 : 0 < B.length := (List.getElem?_eq_some_iff.mp e0).1
  refine ⟨_, pss_cons (ps_set (i := 4) nd rfl (.inl rfl) (pe_lst pa_nil))
    (pss_cons (ps_set (i := 5) nd rfl (.inl rfl) (pe_lst pa_nil))
    (pss_cons (ps_set (i := 6) nd rfl (.inl rfl) (pv 3))
    (pss_cons (ps_set (i := 7) nd rfl (.inl rfl) (pe_do DR GR hr rfl (pa_cons (pv 0) (pa_cons (pv 2) pa_nil))))
    (pss_cons (ps_for PassesOwn.never rfl (pi_enum rfl T.enum (pa_cons (pe_lst (pa_cons pe_int (StX.pa_star (pv 1) pa_nil))) pa_nil))
        (pg_tup rfl (pgs_cons (pg_name (i := 8) nd rfl (.inl rfl)) (pgs_cons (pg_name (i := 9) nd rfl (.inl rfl)) pgs_nil)))
      (pss_cons (ps_set (i := 10) nd rfl (.inl rfl) (pe_do DF GF hr rfl (pa_cons (pv 0) (pa_cons (pv 9) (pa_cons (pv 4) (pa_cons (pv 5) pa_nil))))))
      (pss_cons (ps_set (i := 11) nd rfl (.inl rfl) (pe_do DL GL hr rfl (pa_cons (pv 0) (pa_cons (pv 4) (pa_cons (pv 8) pa_nil)))))
      (pss_cons (ps_set (i := 12) nd rfl (.inl rfl) (pe_do DX GX hr rfl (pa_cons (pe_ix ix_list (pv 7) (pv 8) (fun _ _ => rfl)) (pa_cons (pv 11) (pa_cons (pv 10) (pa_cons (pv 6) pa_nil))))))
      (pss_cons (ps_aug (i := 6) nd rfl (.inl rfl) (pe_do DP GP hr rfl (pa_cons (pe_ix ix_list (pv 7) (pv 8) (fun _ _ => rfl)) (pa_cons (pv 11) (pa_cons (pv 12) (pa_cons (pv 10) pa_nil))))) ip_sub)
      (pss_cons (ps_expr (pe_bm PySem.F.plainAttrs_list PySem.F.slot_list_append PySem.F.type_list_append mt_append (pv 4) (pa_cons (pv 12) pa_nil)))
      (pss_one (ps_expr (pe_bm PySem.F.plainAttrs_list PySem.F.slot_list_append PySem.F.type_list_append mt_append (pv 5) (pa_cons (pv 10) pa_nil))))))))))
    (pss_one (ps_ret (pe_tup (pa_cons (pe_callTy call_tuple_of rfl T.tuple bTuple (pa_cons (pv 4) pa_nil)) (pa_cons (pe_callTy call_tuple_of rfl T.tuple bTuple (pa_cons (pv 5) pa_nil)) pa_nil))))))))), ?_⟩
  refine ⟨by show 0 ≤ sizeLine; decide, fun ru nru => ?_⟩
  have s1 := same_new (o := .lst []) nru
  refine ⟨by show 0 ≤ sizeLine; decide, fun fa nfa => ?_⟩
  have s2 := same_new (o := .lst []) nfa
  have nfr : fa ≠ ru := fun z => by rw [z, upd_same] at nfa; cases nfa
  have nfaH : H fa = none := s1.free nfa
  have eru0 : (upd (upd H ru (.lst [])) fa (.lst [])) ru = some (.lst []) := by rw [upd_ne nfr.symm, upd_same]
  have efa0 : (upd (upd H ru (.lst [])) fa (.lst [])) fa = some (.lst []) := upd_same
  have s12 := s1.trans s2
  generalize upd (upd H ru (.lst [])) fa (.lst []) = Ha at s12 eru0 efa0
  refine ⟨_, rfl, ?_⟩
  obtain ⟨H3, eH3⟩ : ∃ H3, H3 = Ha := ⟨_, rfl⟩
  have s3 : Same Ha H3 := eH3 ▸ Same.refl _
  rw [← eH3]
  refine ⟨_, rfl, _, rfl, b, wv, bd, wd, B, onesW B, hi, rfl, dp_up hb (s12.trans s3), hB, dp_up hw (s12.trans s3), hW, hT, hhi, hlen, wok_ones hT, fun rp H4 nrp s4 hrp => ?_⟩
  have s34 := s3.trans s4
  obtain ⟨xs, hxs, hxa⟩ : ∃ xs, SqL K (fresh H3 H4) rp xs ∧ DpAll K (fresh H3 H4) xs ((List.range B.length).map fun k => rowL (rowW B (onesW B) k)) := by
    have z : Dp K (fresh H3 H4) (.ref rp) (rowsD B (onesW B)) := hrp
    cases z with
    | lst g1 g2 => exact ⟨_, g1, g2⟩
  have hfrn : Same (fresh H3 H4) (hid (hid H4 ru) fa) := fun a o e => by
    obtain ⟨h1, h2⟩ := fresh_inv e
    have n1 : a ≠ ru := fun z => by rw [z, s3 _ _ eru0] at h1; cases h1
    have n2 : a ≠ fa := fun z => by rw [z, s3 _ _ efa0] at h1; cases h1
    rw [hid_ne n2, hid_ne n1]; exact h2
  have hxs' : SqL K (hid (hid H4 ru) fa) rp xs := hfrn.seq hxs
  have hxb := dps_up hxa hfrn
  obtain ⟨sa, rfl, hsa⟩ := row_at (dp_up hsv (s12.trans s34)) hM
  refine ⟨_, rfl, sa, M.map V.int, rfl, hsa.symm, ?_⟩
  refine ⟨?_, fun sl nsl => ?_⟩
  · show (V.int 1 :: (M.map V.int ++ [])).length ≤ sizeLine
    rw [List.append_nil, List.length_cons, List.length_map]
    exact Nat.le_of_lt (small1000 (by omega))
  have s5 := same_new (o := .lst (V.int 1 :: (M.map V.int ++ []))) nsl
  have esl : (upd H4 sl (.lst (V.int 1 :: (M.map V.int ++ [])))) sl = some (.lst (((1 : Int) :: M).map V.int)) := by rw [upd_same, List.append_nil]; rfl
  have nslr : sl ≠ ru := fun z => by rw [z] at nsl; rw [s34 _ _ eru0] at nsl; cases nsl
  have nslf : sl ≠ fa := fun z => by rw [z] at nsl; rw [s34 _ _ efa0] at nsl; cases nsl
  have eru5 := s5 _ _ (s34 _ _ eru0)
  have efa5 := s5 _ _ (s34 _ _ efa0)
  have sH5 := s12.trans (s34.trans s5)
  -- what was there ahead of the loop, less the two lists that grow
  have base5 : Same (hid (hid H4 ru) fa) (upd H4 sl (.lst (V.int 1 :: (M.map V.int ++ [])))) := (hid_le.trans hid_le).trans s5
  generalize upd H4 sl (.lst (V.int 1 :: (M.map V.int ++ []))) = H5 at esl eru5 efa5 sH5 base5
  refine ⟨sl, ((1 : Int) :: M).map V.int, rfl, SqL.of esl, ?_⟩
  have hml : (((1 : Int) :: M).map V.int).length = B.length := by rw [List.length_map, List.length_cons]; omega
  refine for_it (walk_enum (xs := ((1 : Int) :: M).map V.int)) (fun i σ H6 => ∃ (y7 y8 y9 y10 y11 : Option V) (R Fc : List Int) (rest : Int), σ = [some b, some (.ref sa), some wv, some (.int c), some (.ref ru), some (.ref fa), some (.int rest), some (.ref rp), y7, y8, y9, y10, y11] ∧ SoFar B M c i R Fc rest ∧
      H6 ru = some (.lst (R.map V.int)) ∧ H6 fa = some (.lst (Fc.map V.int)) ∧ H6 sl = some (.lst (((1 : Int) :: M).map V.int)) ∧ Same H H6 ∧ Same (hid (hid H4 ru) fa) H6)
    ⟨none, none, none, none, none, [], [], c, rfl, ?_, eru5, efa5, esl, sH5, base5⟩ (fun i σ H6 _ ⟨_, _, _, _, _, _, _, _, _, _, _, _, e, _⟩ => SqL.of e) (fun i x σ H6 H7 hi6 hP hy => ?_) (fun σ H6 hP => ?_)
  · refine ⟨rfl, rfl, fun j hj => absurd hj (Nat.not_lt_zero j), fun x hx => (by cases hx), fun z => absurd z (Nat.lt_irrefl 0), fun j hj => absurd hj (Nat.not_lt_zero _), ?_, c0, ?_⟩
    · show c = c - 0; omega
    · unfold qN
      rw [if_pos h0, tot_zero e0]; exact c1
  · obtain ⟨y7, y8, y9, y10, y11, R, Fc, rest, rfl, hS, hru, hfa, hsl, sH, sb⟩ := hP
    obtain ⟨Tt, x1, x2, rfl, nT, rfl, e1, e2⟩ := hy
    have e1' : x1 = .int (i : Nat) := (Option.some.inj e1).symm
    subst e1'
    have hiB : i < B.length := by rw [hml] at hi6; exact hi6
    obtain ⟨sgv, es, rfl⟩ : ∃ v, ((1 : Int) :: M)[i]? = some v ∧ V.int v = x2 := by
      have e2' : (((1 : Int) :: M).map V.int)[i]? = some x2 := e2
      rw [List.getElem?_map] at e2'
      cases z : ((1 : Int) :: M)[i]? with
      | none => rw [z] at e2'; cases e2'
      | some v => rw [z] at e2'; exact ⟨v, rfl, Option.some.inj e2'⟩
    have hsv1 : sgv = 1 ∨ sgv = -1 := by
      rcases List.mem_cons.mp (List.mem_of_getElem? es) with rfl | hm
      · exact .inl rfl
      · exact hMo _ hm
    have sT := same_new (o := .tup [.int (i : Nat), .int sgv]) nT
    have hRl := hS.rl
    have hFl := hS.fl
    have hru7 := sT _ _ hru
    have hfa7 := sT _ _ hfa
    refine ⟨Tt, _, rfl, .inl (.inl upd_same), rfl, _, _, rfl, _, _, rfl, rfl, ?_⟩
    -- face
    have hOP : OkP (B.take R.length) R Fc := by
      rw [hRl]
      refine ⟨fun m hm => ?_, fun m hm => ?_⟩
      · rw [List.length_take] at hm
        obtain ⟨l', r', g1, g2⟩ := hS.st m (by omega)
        exact ⟨l', r', by rw [lenAt_take (by omega)]; exact g1, g2⟩
      · rw [List.length_take] at hm
        have hm' : m < Fc.length := by omega
        exact ⟨_, List.getElem?_eq_getElem hm', hS.fo _ (List.getElem_mem hm')⟩
    refine ⟨_, rfl, _, rfl, _, rfl, _, rfl, b, .ref ru, .ref fa, sgv, bd, rowL R, rowL Fc, B, R, Fc, hi, rfl, dp_up hb (sH.trans sT), hB, dp_lstI hru7, rowL_row R, dp_lstI hfa7, rowL_row Fc, hG, hhi, hlen, by omega, hOP, fun H8 s8 => ?_⟩
    rw [hRl]
    generalize hface : flip (clk (B.take i) R Fc) sgv = face
    -- length
    obtain ⟨l, l1, l2, l3⟩ := len_ex hG hiB hS.st
    have hru8 := s8 _ _ hru7
    refine ⟨_, rfl, _, rfl, _, rfl, b, .ref ru, i, bd, rowL R, B, R, l, rfl, dp_up hb ((sH.trans sT).trans s8), hB, dp_lstI hru8, rowL_row R, l1, ?_⟩
    -- rung
    have er : B[i]? = some B[i] := List.getElem?_eq_getElem hiB
    have hlm := len_mx l1 er
    have sb8 := sb.trans (sT.trans s8)
    obtain ⟨v, ev, dv⟩ := dps_get (i := i) (d := rowL (rowW B (onesW B) i)) hxb (by rw [List.getElem?_map, List.getElem?_range hiB]; rfl)
    obtain ⟨rwa, rfl, hrw⟩ := row_at dv (rowL_row _)
    have hrw8 := sq_mono sb8 hrw
    have hrowl : l.toNat < (rowW B (onesW B) i).length := by rw [rowW_len er]; omega
    have rg : ∀ m : Nat, m ≤ (mxR B[i]).toNat → ((rowW B (onesW B) i)[m]?).getD 0 = rowN B i m := fun m hm => by rw [rowW_get er hm, rowF_ones er hm]; rfl
    have hq : qN B R i = rowN B i l.toNat := by unfold qN totN; rw [if_pos hiB, l1]; rfl
    refine ⟨_, rfl, _, rfl, rp, xs, _, _, rfl, rfl, sb8.seq hxs', atI_nat ev, ?_⟩
    refine ⟨_, rfl, _, rfl, _, rfl, rwa, rowW B (onesW B) i, l, face, rest, rfl, hrw8, l2, by omega, hrowl, by rw [rg 0 (Nat.zero_le _)]; rfl, hS.lo, ?_, fun r H9 hReach s9 => ?_⟩
    · rw [rg _ (by omega), ← hq]; exact hS.hi
    have hp := pasL_ones (f := face) er hReach.lo hReach.hi hlm
    have hr1 := hReach.lo
    have hr2 := hReach.hi
    have ha1 := hReach.le
    have ha2 := hReach.lt
    rw [hp] at ha1 ha2
    rw [rg _ (by omega), rg _ (by omega), show r.toNat = (r - 1).toNat + 1 by omega, rowN_succ] at ha2
    -- rest
    have sb9 := sb8.trans s9
    refine ⟨_, rfl, _, rfl, _, rfl, rp, xs, _, _, rfl, rfl, sb9.seq hxs', atI_nat ev, ?_⟩
    refine ⟨_, rfl, _, rfl, _, rfl, rwa, rowW B (onesW B) i, l, r, face, rfl, sq_mono sb9 hrw, hr1, hr2, hrowl, ?_⟩
    rw [hp]
    refine ⟨_, _, rfl, rfl, ?_⟩
    -- append
    have hru9 := s9 _ _ hru8
    have hfa9 := s9 _ _ (s8 _ _ hfa7)
    refine ⟨_, rfl, .inl ⟨rfl, _, SqL.of hru9⟩, _, rfl, ru, _, _, rfl, rfl, hru9, ?_, ?_⟩
    · rw [List.length_map]; exact small1000 (by omega)
    have hfa10 : (upd H9 ru (.lst (R.map V.int ++ [V.int r]))) fa = some (.lst (Fc.map V.int)) := by rw [upd_ne nfr]; exact hfa9
    refine ⟨_, rfl, .inl ⟨rfl, _, SqL.of hfa10⟩, _, rfl, fa, _, _, rfl, rfl, hfa10, ?_, ?_⟩
    · rw [List.length_map]; exact small1000 (by omega)
    have hN := hS.next (l := l) (r := r) (s := sgv) hG hiB l1 hr1 hr2 es hsv1 (by rw [hface]; exact ha1) (by rw [hface]; omega)
    rw [hface] at hN
    refine ⟨some (.int (i : Nat)), some (.int sgv), some (.int face), some (.int l), some (.int r), R ++ [r], Fc ++ [face], _, rfl, hN, ?_, ?_, ?_, fun a o ea => ?_, fun a o ea => ?_⟩
    · rw [upd_ne nfr.symm, upd_same, List.map_append]; rfl
    · rw [upd_same, List.map_append]; rfl
    · rw [upd_ne nslf, upd_ne nslr]; exact s9 _ _ (s8 _ _ (sT _ _ hsl))
    · rw [upd_ne (ne_of_none ea nfaH), upd_ne (ne_of_none ea nru)]; exact s9 _ _ (s8 _ _ (sT _ _ (sH _ _ ea)))
    · obtain ⟨n1, q1⟩ := hid_some ea
      obtain ⟨n2, _⟩ := hid_some q1
      rw [upd_ne n1, upd_ne n2]; exact sb9 _ _ ea
  · obtain ⟨y7, y8, y9, y10, y11, R, Fc, rest, rfl, hS, hru, hfa, hsl, sH, sb⟩ := hP
    rw [hml] at hS
    refine ⟨_, rfl, ru, _, rfl, .inl ⟨SqL.of hru, fun t nt => ?_⟩⟩
    have st := same_new (o := .tup (R.map V.int)) nt
    refine ⟨_, rfl, fa, _, rfl, .inl ⟨SqL.of (st _ _ hfa), fun u nu => ?_⟩⟩
    have su := same_new (o := .tup (Fc.map V.int)) nu
    refine ⟨by show 2 ≤ sizeLine; decide, fun p np => ?_⟩
    have sp := same_new (o := .tup [.ref t, .ref u]) np
    have hlo := hS.lo
    have hhi2 := hS.hi
    have heq := hS.eq
    have hq1 : qN B R B.length = 1 := by unfold qN; rw [if_neg (by omega)]
    have ntH : H t = none := sH.free nt
    have nuH : H u = none := (sH.trans st).free nu
    have npH : H p = none := ((sH.trans st).trans su).free np
    refine q p _ (R, Fc) ⟨⟨hS.rl, hS.st⟩, hS.fl, hS.fo⟩ (hS.u h0) ?_ ?_ npH (((sH.trans st).trans su).trans sp) (new_tup npH upd_same (.cons (new_tup ntH (sp _ _ (su _ _ upd_same)) (new_ints R)) (.cons (new_tup nuH (sp _ _ upd_same) (new_ints Fc)) .nil)))
    · show sumN (pas B R Fc) B.length = c
      omega
    · apply List.ext_getElem?
      intro j
      by_cases z : j < B.length - 1
      · rw [sg_get z]; exact (hS.sg j (by omega)).symm
      · rw [List.getElem?_eq_none (by rw [sg_len]; omega), List.getElem?_eq_none (by omega)]
end
end Af
namespace Af
open PySem PySem.Spec PyProof.Rows L2
section
variable {P : Program} {w : World} {K : PySem.W.Frag} {mg : Str → Option Value} {base : Heap}
/-! turned, of what is known in a part G of the heap -/
def spTurnG (K : PySem.W.Frag) : Sp := fun vs H Q _ => ∃ (G : Hp) (st : V) (sd : PyData) (R F : List Int), vs = [st] ∧ Same G H ∧ Dp K G st sd ∧ StateD sd R F ∧ F.length ≤ 1000 ∧
  ∀ (p : Addr) (H' : Hp), Same H H' → Dp K (mxH G H H') (.ref p) (stateT R (negL F)) → Q (.ref p) H'
theorem ok_turnG {f : Addr} {fd : FuncData} {k : Nat} (T : Bl mg) (F : Fun K "turned" "turned" sTurned f fd) : FnOk P w K mg base CX0 (k + 1) f fd ["state"] (spTurnG K) := by
  refine F.ok scTurned (fun vs H Q E h => ?_) (fun cdv A outer s H vs Q E hr h => ?_)
  · obtain ⟨_, _, _, _, _, rfl, _⟩ := h; rfl
  obtain ⟨G, st, sd, R, Fc, rfl, sG, hst, hSt, hF, q⟩ := h
  have nd := scTurned.nd
  refine ⟨_, pss_cons (ps_asg (pv 0) (pg_seq rfl (pgs_cons (pg_name (i := 1) nd rfl (.inl rfl)) (pgs_cons (pg_name (i := 2) nd rfl (.inl rfl)) pgs_nil))))
    (pss_one (ps_ret (pe_tup (pa_cons (pe_callTy (call_tupG (K := K)) rfl T.tuple bTuple (pa_cons (pv 1) pa_nil)) (pa_cons (pe_callTy call_tuple_of rfl T.tuple bTuple (pa_cons
      (pe_lc (own := [("face", 3)]) (g := gName 3) (tt := tYes) rfl nd (pi_seq (pv 2)) (blkOk_by (N := ["state", "standing", "faces", "face"]) (sc := defScope sTurned) (by decide +kernel))
        (fun _ _ _ _ _ => pg_name (i := 3) nd rfl (.inl rfl)) (fun _ _ _ _ _ => pts_nil) (fun _ _ _ _ _ => pe_un un_neg (pv 3))) pa_nil)) pa_nil))))), ?_⟩
  obtain ⟨a, r, fc, rd, fcd, rfl, hq, hr', hR, hf', hFd⟩ := state_at hst hSt
  obtain ⟨ra, rfl, hra⟩ := row_at hr' hR
  obtain ⟨fa, rfl, hfa⟩ := row_at hf' hFd
  refine ⟨_, rfl, a, _, rfl, sq_mono sG hq, rfl, _, _, rfl, _, _, rfl, rfl, ?_⟩
  refine ⟨_, rfl, G, ra, R, rfl, sG, hra, fun t H1 s1 ht => ?_⟩
  obtain ⟨bb, hbb⟩ := hfa.kind
  have hbb1 := hbb.up (sG.trans s1)
  refine ⟨_, rfl, fa, _, bb, rfl, hbb1, fun J wJ => fun D nD => ?_⟩
  have sD := same_new (o := .lst []) nD
  refine lc_it wJ (fun i H3 => H3 D = some (.lst ((negL (Fc.take i)).map V.int)) ∧ Same H1 H3) ⟨upd_same, sD⟩ (fun i H3 _ hP => hbb1.up hP.2) (fun i v H3 H4 hi hP hy => ?_) (fun H3 hP => ?_)
  · obtain ⟨hD, sm⟩ := hP
    obtain ⟨rfl, e1⟩ := hy
    rw [List.getElem?_map] at e1
    cases e : Fc[i]? with
    | none => rw [e] at e1; cases e1
    | some x =>
      rw [e] at e1
      cases e1
      refine ⟨rfl, yesS ?_⟩
      refine ⟨_, rfl, _, rfl, _, hD, ?_, ?_, fun c o ec => ?_⟩
      · rw [List.length_map, negL_len, List.length_take]; exact small1000 (by omega)
      · rw [upd_same, List.take_add_one, e]
        show _ = some (HO.lst ((negL (Fc.take i ++ [x])).map V.int))
        unfold negL
        rw [List.map_append, List.map_append]; rfl
      · rw [upd_ne (ne_of_none ec nD)]; exact sm _ _ ec
  · obtain ⟨hD, sm⟩ := hP
    rw [List.length_map, List.take_length] at hD
    refine ⟨D, _, rfl, .inl ⟨SqL.of hD, fun u nu => ?_⟩⟩
    have su := same_new (o := .tup ((negL Fc).map V.int)) nu
    refine ⟨by show 2 ≤ sizeLine; decide, fun p np => ?_⟩
    have sp := same_new (o := .tup [.ref t, .ref u]) np
    have c1 := s1.trans sm
    have c2 := c1.trans su
    refine q p _ (c2.trans sp) (.tup (.inl (.inl (by rw [mxH_new (c2.free np), upd_same]))) (.cons (dp_up ht (mxH_up (sm.trans (su.trans sp)))) (.cons (.tup (.inl (.inl (mxH_up sp _ _ (by rw [mxH_new (c1.free nu), upd_same])))) (dps_ints (negL Fc))) .nil)))
end
end Af
namespace Af
open PySem PySem.Spec PyProof.Rows L2
section
variable {P : Program} {w : World} {K : PySem.W.Frag} {mg : Str → Option Value} {base : Heap}
/-! start -/
def spStart (K : PySem.W.Frag) : Sp := fun vs H Q _ => ∃ (b sv : V) (bd sgd : PyData) (B : List (List Int)) (M : List Int) (hi : Int), vs = [b, sv] ∧ Dp K H b bd ∧ BookD bd B ∧ Dp K H sv sgd ∧ RowD sgd M ∧
  GoodB B hi ∧ hi ≤ 100 ∧ B.length ≤ 100 ∧ M.length = B.length - 1 ∧ FacesOk M ∧
  ∀ (p : Addr) (H' : Hp) (S : List Int × List Int), Ok B S → up S → clk B S.1 S.2 = 0 → sg B S.1 S.2 = M → Same H H' → NewD K H H' (.ref p) (stateT S.1 S.2) → Q (.ref p) H'
theorem ok_start {f fH fO : Addr} {fd fdH fdO : FuncData} {k : Nat} (F : Fun K "start" "start" sStart f fd)
    (DOnes : Df K mg "ones" sOnes ["book"] fO fdO) (GOnes : FnOk P w K mg base CX0 k fO fdO ["book"] (spOnes K))
    (DFirstHalfState : Df K mg "first_half_state" sFirstHalfState ["book", "signs", "weights", "number"] fH fdH) (GFirstHalfState : FnOk P w K mg base CX0 k fH fdH ["book", "signs", "weights", "number"] (spFhs K)) :
    FnOk P w K mg base CX0 (k + 1) f fd ["book", "signs"] (spStart K) := by
  refine F.ok scStart (fun vs H Q E h => ?_) (fun cdv A outer s H vs Q E hr h => ?_)
  · obtain ⟨_, _, _, _, _, _, _, rfl, _⟩ := h; rfl
  obtain ⟨b, sv, bd, sgd, B, M, hi, rfl, hb, hB, hsv, hM, hG, hhi, hlen, hMl, hMo, q⟩ := h
  refine ⟨_, pss_one (ps_ret (pe_do DFirstHalfState GFirstHalfState hr rfl (pa_cons (pv 0) (pa_cons (pv 1) (pa_cons (pe_do DOnes GOnes hr rfl (pa_cons (pv 0) pa_nil)) (pa_cons pe_int pa_nil)))))), ?_⟩
  have hN := many_pos hG
  refine ⟨_, rfl, _, rfl, _, rfl, b, bd, B, hi, rfl, hb, hB, hG.tabs, hhi, hlen, fun op H1 nop t1 hop => ?_⟩
  exact ⟨b, sv, .ref op, bd, sgd, bookL (onesW B), B, M, 0, hi, rfl, dp_up hb t1, hB, dp_up hsv t1, hM, hop.dp, bookL_book _, hG, hhi, hlen, hMl, hMo, by decide, by omega, fun p H' S hO hu hc hs _ s1 hp => q p H' S hO hu hc hs (t1.trans s1) (hp.down t1)⟩
end
end Af
namespace Af
open PySem PySem.Spec PyProof.Rows L2
section
variable {P : Program} {w : World} {K : PySem.W.Frag} {mg : Str → Option Value} {base : Heap}
/-! facing_up -/
def spFacing (K : PySem.W.Frag) : Sp := fun vs H Q _ => ∃ (st : V) (sd : PyData) (S : List Int × List Int), vs = [st] ∧ Dp K H st sd ∧ StateD sd S.1 S.2 ∧ 1 ≤ S.2.length ∧ S.2.length ≤ 100 ∧
  ∀ (p : Addr) (H' : Hp) (sd' : PyData), Same H H' → Dp K H' (.ref p) sd' → StateD sd' (upB S).1 (upB S).2 → Q (.ref p) H'
theorem ok_facing {f fT : Addr} {fd fdT : FuncData} {k : Nat} (F : Fun K "facing_up" "facing_up" sFacingUp f fd)
    (DT : Df K mg "turned" sTurned ["state"] fT fdT) (GT : FnOk P w K mg base CX0 k fT fdT ["state"] (spTurnG K)) : FnOk P w K mg base CX0 (k + 1) f fd ["state"] (spFacing K) := by
  refine F.ok scFacingUp (fun vs H Q E h => ?_) (fun cdv A outer s H vs Q E hr h => ?_)
  · obtain ⟨_, _, _, rfl, _⟩ := h; rfl
  obtain ⟨st, sd, S, rfl, hst, hSt, h1, h2, q⟩ := h
  have nd := scFacingUp.nd
  refine ⟨_, pss_cons (ps_asg (pv 0) (pg_seq rfl (pgs_cons (pg_name (i := 1) nd rfl (.inl rfl)) (pgs_cons (pg_name (i := 2) nd rfl (.inl rfl)) pgs_nil))))
    (pss_one (ps_ret (pe_ifExp (pt_cmpR op_eq (pe_ix ix_seq (pv 2) pe_int (fun _ _ => rfl)) pe_int (nomark _)) (pe_tup (pa_cons (pv 1) (pa_cons (pv 2) pa_nil))) (pe_do DT GT hr rfl (pa_cons (pv 0) pa_nil))))), ?_⟩
  obtain ⟨a, r, fc, rd, fcd, rfl, hq, hr', hR, hf', hFd⟩ := state_at hst hSt
  obtain ⟨fa, rfl, hfa⟩ := row_at hf' hFd
  refine ⟨_, rfl, a, _, rfl, hq, rfl, _, _, rfl, _, _, rfl, rfl, ?_⟩
  have e0 : S.2[0]? = some (S.2[0]?.getD 0) := by rw [List.getElem?_eq_getElem (by omega)]; rfl
  refine ⟨_, rfl, ix_of hfa (atI_nat (j := 0) (by rw [List.getElem?_map, e0]; rfl)) ⟨rfl, _, rfl, ?_⟩⟩
  refine ite2 (fun e => ?_) (fun e => ?_)
  · have e1 : S.2[0]?.getD 0 = 1 := V.int.inj (of_decide_eq_true e)
    have eu : upB S = S := by unfold upB; rw [if_pos e1]
    refine ⟨_, rfl, _, rfl, by show 2 ≤ sizeLine; decide, fun p np => ?_⟩
    have sp := same_new (o := .tup [r, .ref fa]) np
    refine q p _ (.tuple [rd, fcd]) sp (.tup (.inl (.inl upd_same)) (.cons (dp_up hr' sp) (.cons (dp_up hf' sp) .nil))) ?_
    rw [eu]
    exact ⟨rd, fcd, .t _, hR, hFd⟩
  · have e1 : ¬ S.2[0]?.getD 0 = 1 := fun z => e (decide_eq_true (by rw [z]))
    have eu : upB S = negS S := by unfold upB; rw [if_neg e1]
    refine ⟨_, rfl, H, .ref a, sd, S.1, S.2, rfl, Same.refl _, hst, hSt, by omega, fun p H1 s1 hp => ?_⟩
    refine q p H1 _ s1 (dp_up hp (mxH_le (Same.refl _) s1)) ?_
    rw [eu]
    exact stateT_state _ _
end
end Af
namespace Af
open PySem PySem.Spec PyProof.Rows L2
section
variable {P : Program} {w : World} {K : PySem.W.Frag} {mg : Str → Option Value} {base : Heap}
theorem ok_length {f fM : Addr} {fd fdM : FuncData} {k : Nat} (F : Fun K "round_length" "round_length" sRoundLength f fd)
    (DM : Df K mg "standings_many" sStandingsMany ["book"] fM fdM) (GM : FnOk P w K mg base CX0 k fM fdM ["book"] (spMany K 1)) :
    FnOk P w K mg base CX0 (k + 1) f fd ["book"] (spMany K 2) := by
  refine F.ok scRoundLength (fun vs H Q E h => ?_) (fun cdv A outer s H vs Q E hr h => ?_)
  · obtain ⟨_, _, _, _, rfl, _⟩ := h; rfl
  obtain ⟨b, bd, B, hi, rfl, hb, hB, hG, hhi, hlen, q⟩ := h
  refine ⟨_, pss_one (ps_ret (pe_op op_mul pe_int (pe_do DM GM hr rfl (pa_cons (pv 0) pa_nil)))), ?_⟩
  refine ⟨_, rfl, b, bd, B, hi, rfl, hb, hB, hG, hhi, hlen, fun H1 s1 => ⟨_, _, rfl, rfl, .inl ⟨by decide, by decide⟩, ?_⟩⟩
  rw [Int.one_mul]; exact q H1 s1
end
end Af
namespace Af
open PySem PySem.Spec PyProof.Rows L2
section
variable {P : Program} {w : World} {K : PySem.W.Frag} {mg : Str → Option Value} {base : Heap}
/-! clock -/
def spClock (K : PySem.W.Frag) : Sp := fun vs H Q _ => ∃ (b st : V) (bd sd : PyData) (B : List (List Int)) (S : List Int × List Int) (hi : Int), vs = [b, st] ∧ Dp K H b bd ∧ BookD bd B ∧ Dp K H st sd ∧ StateD sd S.1 S.2 ∧
  GoodB B hi ∧ hi ≤ 100 ∧ B.length ≤ 100 ∧ Ok B S ∧ ∀ H', Same H H' → Q (.int (clockM B S)) H'
theorem ok_clock {f fU fC fN : Addr} {fd fdU fdC fdN : FuncData} {k : Nat} (F : Fun K "clock" "clock" sClock f fd)
    (DU : Df K mg "facing_up" sFacingUp ["state"] fU fdU) (GU : FnOk P w K mg base CX0 k fU fdU ["state"] (spFacing K))
    (DC : Df K mg "part_clock" sPartClock ["book", "rungs", "faces"] fC fdC) (GC : FnOk P w K mg base CX0 k fC fdC ["book", "rungs", "faces"] (spPart K))
    (DN : Df K mg "round_length" sRoundLength ["book"] fN fdN) (GN : FnOk P w K mg base CX0 k fN fdN ["book"] (spMany K 2)) :
    FnOk P w K mg base CX0 (k + 1) f fd ["book", "state"] (spClock K) := by
  refine F.ok scClock (fun vs H Q E h => ?_) (fun cdv A outer s H vs Q E hr h => ?_)
  · obtain ⟨_, _, _, _, _, _, _, rfl, _⟩ := h; rfl
  obtain ⟨b, st, bd, sd, B, S, hi, rfl, hb, hB, hst, hSt, hG, hhi, hlen, hO, q⟩ := h
  have nd := scClock.nd
  have hfl := hO.fl
  obtain ⟨n0, e0⟩ := hG.first
  have h0 : 0 < B.length := (List.getElem?_eq_some_iff.mp e0).1
  refine ⟨_, pss_cons (ps_asg (pe_do DU GU hr rfl (pa_cons (pv 1) pa_nil)) (pg_seq rfl (pgs_cons (pg_name (i := 2) nd rfl (.inl rfl)) (pgs_cons (pg_name (i := 3) nd rfl (.inl rfl)) pgs_nil))))
    (pss_cons (ps_set (i := 4) nd rfl (.inl rfl) (pe_do DC GC hr rfl (pa_cons (pv 0) (pa_cons (pv 2) (pa_cons (pv 3) pa_nil)))))
    (pss_one (ps_ret (pe_ifExp (pt_cmpR op_eq (pe_ix ix_seq (pe_ix ix_seq (pv 1) pe_int (fun _ _ => rfl)) pe_int (fun _ _ => rfl)) pe_int (nomark _)) (pv 4) (pe_op op_sub (pe_op op_sub (pe_do DN GN hr rfl (pa_cons (pv 0) pa_nil)) pe_int) (pv 4)))))), ?_⟩
  refine ⟨_, rfl, st, sd, S, rfl, hst, hSt, by omega, by omega, fun p H1 sd' s1 hp hS' => ?_⟩
  have hU := upB_ok hO
  obtain ⟨a, r, fc, rd, fcd, ea, hq, hr', hR, hf', hFd⟩ := state_at hp hS'
  cases ea
  refine ⟨p, _, rfl, hq, rfl, _, _, rfl, _, _, rfl, rfl, ?_⟩
  have hRl : (upB S).1.length = B.length := hU.st.len
  have hw : B.take (upB S).1.length = B := by rw [hRl, List.take_length]
  refine ⟨_, rfl, _, rfl, _, rfl, b, r, fc, bd, rd, fcd, B, (upB S).1, (upB S).2, hi, rfl, dp_up hb s1, hB, hr', hR, hf', hFd, hG, hhi, hlen, by omega, by rw [hw]; exact hU.whole, fun H2 s2 => ?_⟩
  rw [hw]
  obtain ⟨a2, r2, f2, rd2, fd2, rfl, k1, k2, k3, k4, k5⟩ := state_at (dp_up hst (s1.trans s2)) hSt
  obtain ⟨fa, rfl, hfa⟩ := row_at k4 k5
  have ef : S.2[0]? = some (S.2[0]?.getD 0) := by rw [List.getElem?_eq_getElem (by omega)]; rfl
  refine ⟨_, rfl, ix_of k1 (atI_nat (j := 1) rfl) (ix_of hfa (atI_nat (j := 0) (by rw [List.getElem?_map, ef]; rfl)) ⟨rfl, _, rfl, ?_⟩)⟩
  refine ite2 (fun e => ?_) (fun e => ?_)
  · have e1 : S.2[0]?.getD 0 = 1 := V.int.inj (of_decide_eq_true e)
    have z := q H2 (s1.trans s2)
    have eu : upB S = S := by unfold upB; rw [if_pos e1]
    unfold clockM at z
    rw [if_pos e1] at z
    rw [eu]
    exact ⟨_, rfl, z⟩
  · have e1 : ¬ S.2[0]?.getD 0 = 1 := fun z => e (decide_eq_true (by rw [z]))
    have eu : upB S = negS S := by unfold upB; rw [if_neg e1]
    refine ⟨_, rfl, b, bd, B, hi, rfl, dp_up hb (s1.trans s2), hB, hG, hhi, hlen, fun H3 s3 => ⟨_, _, rfl, rfl, _, rfl, _, _, rfl, rfl, ?_⟩⟩
    have z := q H3 ((s1.trans s2).trans s3)
    unfold clockM at z
    rw [if_neg e1] at z
    rw [eu]
    exact z
end
end Af
namespace Af
open PySem PySem.Spec PyProof.Rows L2
section
variable {P : Program} {w : World} {K : PySem.W.Frag} {mg : Str → Option Value} {base : Heap}
/-! signs_of -/
def spSigns (K : PySem.W.Frag) : Sp := fun vs H Q _ => ∃ (b st : V) (bd sd : PyData) (B : List (List Int)) (S : List Int × List Int) (hi : Int), vs = [b, st] ∧ Dp K H b bd ∧ BookD bd B ∧ Dp K H st sd ∧ StateD sd S.1 S.2 ∧
  GoodB B hi ∧ hi ≤ 100 ∧ B.length ≤ 100 ∧ Ok B S ∧ ∀ (p : Addr) (H' : Hp), Same H H' → NewD K H H' (.ref p) (rowT (signsM B S)) → Q (.ref p) H'
theorem ok_signs {f fU fC : Addr} {fd fdU fdC : FuncData} {k : Nat} (T : Bl mg) (F : Fun K "signs_of" "signs_of" sSignsOf f fd)
    (DFacingUp : Df K mg "facing_up" sFacingUp ["state"] fU fdU) (GFacingUp : FnOk P w K mg base CX0 k fU fdU ["state"] (spFacing K))
    (DFlipped : Df K mg "flipped" sFlipped ["book", "face", "rungs", "faces"] fC fdC) (GFlipped : FnOk P w K mg base CX0 k fC fdC ["book", "face", "rungs", "faces"] (spFlip K)) :
    FnOk P w K mg base CX0 (k + 1) f fd ["book", "state"] (spSigns K) := by
  refine F.ok scSignsOf (fun vs H Q E h => ?_) (fun cdv A outer s H vs Q E hr h => ?_)
  · obtain ⟨_, _, _, _, _, _, _, rfl, _⟩ := h; rfl
  obtain ⟨b, st, bd, sd, B, S, hi, rfl, hb, hB, hst, hSt, hG, hhi, hlen, hO, q⟩ := h
  have nd := scSignsOf.nd
  have hfl := hO.fl
  obtain ⟨n0, e0⟩ := hG.first
  have h0 : 0 < B.length := (List.getElem?_eq_some_iff.mp e0).1
  refine ⟨_, pss_cons (ps_asg (pe_do DFacingUp GFacingUp hr rfl (pa_cons (pv 1) pa_nil)) (pg_seq rfl (pgs_cons (pg_name (i := 2) nd rfl (.inr rfl)) (pgs_cons (pg_name (i := 3) nd rfl (.inr rfl)) pgs_nil))))
    (pss_one (ps_ret (pe_callTy call_tuple_of rfl T.tuple bTuple (pa_cons (pe_lc (own := [("climber", 4)]) (g := gName 4) (tt := tYes) rfl nd (pi_range2 rfl T.range (pa_cons pe_int (pa_cons (pe_callB call_len_seq rfl T.len bLen (pa_cons (pv 0) pa_nil)) pa_nil))) (blkOk_by (N := ["book", "state", "standing", "faces", "climber"]) (sc := defScope sSignsOf) (by decide +kernel)) (fun _ _ _ _ _ => pg_name (i := 4) nd rfl (.inl rfl)) (fun _ _ _ _ _ => pts_nil) (fun _ _ _ _ _ => (pe_do DFlipped GFlipped hr rfl (pa_cons (pv 0) (pa_cons (pe_ix (ixK (K := K)) (pv 3) (pv 4) (fun _ _ => rfl)) (pa_cons (pe_slice (slK (K := K)) (pv 2) po_none (po_some (pv 4))) (pa_cons (pv 3) pa_nil))))))) pa_nil)))), ?_⟩
  refine ⟨_, rfl, st, sd, S, rfl, hst, hSt, by omega, by omega, fun p H1 sd' s1 hp hS' => ?_⟩
  have hU := upB_ok hO
  obtain ⟨a, r, fc, rd, fcd, ea, hq, hr', hR, hf', hFd⟩ := state_at hp hS'
  cases ea
  refine ⟨p, _, rfl, hq, rfl, _, _, rfl, _, _, rfl, rfl, ?_⟩
  have hRl : (upB S).1.length = B.length := hU.st.len
  have hFl : (upB S).2.length = B.length := hU.fl
  obtain ⟨ba, xs, rfl, hba, hxl⟩ := book_len (dp_up hb s1) hB
  obtain ⟨ra, rb, rfl, hra⟩ := row_seqB hr' hR
  obtain ⟨fa, rfl, hfa⟩ := row_at hf' hFd
  refine ⟨_, rfl, ba, xs, rfl, hba, _, _, rfl, ⟨by omega, by omega, by omega, by omega⟩, fun D nD => ?_⟩
  have sD := same_new (o := .lst []) nD
  have en : (((xs.length : Nat) : Int) - 1).toNat = B.length - 1 := by omega
  rw [en]
  refine lc_range (lo := 1) (n := B.length - 1) (fun i H3 => H3 D = some (.lst (((List.range i).map (sgn B (upB S).1 (upB S).2)).map V.int)) ∧ Same H1 H3) ⟨upd_same, sD⟩ (fun i H3 hi3 hP => ?_) (fun H3 hP => ?_)
  · obtain ⟨hD, sm⟩ := hP
    have ei : (1 : Int) + (i : Nat) = ((i + 1 : Nat) : Int) := by omega
    have e3 : (upB S).2[i + 1]? = some ((upB S).2[i + 1]?.getD 0) := by rw [List.getElem?_eq_getElem (by omega)]; rfl
    refine ⟨rfl, ?_⟩
    rw [ei]
    refine yesS ?_
    refine ⟨_, rfl, _, rfl, _, rfl, ix_of (sq_mono sm hfa) (atI_nat (j := i + 1) (by rw [List.getElem?_map, e3]; rfl)) ?_⟩
    refine ⟨_, rfl, _, rfl, _, rfl, ra, _, rb, rfl, hra.up sm, fun sp H4 s4 hsp => ?_⟩
    rw [cut_takeI (by omega)] at hsp
    have htl : ((upB S).1.take (i + 1)).length = i + 1 := by rw [List.length_take]; omega
    have ptk : ∀ j, j < i + 1 → ((upB S).1.take (i + 1))[j]? = (upB S).1[j]? := fun j hj => List.getElem?_take_of_lt hj
    have hec : clk (B.take (i + 1)) ((upB S).1.take (i + 1)) (upB S).2 = clk (B.take (i + 1)) (upB S).1 (upB S).2 := clk_pre fun j hj => by
      rw [List.length_take] at hj
      exact ⟨ptk j (by omega), rfl⟩
    have hop : OkP (B.take (i + 1)) ((upB S).1.take (i + 1)) (upB S).2 := by
      have z := hU.part (i + 1)
      refine ⟨fun c hc => ?_, z.fc⟩
      obtain ⟨n, r, g1, g2, g3⟩ := z.st c hc
      rw [List.length_take] at hc
      exact ⟨n, r, by rw [← g1]; exact lenAt_pre fun j hj => ptk j (by omega), by rw [ptk c (by omega)]; exact g2, g3⟩
    refine ⟨_, rfl, _, .ref sp, .ref fa, _, bd, _, fcd, B, (upB S).1.take (i + 1), (upB S).2, hi, rfl, dp_up hb (s1.trans (sm.trans s4)), hB, dp_sqB hsp, seqD_seq _ _, dp_up hf' (sm.trans s4), hFd, hG, hhi, hlen, by omega, by rw [htl]; exact hop, fun H5 s5 => ?_⟩
    rw [htl, hec]
    have s35 := s4.trans s5
    refine ⟨_, s35 _ _ hD, ?_, ?_, fun c o ec => ?_⟩
    · rw [List.length_map, List.length_map, List.length_range]; exact small1000 (by omega)
    · rw [upd_same, List.range_succ, List.map_append, List.map_append]; rfl
    · rw [upd_ne (ne_of_none ec nD)]; exact s35 _ _ (sm _ _ ec)
  · obtain ⟨hD, sm⟩ := hP
    refine ⟨D, _, rfl, .inl ⟨SqL.of hD, fun p2 np => ?_⟩⟩
    have sp := same_new (o := .tup (((List.range (B.length - 1)).map (sgn B (upB S).1 (upB S).2)).map V.int)) np
    have c := s1.trans sm
    exact q p2 _ (c.trans sp) (new_tup (c.free np) upd_same (new_ints _))
end
end Af
namespace Af
open PySem PySem.Spec PyProof.Rows L2
section
variable {P : Program} {w : World} {K : PySem.W.Frag} {mg : Str → Option Value} {base : Heap}
/-! _law_take, with a span of up to 10 ** (7 * (n + 1)) -/
def spTakeW (n : Nat) : Sp := fun vs H Q _ => ∃ (bx : Addr) (span : Int) (m : Nat), vs = [.ref bx, .int span] ∧ Box H bx m ∧ m ≤ 900000000 ∧ 1 ≤ span ∧ span ≤ 10000000 ^ (n + 1) ∧
  ∀ (r : Int) (H' : Hp), 0 ≤ r → r < span → Box H' bx (m + 10) → hid H' bx = hid H bx → Q (.int r) H'
def spTakeN (n : Nat) : Sp := fun vs H Q _ => ∃ (bx : Addr) (span : Int) (m : Nat), vs = [.ref bx, .int span] ∧ Box H bx m ∧ m ≤ 1000000000 - n ∧ 1 ≤ span ∧ span ≤ 10000000 ^ (n + 1) ∧
  ∀ (r : Int) (H' : Hp), 0 ≤ r → r < span → Box H' bx (m + n + 1) → hid H' bx = hid H bx → Q (.int r) H'
theorem pow_log {n : Nat} (hn : n ≤ 9) {x : Int} (h1 : 1 ≤ x) (h : x ≤ 10000000 ^ (n + 1)) : x.natAbs.log2 < 9000 := by
  have h2 : (10000000 : Int) ^ (n + 1) ≤ 10000000 ^ 10 := by
    have : n = 0 ∨ n = 1 ∨ n = 2 ∨ n = 3 ∨ n = 4 ∨ n = 5 ∨ n = 6 ∨ n = 7 ∨ n = 8 ∨ n = 9 := by omega
    rcases this with rfl | rfl | rfl | rfl | rfl | rfl | rfl | rfl | rfl | rfl <;> decide +kernel
  have h3 : (10000000 : Int) ^ 10 = 10000000000000000000000000000000000000000000000000000000000000000000000 := by decide
  have h4 : x.natAbs ≤ 10000000000000000000000000000000000000000000000000000000000000000000000 := by omega
  refine (Nat.log2_lt (by omega)).mpr (Nat.lt_of_le_of_lt h4 ?_)
  exact Nat.lt_of_lt_of_le (m := 2 ^ 300) (by decide) (Nat.pow_le_pow_right (by decide) (by decide))
theorem ok_takeN1 {f : Addr} {fd : FuncData} {n : Nat} (hn : n + 1 ≤ 9) (D : Df K mg "_law_take" sLawTake ["_law_box_here", "_law_span"] f fd) (G0 : FnOk P w K mg base CX0 1 f fd ["_law_box_here", "_law_span"] spTake) (G : FnOk P w K mg base CX0 (n + 1) f fd ["_law_box_here", "_law_span"] (spTakeN n)) :
    FnOk P w K mg base CX0 (n + 1 + 1) f fd ["_law_box_here", "_law_span"] (spTakeN (n + 1)) := by
  refine D.F.ok scLawTake (fun vs H Q E h => ?_) (fun cdv A outer s H vs Q E hr h => ?_)
  · obtain ⟨_, _, _, rfl, _⟩ := h; rfl
  obtain ⟨bx, span, m, rfl, hB, hm, s1, s2, q⟩ := h
  have hr1 : Room 1 _ := hr.mono (by omega)
  refine ⟨_, pss_cons (ps_if (pt_cmpR op_gt (pe_ix ix_list (pv 0) pe_int (fun _ _ => rfl)) pe_int (nomark _))
      (pss_cons (ps_set (i := 2) scLawTake.nd rfl (.inl rfl) (pe_op op_mod (pe_ix ix_list (pv 0) pe_int (fun _ _ => rfl)) (pv 1)))
      (pss_cons (ps_asg (pe_op op_fdivW (pe_ix ix_list (pv 0) pe_int (fun _ _ => rfl)) (pv 1)) (pg_sub (pv 0) pe_int set_list))
      (pss_one (ps_ret (pv 2))))) pss_nil)
    (pss_cons (ps_if (pt_cmpR op_gt (pv 1) (pe_op op_pow pe_int pe_int) (nomark _))
      (pss_one (ps_ret (pe_op op_mod (pe_op op_add (pe_do D G0 hr1 rfl (pa_cons (pv 0) (pa_cons (pe_op op_pow pe_int pe_int) pa_nil)))
        (pe_op op_mul (pe_op op_pow pe_int pe_int) (pe_do D G hr rfl (pa_cons (pv 0) (pa_cons (pe_op op_add (pe_op op_fdiv (pe_op op_sub (pv 1) pe_int) (pe_op op_pow pe_int pe_int)) pe_int) pa_nil))))) (pv 1)))) pss_nil)
    (pss_cons (ps_asg (pe_op op_add (pe_ix ix_list (pv 0) pe_int (fun _ _ => rfl)) pe_int) (pg_sub (pv 0) pe_int set_list))
    (pss_cons (ps_set (i := 3) scLawTake.nd rfl (.inl rfl) (pe_op op_mod (pe_op op_pow (pe_op op_add (pe_ix ix_list (pv 0) pe_int (fun _ _ => rfl)) (pe_op op_mul pe_int (pe_ix ix_list (pv 0) pe_int (fun _ _ => rfl)))) pe_int) pe_int))
    (pss_one (ps_ret (pe_op op_mod (pe_op op_fdiv (pe_op op_mod (pe_op op_add (pe_op op_mul (pv 3) (pe_op op_add (pe_op op_mod (pv 3) pe_int) pe_int)) (pe_op op_mul (pe_ix ix_list (pv 0) pe_int (fun _ _ => rfl)) pe_int)) pe_int) pe_int) (pv 1))))))), ?_⟩
  have hB0 := hB
  obtain ⟨a, b, c, hb, a0, b0, b1, c0, c1⟩ := hB
  have hL : SqL K H bx [.int a, .int b, .int c] := SqL.of hb
  have e7 : (10 : Int) ^ (7 : Int).toNat = 10000000 := by decide
  refine ⟨_, rfl, bx, _, 0, _, rfl, rfl, hL, atI_nat (j := 0) rfl, _, _, rfl, rfl, _, rfl, ?_⟩
  refine ite2 (fun e => ?_) (fun e => ?_)
  · refine ⟨_, rfl, bx, _, 0, _, rfl, rfl, hL, atI_nat (j := 0) rfl, _, rfl, _, _, rfl, rfl, (show (0 : Int) < span by omega), ?_⟩
    refine ⟨_, rfl, bx, _, 0, _, rfl, rfl, hL, atI_nat (j := 0) rfl, _, rfl, _, _, rfl, rfl, ⟨(show (0 : Int) < span by omega), pow_log hn s1 s2⟩, ?_⟩
    refine ⟨_, rfl, bx, _, 0, 0, rfl, rfl, hb, rfl, ?_⟩
    refine ⟨_, rfl, q (a % span) _ (Int.emod_nonneg _ (by omega)) (Int.emod_lt_of_pos _ (by omega)) ?_ hid_upd⟩
    exact ⟨a / span, b, c, upd_same, Int.ediv_nonneg a0 (by omega), b0, b1, c0, by omega⟩
  · refine ⟨_, rfl, _, _, rfl, rfl, ⟨by decide, by decide, by decide⟩, _, _, rfl, rfl, _, rfl, ?_⟩
    refine ite2 (fun e2 => ?_) (fun e2 => ?_)
    · have z : (10 : Int) ^ (7 : Int).toNat < span := of_decide_eq_true e2
      rw [e7] at z
      refine ⟨_, rfl, _, _, rfl, rfl, ⟨by decide, by decide, by decide⟩, ?_⟩
      refine ⟨bx, _, m, rfl, hB0, by omega, by decide, by decide, fun r1 H1 r10 r11 hB1 hh1 => ?_⟩
      refine ⟨_, _, rfl, rfl, ⟨by decide, by decide, by decide⟩, ?_⟩
      refine ⟨_, rfl, _, rfl, _, _, rfl, rfl, _, _, rfl, rfl, ⟨by decide, by decide, by decide⟩, _, _, rfl, rfl, ⟨by show (0 : Int) < 10 ^ (7 : Int).toNat; decide, by show (10 : Int) ^ (7 : Int).toNat < 1073741824; decide⟩, _, _, rfl, rfl, ?_⟩
      have hd1 : 0 ≤ (span - 1) / 10 ^ (7 : Int).toNat := by rw [e7]; exact Int.ediv_nonneg (by omega) (by decide)
      have hd2 : (span - 1) / 10 ^ (7 : Int).toNat + 1 ≤ 10000000 ^ (n + 1) := by
        rw [e7]
        have ep : (10000000 : Int) ^ (n + 1 + 1) = 10000000 ^ (n + 1) * 10000000 := Int.pow_succ _ _
        rw [ep] at s2
        have hlt : (span - 1) / 10000000 < 10000000 ^ (n + 1) := Int.ediv_lt_of_lt_mul (by decide) (by omega)
        omega
      refine ⟨bx, _, m + 1, rfl, hB1, by omega, by omega, hd2, fun r2 H2 r20 r21 hB2 hh2 => ?_⟩
      refine ⟨_, _, rfl, rfl, .inl ⟨by decide, by decide⟩, _, _, rfl, rfl, _, rfl, _, _, rfl, rfl, (show (0 : Int) < span by omega), ?_⟩
      exact q _ _ (Int.emod_nonneg _ (by omega)) (Int.emod_lt_of_pos _ (by omega)) (hB2.le (by omega)) (by rw [hh2, hh1])
    · have z : ¬ (10 : Int) ^ (7 : Int).toNat < span := fun c => e2 (decide_eq_true c)
      rw [e7] at z
      refine ⟨_, rfl, bx, _, 2, _, rfl, rfl, hL, atI_nat (j := 2) rfl, _, _, rfl, rfl, ?_⟩
      refine ⟨_, rfl, bx, _, 2, 2, rfl, rfl, hb, rfl, ?_⟩
      show _
      have hb2 : (upd H bx (.lst [.int a, .int b, .int (c + 1)])) bx = some (.lst [.int a, .int b, .int (c + 1)]) := upd_same
      have hL2 : SqL K (upd H bx (.lst [.int a, .int b, .int (c + 1)])) bx [.int a, .int b, .int (c + 1)] := SqL.of hb2
      refine ⟨_, rfl, bx, _, 1, _, rfl, rfl, hL2, atI_nat (j := 1) rfl, _, rfl, bx, _, 2, _, rfl, rfl, hL2, atI_nat (j := 2) rfl, _, _, rfl, rfl, .inl ⟨by decide, by decide⟩, _, _, rfl, rfl, _, _, rfl, rfl, ⟨by decide, by decide, ?_⟩, _, _, rfl, rfl, (show (0 : Int) < 2147483647 by decide), ?_⟩
      · show (b + 39373 * (c + 1)).natAbs < 2 ^ 64
        have : b < 4611686018427387904 := b1
        have e64 : (2 : Nat) ^ 64 = 18446744073709551616 := by decide
        omega
      · generalize ho : (b + 39373 * (c + 1)) ^ (5 : Int).toNat % 2147483647 = once
        have o1 : 0 ≤ once := by rw [← ho]; exact Int.emod_nonneg _ (by decide)
        have o2 : once < 2147483647 := by rw [← ho]; exact Int.emod_lt_of_pos _ (by decide)
        refine ⟨_, rfl, _, rfl, _, _, rfl, rfl, (show (0 : Int) < 40009 by decide), _, _, rfl, rfl, _, _, rfl, rfl, .inl ⟨by omega, by omega⟩, _, rfl, bx, _, 2, _, rfl, rfl, hL2, atI_nat (j := 2) rfl, _, _, rfl, rfl, .inr ⟨by decide, by decide⟩, _, _, rfl, rfl, _, _, rfl, rfl, (show (0 : Int) < 2147483629 by decide), _, _, rfl, rfl, ⟨by decide, by decide⟩, _, rfl, _, _, rfl, rfl, (show (0 : Int) < span by omega), ?_⟩
        exact q _ _ (Int.emod_nonneg _ (by omega)) (Int.emod_lt_of_pos _ (by omega)) ⟨a, b, c + 1, upd_same, a0, b0, b1, by omega, by omega⟩ hid_upd
theorem ok_takeN {f : Addr} {fd : FuncData} (D : Df K mg "_law_take" sLawTake ["_law_box_here", "_law_span"] f fd) : ∀ n : Nat, n ≤ 9 → FnOk P w K mg base CX0 (n + 1) f fd ["_law_box_here", "_law_span"] (spTakeN n)
  | 0, _ => by
    have G := ok_take (P := P) (w := w) (mg := mg) (base := base) (k := 0) D.F
    refine ⟨fun vs H Q E h => ?_, fun A fr s H ar us vs Q E a b c d h => G.run A fr s H ar us vs Q E a b c d ?_⟩
    · obtain ⟨_, _, _, rfl, _⟩ := h; rfl
    · obtain ⟨bx, span, m, e, hB, hm, s1, s2, q⟩ := h
      exact ⟨bx, span, m, e, hB, by omega, s1, by simpa using s2, fun r H' r0 r1 b1 h1 => q r H' r0 r1 (b1.le (by omega)) h1⟩
  | n + 1, hn => ok_takeN1 hn D (ok_take (k := 0) D.F) (ok_takeN D n (by omega))
theorem FnOk.conseq {f : Addr} {fd : FuncData} {k : Nat} {ps : List Str} {sp sp' : Sp} (G : FnOk P w K mg base CX0 k f fd ps sp) (h : ∀ vs H Q E, sp' vs H Q E → sp vs H Q E) : FnOk P w K mg base CX0 k f fd ps sp' :=
  ⟨fun vs H Q E z => G.len vs H Q E (h vs H Q E z), fun A fr s H ar us vs Q E a b c d z => G.run A fr s H ar us vs Q E a b c d (h vs H Q E z)⟩
/-- any span up to 10 ** 63 -/
theorem ok_takeW {f : Addr} {fd : FuncData} (D : Df K mg "_law_take" sLawTake ["_law_box_here", "_law_span"] f fd) : FnOk P w K mg base CX0 9 f fd ["_law_box_here", "_law_span"] (spTakeW 8) :=
  FnOk.conseq (ok_takeN D 8 (by decide)) fun vs H Q E h => by
    obtain ⟨bx, span, m, e, hB, hm, s1, s2, q⟩ := h
    exact ⟨bx, span, m, e, hB, by omega, s1, s2, fun r H' r0 r1 b1 h1 => q r H' r0 r1 (b1.le (by omega)) h1⟩
end
end Af
namespace Af
open PySem PySem.Spec PyProof.Rows L2
section
variable {P : Program} {w : World} {K : PySem.W.Frag} {mg : Str → Option Value} {base : Heap}
/-! _law_lap_right -/
def spLapR20 (K : PySem.W.Frag) : Sp := fun vs H Q _ => ∃ (bx : Addr) (b st : V) (B : List (List Int)) (S : List Int × List Int) (m : Nat), vs = [.ref bx, b, st] ∧ Box H bx m ∧ m ≤ 800000000 ∧ Dp K (hid H bx) b (bookT B) ∧ PSt (hid H bx) st S ∧ Ok B S ∧ GoodB B 4 ∧ 1 ≤ B.length ∧ B.length ≤ 4 ∧ manyN B ≤ 256 ∧
  ∀ H', Box H' bx (m + 100000) → Same (hid H bx) (hid H' bx) → Q (.bl true) H'
set_option maxHeartbeats 6400000 in
theorem ok_lapr20 {f f0 f1 f2 f3 f4 f5 f6 f7 f8 f9 : Addr} {fd fd0 fd1 fd2 fd3 fd4 fd5 fd6 fd7 fd8 fd9 : FuncData} {k : Nat} (T : Bl mg) (Msorted : mg "sorted" = none) (F : Fun K "_law_lap_right" "_law_lap_right" sLawLapRight f fd)
    (DLawLap : Df K mg "_law_lap" sLawLap ["_law_shelf", "_law_spot"] f0 fd0) (GLawLap : FnOk P w K mg base CX0 k f0 fd0 ["_law_shelf", "_law_spot"] (spLap20 K))
    (DStandingsMany : Df K mg "standings_many" sStandingsMany ["book"] f1 fd1) (GStandingsMany : FnOk P w K mg base CX0 k f1 fd1 ["book"] (spMany K 1))
    (DRoundLength : Df K mg "round_length" sRoundLength ["book"] f2 fd2) (GRoundLength : FnOk P w K mg base CX0 k f2 fd2 ["book"] (spMany K 2))
    (DStandingAt : Df K mg "standing_at" sStandingAt ["book", "number"] f3 fd3) (GStandingAt : FnOk P w K mg base CX0 k f3 fd3 ["book", "number"] (spStandAt K))
    (DClock : Df K mg "clock" sClock ["book", "state"] f4 fd4) (GClock : FnOk P w K mg base CX0 k f4 fd4 ["book", "state"] (spClock K))
    (DSignsOf : Df K mg "signs_of" sSignsOf ["book", "state"] f5 fd5) (GSignsOf : FnOk P w K mg base CX0 k f5 fd5 ["book", "state"] (spSigns K))
    (DStart : Df K mg "start" sStart ["book", "signs"] f6 fd6) (GStart : FnOk P w K mg base CX0 k f6 fd6 ["book", "signs"] (spStart K))
    (DMover : Df K mg "mover" sMover ["book", "state"] f7 fd7) (GMover : FnOk P w K mg base CX0 k f7 fd7 ["book", "state"] (spMover K))
    (DStandingNumber : Df K mg "standing_number" sStandingNumber ["book", "standing"] f8 fd8) (GStandingNumber : FnOk P w K mg base CX0 k f8 fd8 ["book", "standing"] (spNum K))
    (DT : Df K mg "_law_take" sLawTake ["_law_box_here", "_law_span"] f9 fd9) (GT : FnOk P w K mg base CX0 9 f9 fd9 ["_law_box_here", "_law_span"] (spTakeW 8)) (hk9 : 9 ≤ k) :
    FnOk P w K mg base CX0 (k + 1) f fd ["_law_box_here", "_law_shelf", "_law_spot"] (spLapR20 K) := by
  refine F.ok scLawLapRight (fun vs H Q E h => ?_) (fun cdv A outer s H vs Q E hr h => ?_)
  · obtain ⟨_, _, _, _, _, _, rfl, _⟩ := h; rfl
  obtain ⟨bx, b, st, B, S, m, rfl, hbox, hm, hbk, hst, hO, hG, hl1, hl4, hN4, q⟩ := h
  have nd := scLawLapRight.nd
  have hr9 := hr.mono hk9
  have hu64 := hr.units
  have hu65 : (A.deeper (envOfC "_law_lap_right" (defScope sLawLapRight) s.heap.objs.size f cdv)).units + 65 < cLine := by have := hr.un; omega
  have hu1 : (A.deeper (envOfC "_law_lap_right" (defScope sLawLapRight) s.heap.objs.size f cdv)).units + 1 < cLine := by omega
  refine ⟨_, pss_cons (ps_asg (pe_tup (pa_cons (pe_do DLawLap GLawLap hr rfl (pa_cons (pv 1) (pa_cons (pv 2) pa_nil))) (pa_cons (pe_do DStandingsMany GStandingsMany hr rfl (pa_cons (pv 1) pa_nil)) pa_nil))) (pg_tup rfl (pgs_cons (pg_name (i := 3) nd rfl (.inr rfl)) (pgs_cons (pg_name (i := 4) nd rfl (.inl rfl)) pgs_nil))))
    (pss_cons (ps_if (PW.pt (pw_or (pt_cmpR op_ne (pe_callB (St.len_at (K := K)) rfl T.len bLen (pa_cons (pv 3) pa_nil)) (pe_op op_mul pe_int (pv 4)) (nomark _)) (pw_or1 (pt_cmpR op_ne (pe_do DRoundLength GRoundLength hr rfl (pa_cons (pv 1) pa_nil)) (pe_op op_mul pe_int (pv 4)) (nomark _))))) pss_never pss_nil)
    (pss_cons (ps_set (i := 5) nd rfl (.inl rfl) pe_dnewT)
    (pss_cons (ps_for PassesOwn.never rfl (pi_seq (pv 3)) (pg_tup rfl (pgs_cons (pg_name (i := 6) nd rfl (.inl rfl)) (pgs_cons (pg_name (i := 7) nd rfl (.inl rfl)) pgs_nil)))
      (pss_one (ps_dput hu1 (pv 5) (pv 6) (pe_op op_cat (pe_dget2 hu1 (pv 5) (pv 6) (pe_lst pa_nil) ⟨rfl, rfl, rfl, rfl⟩) (pe_lst (pa_cons (pv 7) pa_nil))) (by rfl))))
    (pss_cons (ps_if (pt_cmpR ((op_neD hu64)) (pe_callB (Srt.cr_sortK (K := K) rfl hu64) rfl Msorted bSorted (pa_cons (pv 5) pa_nil)) (pe_lc (own := [("_law_at", 8)]) (g := gName 8) (tt := tYes) rfl nd (pi_range1 rfl T.range (pa_cons (pv 4) pa_nil)) (blkOk_by (N := ["_law_box_here", "_law_shelf", "_law_spot", "_law_lap_here", "_law_half", "_law_met", "_law_rungs", "_law_looks", "_law_at", "_law_look", "_law_begin", "_law_marks", "_law_still", "_law_k", "_law_there", "_law_turn"]) (sc := defScope sLawLapRight) (by decide +kernel)) (fun _ _ _ _ _ => pg_name (i := 8) nd rfl (.inl rfl)) (fun _ _ _ _ _ => pts_nil) (fun _ _ _ _ _ => (pe_do DStandingAt GStandingAt hr rfl (pa_cons (pv 1) (pa_cons (pv 8) pa_nil))))) (nomark _)) pss_never pss_nil)
    (pss_cons (ps_lock (ps_for PassesOwn.never rfl (pi_keys (pv 5)) (pg_name (i := 6) nd rfl (.inl rfl))
      (pss_one (ps_if (PW.pt (pw_or (pt_cmpR op_ne (pe_callB call_len_seq rfl T.len bLen (pa_cons (pe_dget hu1 (pv 5) (pv 6) (fun _ _ => rfl)) pa_nil)) pe_int (nomark _)) (pw_or1 (pt_cmpR ((op_neD hu64)) (pe_ix (ixK (K := K)) (pe_dget hu1 (pv 5) (pv 6) (fun _ _ => rfl)) pe_int (fun _ _ => rfl)) (pe_callTy call_tuple_of rfl T.tuple bTuple (pa_cons (pe_lc (own := [("_law_look", 9)]) (g := gName 9) (tt := tYes) rfl nd (pi_seq (pe_ix (ixK (K := K)) (pe_dget hu1 (pv 5) (pv 6) (fun _ _ => rfl)) pe_int (fun _ _ => rfl))) (blkOk_by (N := ["_law_box_here", "_law_shelf", "_law_spot", "_law_lap_here", "_law_half", "_law_met", "_law_rungs", "_law_looks", "_law_at", "_law_look", "_law_begin", "_law_marks", "_law_still", "_law_k", "_law_there", "_law_turn"]) (sc := defScope sLawLapRight) (by decide +kernel)) (fun _ _ _ _ _ => pg_name (i := 9) nd rfl (.inl rfl)) (fun _ _ _ _ _ => pts_nil) (fun _ _ _ _ _ => (pe_op op_sub pe_int (pv 9)))) pa_nil)) (nomark _))))) pss_never pss_nil))))
    (pss_cons (ps_asg (pe_tup (pa_cons (pe_do DClock GClock hr rfl (pa_cons (pv 1) (pa_cons (pv 2) pa_nil))) (pa_cons (pe_do DSignsOf GSignsOf hr rfl (pa_cons (pv 1) (pa_cons (pv 2) pa_nil))) pa_nil))) (pg_tup rfl (pgs_cons (pg_name (i := 10) nd rfl (.inr rfl)) (pgs_cons (pg_name (i := 11) nd rfl (.inl rfl)) pgs_nil))))
    (pss_cons (ps_if (pt_cmpR ((op_neD hu64)) (pe_ix (ixK (K := K)) (pv 3) (pe_op op_mod (pe_op op_sub pe_int (pv 10)) (pe_callB (St.len_at (K := K)) rfl T.len bLen (pa_cons (pv 3) pa_nil))) (fun _ _ => rfl)) (pe_do DStart GStart hr rfl (pa_cons (pv 1) (pa_cons (pv 11) pa_nil))) (nomark _)) pss_never pss_nil)
    (pss_cons (ps_setLc (i := 12) (own := [("_law_k", 13), ("_law_there", 14)]) (g := gTup K 2 (gCons (gName 13) (gCons (gName 14) gNil))) (tt := tB (tIsN (tCall (spMover K) [] E0 (tCons (tVar 1) (tCons (tVar 14) tNil))))) rfl nd rfl rfl (sw_true rfl rfl rfl (by decide +kernel)) (pi_enum rfl T.enum (pa_cons (pv 3) pa_nil)) (blkOk_by (N := ["_law_box_here", "_law_shelf", "_law_spot", "_law_lap_here", "_law_half", "_law_met", "_law_rungs", "_law_looks", "_law_at", "_law_look", "_law_begin", "_law_marks", "_law_still", "_law_k", "_law_there", "_law_turn"]) (sc := defScope sLawLapRight) (by decide +kernel)) (fun _ _ _ _ _ => pg_tup rfl (pgs_cons (pg_name (i := 13) nd rfl (.inl rfl)) (pgs_cons (pg_name (i := 14) nd rfl (.inl rfl)) pgs_nil))) (fun _ _ _ _ _ => pts_one (pt_cmp (pc_isN (pe_do DMover GMover hr rfl (pa_cons (pv 1) (pa_cons (pv 14) pa_nil)))))) (fun _ _ _ _ _ => (pe_op op_mod (pe_op op_add (pv 10) (pv 13)) (pe_callB (St.len_at (K := K)) rfl T.len bLen (pa_cons (pv 3) pa_nil)))))
    (pss_cons (ps_if (pt_cmpR ((op_neD hu64)) (pe_callB (Srt.cr_sortD (K := K) hu64) rfl Msorted bSorted (pa_cons (pv 12) pa_nil)) (pe_lst (pa_cons (pe_op op_sub (pv 4) pe_int) (pa_cons (pe_op op_sub (pe_op op_mul pe_int (pv 4)) pe_int) pa_nil))) (nomark _)) pss_never pss_nil)
    (pss_cons (ps_for PassesOwn.never rfl (pi_range1 rfl T.range (pa_cons pe_int pa_nil)) (pg_name (i := 15) nd rfl (.inl rfl))
      (pss_cons (ps_set (i := 13) nd rfl (.inl rfl) (pe_do DT GT hr9 rfl (pa_cons (pv 0) (pa_cons (pe_callB (St.len_at (K := K)) rfl T.len bLen (pa_cons (pv 3) pa_nil)) pa_nil))))
    (pss_cons (ps_if (PW.pt (pw_or (pt_cmpR op_ne (pe_do DClock GClock hr rfl (pa_cons (pv 1) (pa_cons (pe_ix (ixK (K := K)) (pv 3) (pv 13) (fun _ _ => rfl)) pa_nil))) (pe_op op_mod (pe_op op_add (pv 10) (pv 13)) (pe_callB (St.len_at (K := K)) rfl T.len bLen (pa_cons (pv 3) pa_nil))) (nomark _)) (pw_or1 (pt_cmpR ((op_neD hu64)) (pe_do DSignsOf GSignsOf hr rfl (pa_cons (pv 1) (pa_cons (pe_ix (ixK (K := K)) (pv 3) (pv 13) (fun _ _ => rfl)) pa_nil))) (pv 11) (nomark _))))) pss_never pss_nil)
    (pss_one (ps_if (pt_cmpR ((op_neD hu64)) (pe_do DStandingAt GStandingAt hr rfl (pa_cons (pv 1) (pa_cons (pe_do DStandingNumber GStandingNumber hr rfl (pa_cons (pv 1) (pa_cons (pe_ix (ixK (K := K)) (pe_ix (ixK (K := K)) (pv 3) (pv 13) (fun _ _ => rfl)) pe_int (fun _ _ => rfl)) pa_nil))) pa_nil))) (pe_ix (ixK (K := K)) (pe_ix (ixK (K := K)) (pv 3) (pv 13) (fun _ _ => rfl)) pe_int (fun _ _ => rfl)) (nomark _)) pss_never pss_nil)))))
    (pss_one (ps_ret pe_bl)))))))))))), ?_⟩
  have hlen1 : B.length ≤ 100 := by omega
  have hN := many_pos hG
  obtain ⟨n, hn⟩ : ∃ n : Nat, n = 2 * (manyN B).toNat := ⟨_, rfl⟩
  have hn2 : (n : Int) = 2 * manyN B := by omega
  have nbx := box_some hbox
  have hb0 : Dp K H b (bookT B) := dp_up hbk hid_le
  refine ⟨_, rfl, _, rfl, b, st, B, 4, S, n - 1, rfl, hb0, hst.up hid_le, hlen1, hG, hO, by omega, by omega, fun lp H1 ls nlp s1 hlp hls => ?_⟩
  have sx1 : Same H H1 := s1
  refine ⟨_, rfl, b, bookT B, B, 4, rfl, dp_up hb0 s1, bookT_book B, hG, by decide, hlen1, fun H2 s2 => ?_⟩
  refine ⟨by show 2 ≤ sizeLine; decide, fun t1 nt1 => ?_⟩
  have s3 := same_new (o := .tup [.ref lp, .int (1 * manyN B)]) nt1
  have e3 : (upd H2 t1 (.tup [.ref lp, .int (1 * manyN B)])) t1 = some (.tup [.ref lp, .int (1 * manyN B)]) := upd_same
  generalize upd H2 t1 (.tup [.ref lp, .int (1 * manyN B)]) = H3 at s3 e3
  rw [Int.one_mul] at e3
  refine ⟨t1, _, rfl, .inl (.inl e3), rfl, _, _, rfl, _, _, rfl, rfl, ?_⟩
  have c3 : Same H H3 := s1.trans (s2.trans s3)
  have c13 : Same H1 H3 := s2.trans s3
  have hll := hls.1
  rw [rd_len, ← hn] at hll
  have hmul : CMul 2 (manyN B) := .inl ⟨by decide, by omega⟩
  refine ⟨_, rfl, lp, ls, rfl, .inl (SqL.of (c13 _ _ hlp)), _, rfl, _, _, rfl, rfl, hmul, rfl, _, rfl, iteB (by rw [hll, hn2]; simp) ?_⟩
  refine ⟨_, rfl, b, bookT B, B, 4, rfl, dp_up hb0 c3, bookT_book B, hG, by decide, hlen1, fun H4 s4 => ?_⟩
  refine ⟨_, rfl, _, _, rfl, rfl, hmul, rfl, _, rfl, iteB (by simp) ?_⟩
  refine fun D nD => ?_
  have sD := same_new (o := .dT []) nD
  have eD : (upd H4 D (.dT [])) D = some (.dT []) := upd_same
  have c4 : Same H H4 := c3.trans s4
  have nDb : D ≠ bx := fun z => nbx (by
    cases e : H bx with
    | none => rfl
    | some o => rw [z, c4 _ _ e] at nD; cases nD)
  have c14 : Same H1 H4 := c13.trans s4
  have c4D : Same H4 (upd H4 D (.dT [])) := sD
  generalize upd H4 D (.dT []) = H5 at sD eD c4D
  have c5 : Same H H5 := c4.trans c4D
  have c15 : Same H1 H5 := c14.trans c4D
  have grp0 : GrpG K (·.1) (fun T => rowT T.2) H5 D [] [] [] := .nil eD
  have nlpD : lp ≠ D := fun z => by rw [← z, c14 _ _ hlp] at nD; cases nD
  -- each state of the lap
  refine ⟨_, rfl, lp, ls, true, rfl, SqL.of (c15 _ _ hlp), fun J wJ => ?_⟩
  refine for_it wJ (fun i σ Hx => ∃ (y6 y7 : Option V) (kvs : List (List Key × V)) (ks : List (List Int)), σ = [some (.ref bx), some b, some st, some (.ref lp), some (.int (manyN B)), some (.ref D), y6, y7, none, none, none, none, none, none, none, none] ∧
    GrpG K (·.1) (fun T => rowT T.2) Hx D kvs ks ((rdL B S).take i) ∧ Same H1 Hx ∧ Same (hid H5 D) (hid Hx D)) ⟨none, none, [], [], rfl, grp0, c15, Same.refl _⟩ (fun i σ Hx _ hP => ?_) (fun i v σ Hx Hy hi hP hy => ?_) (fun σ Hx hP => ?_)
  · obtain ⟨_, _, _, _, _, _, sm, _⟩ := hP
    exact SqL.of (sm _ _ hlp)
  · obtain ⟨y6, y7, kvs, ks, rfl, g, sm, sh⟩ := hP
    obtain ⟨rfl, ev⟩ := hy
    have ev : ls[i]? = some v := ev
    have hi' : i < 2 * (manyN B).toNat := by omega
    obtain ⟨v', ev', hv⟩ := hls.2 i _ (rd_get hi')
    rw [ev'] at ev
    cases ev
    obtain ⟨va, ra, fa, rfl, hva, hra, hfa⟩ := (hv.up hid_le).up sm
    have okS := itB_ok hG i hO
    refine ⟨va, _, rfl, .inl (.inl hva), rfl, _, _, rfl, _, _, rfl, rfl, ?_⟩
    have hpl : ((rdL B S).take i).length ≤ 512 := by rw [List.length_take, rd_len]; omega
    generalize hT : itB B i S = T at hra hfa okS hv
    have nfD : ∀ {c : Addr} {l : List V}, Hy c = some (.tup l) → c ≠ D := fun h z => by rw [z, g.at_] at h; cases h
    have hkv : kvs.length ≤ 512 := by rw [g.len]; exact Nat.le_trans g.le hpl
    refine ⟨_, rfl, D, rfl, .inr ⟨kvs, .inl g.at_⟩, _, rfl, Nat.zero_le _, fun l0 nl0 => ?_⟩
    have s6 := same_new (o := .lst []) nl0
    have e6 : (upd Hy l0 (.lst [])) l0 = some (.lst []) := upd_same
    generalize upd Hy l0 (.lst []) = H6 at s6 e6
    have g6 := g.up s6
    have ep6 : H6 ra = some (.tup ((Srt.kyT T.1).map kV)) := by rw [Srt.kyT_v]; exact s6 _ _ hra
    refine ⟨_, DGet.t g6.at_ ep6, ?_⟩
    obtain ⟨old, xs, eo, hold, hxs⟩ : ∃ (old : Addr) (xs : List V), (valV kvs (Srt.kyT T.1)).getD (.ref l0) = .ref old ∧ H6 old = some (.lst xs) ∧ DpAll K (hid H6 D) xs ((((rdL B S).take i).filter fun X => X.1 == T.1).map fun X => rowT X.2) := by
      by_cases hm : T.1 ∈ ks
      · obtain ⟨p2, ys, h1, h2, h3, h4⟩ := g6.val _ hm
        exact ⟨p2, ys, by rw [h1]; rfl, h3, h4⟩
      · obtain ⟨n1, n2⟩ := g6.no hm
        exact ⟨l0, [], by rw [n1]; rfl, e6, by rw [n2]; exact .nil⟩
    rw [eo]
    have hxl := dps_len hxs
    rw [List.length_map] at hxl
    have hfl := List.length_filter_le (fun X : List Int × List Int => X.1 == T.1) ((rdL B S).take i)
    refine ⟨_, rfl, by show 1 ≤ sizeLine; decide, fun l8 nl8 => ?_⟩
    have s8 := same_new (o := .lst [.ref fa]) nl8
    have e8 : (upd H6 l8 (.lst [.ref fa])) l8 = some (.lst [.ref fa]) := upd_same
    generalize upd H6 l8 (.lst [.ref fa]) = H8 at s8 e8
    refine ⟨old, l8, xs, [.ref fa], rfl, rfl, s8 _ _ hold, e8, by rw [sizeLine_eq]; show xs.length + 1 ≤ _; omega, fun p9 np9 => ?_⟩
    have s9 := same_new (o := .lst (xs ++ [.ref fa])) np9
    have e9 : (upd H8 p9 (.lst (xs ++ [.ref fa]))) p9 = some (.lst (xs ++ [.ref fa])) := upd_same
    generalize upd H8 p9 (.lst (xs ++ [.ref fa])) = H9 at s9 e9
    have s69 := s8.trans s9
    have szall : Same Hy H9 := s6.trans s69
    have g9 := g6.up s69
    have hSt : Dp K (hid H9 D) (.ref fa) (rowT T.2) := dp_rowT (.inl (.inl (by rw [hid_ne (nfD hfa)]; exact szall _ _ hfa)))
    obtain ⟨ks', gN⟩ := g.put (S := T) (p := p9) (xs := xs ++ [.ref fa]) szall ((s6.trans s8).free np9) e9 (by
      rw [List.filter_append, show ([T].filter fun X => X.1 == T.1) = [T] by simp, List.map_append]
      exact dps_app (dps_up hxs (hid_mono s69)) (.cons hSt .nil))
    refine ⟨_, rfl, _, rfl, D, _, rfl, DPut.t g9.at_ (s69 _ _ ep6) (by rw [sizeLine_eq]; omega), ?_⟩
    refine ⟨_, _, putK kvs (Srt.kyT T.1) (.ref p9), ks', rfl, ?_, fun c o ec => ?_, ?_⟩
    · rw [List.take_add_one, rd_get hi', hT, Option.toList_some]
      exact gN
    · rw [upd_ne (ne_of_none ec (c14.free nD))]; exact szall _ _ (sm _ _ ec)
    · rw [hid_upd]; exact sh.trans (hid_mono szall)
  · obtain ⟨y6, y7, kvs, ks, rfl, g, sm, sh⟩ := hP
    rw [hll, hn, ← rd_len (B := B) (S := S), List.take_length] at g
    have kp : ks.Perm (stnL B) := rd_keys hG hO g.nd g.mem
    have bkx : ∀ {Hz : Hp}, Same H1 Hz → Dp K Hz b (bookT B) := fun s => dp_up hb0 (s1.trans s)
    have ksS : ∀ M ∈ ks, Stands B M := fun M hM => stn_stands hG (kp.mem_iff.mp hM)
    refine ⟨_, rfl, D, kvs, ks, rfl, .inl g.at_, g.keys, alike_rows _, .inl (sortable_rows fun r hr e => ?_), fun p4 bs np4 hbs hdk => ?_⟩
    · have := (ksS r hr).len
      rw [e] at this
      simp at this
      omega
    obtain ⟨z1, hz1⟩ : ∃ z1, z1 = ((bs.map V.ref).zip (ks.map rowT)).mergeSort Srt.pLe := ⟨_, rfl⟩
    have lbs := dps_len hdk
    have hs1 : DpAll K Hx (z1.map Prod.fst) (z1.map Prod.snd) := by rw [hz1]; exact dps_sort hdk
    have pm1 : (z1.map Prod.snd).Perm (ks.map rowT) := by rw [hz1]; exact sort_perm lbs
    have pw1 : (z1.map Prod.snd).Pairwise fun a b => Srt.dLe a b = true := by rw [hz1]; exact sort_pair
    rw [← hz1]
    have s4' := same_new (o := .lst (z1.map Prod.fst)) np4
    have e4 : (upd Hx p4 (.lst (z1.map Prod.fst))) p4 = some (.lst (z1.map Prod.fst)) := upd_same
    generalize upd Hx p4 (.lst (z1.map Prod.fst)) = H6 at s4' e4
    have z1e : z1.map Prod.snd = (stnL B).map rowT := by
      refine sorted_one (pm1.trans (kp.map rowT)) pw1 (stn_sorted hG) fun a ha b' hb' he => ?_
      obtain ⟨r1, h1, rfl⟩ := List.mem_map.mp ha
      obtain ⟨r2, h2, rfl⟩ := List.mem_map.mp hb'
      have l1 := (stn_stands hG h1).len
      have l2 := (stn_stands hG h2).len
      rw [toks_inj (by rw [l1, l2]) he]
    rw [z1e] at hs1
    have sl : ((stnL B).length : Int) = manyN B := (stn_len hG).trans (allW_ones B)
    refine ⟨_, rfl, _, rfl, by omega, by omega, fun D5 nD5 => ?_⟩
    have sD5 := same_new (o := .lst []) nD5
    refine lc_range (lo := 0) (n := (manyN B).toNat) (fun j H7 => ∃ us : List V, H7 D5 = some (.lst us) ∧ DpAll K (hid H7 D5) us (((stnL B).take j).map rowT) ∧ Same H6 H7) ⟨[], upd_same, .nil, sD5⟩ (fun j H7 hj hP => ?_) (fun H7 hP => ?_)
    · obtain ⟨us, hD7, hus, k7⟩ := hP
      have ulen := dps_len hus
      rw [List.length_map, List.length_take] at ulen
      refine ⟨rfl, yesT ?_⟩
      refine ⟨_, rfl, _, rfl, b, bookT B, B, 0 + (j : Int), 4, rfl, bkx (sm.trans (s4'.trans k7)), bookT_book B, hG, by decide, hlen1, by omega, by omega, fun p8 H8 R hR eR s8 hn8 => ?_⟩
      obtain ⟨R', ej⟩ : ∃ R', (stnL B)[j]? = some R' := ⟨_, List.getElem?_eq_getElem (show j < (stnL B).length by omega)⟩
      have hR' := stn_stands hG (List.mem_of_getElem? ej)
      obtain rfl : R = R' := num_inj hG hR hR' (by rw [eR, stn_num hG ej]; omega)
      have hD8 := s8 _ _ hD7
      refine ⟨us, hD8, small1000 (by omega), us ++ [.ref p8], upd_same, ?_, fun c o ec => ?_⟩
      · rw [hid_upd, List.take_add_one, ej, Option.toList_some]
        refine rws_hide hD8 ?_
        rw [List.map_append]
        exact dps_app (dps_up hus (hid_le.trans s8)) (.cons hn8.dp .nil)
      · rw [upd_ne (ne_of_none ec nD5)]; exact s8 _ _ (k7 _ _ ec)
    · obtain ⟨us, hD7, hus, k7⟩ := hP
      rw [show (manyN B).toNat = (stnL B).length by omega, List.take_length] at hus
      have s67 : Same Hx H7 := s4'.trans k7
      refine ⟨.list ((stnL B).map rowT), .list ((stnL B).map rowT), .lst (SqL.of (k7 _ _ e4)) (dps_up hs1 s67), .lst (SqL.of hD7) (dps_up hus hid_le), shaped_rowsL _, shaped_rowsL _, _, rfl, iteB (ne_rowsL _) ?_⟩
      have g7 := g.up s67
      have c17 : Same H1 H7 := sm.trans s67
      have nD1 : H1 D = none := c14.free nD
      have hval : ∀ M ∈ ks, ∀ {Hz : Hp}, Same (hid H7 D) (hid Hz D) → ∃ (p : Addr) (f0 f1 : Addr) (A C : List Int), valV kvs (Srt.kyT M) = some (.ref p) ∧ Hz p = some (.lst [.ref f0, .ref f1]) ∧ A = negL C ∧ FacesOk C ∧ C.length = B.length ∧ SqT K Hz f0 (A.map V.int) ∧ SqT K Hz f1 (C.map V.int) := fun M hM {Hz} s => by
        obtain ⟨p, xs, h1, h2, h3, h4⟩ := g7.val M hM
        obtain ⟨X, Y, e1, e2⟩ := rd_two hG hO (ksS M hM)
        rw [e1] at h4
        have hY : Y ∈ (rdL B S).filter fun T => T.1 == M := by rw [e1]; simp
        have oY := ((rd_mem hG hO).mp (List.mem_filter.mp hY).1).1
        cases h4 with
        | cons q1 h4 =>
          cases h4 with
          | cons q2 h4 =>
            cases h4 with
            | nil =>
              obtain ⟨f0, rfl, hf0⟩ := rowT_at q1
              obtain ⟨f1, rfl, hf1⟩ := rowT_at q2
              exact ⟨p, f0, f1, X.2, Y.2, h1, hid_le _ _ (s _ _ (by rw [hid_ne h2]; exact h3)), e2, oY.fo, oY.fl, sqt_mono (s.trans hid_le) hf0, sqt_mono (s.trans hid_le) hf1⟩
      refine ⟨D, .dT kvs, g7.at_, trivial, fun od => ?_⟩
      have eF : (upd H7 D (.frz od (.dT kvs))) D = some (.frz od (.dT kvs)) := upd_same
      have sF : Same (hid H7 D) (hid (upd H7 D (.frz od (.dT kvs))) D) := by rw [hid_upd]; exact Same.refl _
      have s1F : Same H1 (upd H7 D (.frz od (.dT kvs))) := fun c o ec => by rw [upd_ne (ne_of_none ec nD1)]; exact c17 _ _ ec
      generalize upd H7 D (.frz od (.dT kvs)) = HF at eF sF s1F
      refine ⟨_, rfl, D, od, rfl, .inr ⟨kvs, eF, ?_⟩⟩
      refine for_it walk_keysT (fun i σ Hx => ∃ (y6 : Option V), σ = [some (.ref bx), some b, some st, some (.ref lp), some (.int (manyN B)), some (.ref D), y6, y7, none, none, none, none, none, none, none, none] ∧ Hx D = some (.frz od (.dT kvs)) ∧ Same H1 Hx ∧ Same (hid H7 D) (hid Hx D)) ⟨_, rfl, eF, s1F, sF⟩ (fun i σ Hx _ hP => ?_) (fun i v σ Hx Hy hi hP hy => ?_) (fun σ Hx hP => ?_)
      · obtain ⟨_, _, hD, _, _⟩ := hP
        exact hD
      · obtain ⟨y6, rfl, hD, sm2, sh2⟩ := hP
        obtain ⟨rfl, kk, vv, qa, ekv, rfl, hqa⟩ := hy
        obtain ⟨M, hM, rfl⟩ : ∃ M ∈ ks, kk = Srt.kyT M := by
          have : kk ∈ ks.map Srt.kyT := by rw [← g.keys]; exact List.mem_map.mpr ⟨(kk, vv), List.mem_of_getElem? ekv, rfl⟩
          obtain ⟨M, h1, h2⟩ := List.mem_map.mp this
          exact ⟨M, h1, h2.symm⟩
        obtain ⟨pM, f0, f1, FA, FC, hv1, hv2, rfl, oC, lC, hf0, hf1⟩ := hval M hM sh2
        have dget : ∀ {Hz : Hp}, Hz D = some (.frz od (.dT kvs)) → Hz qa = some (.tup ((Srt.kyT M).map kV)) → DGet Hz D (.ref qa) (some (.ref pM)) := fun {Hz} h1 h2 => .inr ⟨kvs, Srt.kyT M, qa, .inr ⟨od, h1⟩, rfl, h2, hv1.symm⟩
        refine ⟨_, rfl, _, rfl, D, _, rfl, dget hD hqa, ?_⟩
        refine ⟨pM, _, rfl, .inl (SqL.of hv2), rfl, _, rfl, iteB rfl ?_⟩
        refine ⟨_, rfl, _, rfl, D, _, rfl, dget hD hqa, ix_of (.inl (SqL.of hv2)) (atI_nat (j := 0) rfl) ?_⟩
        refine ⟨_, rfl, _, rfl, D, _, rfl, dget hD hqa, ix_of (.inl (SqL.of hv2)) (atI_nat (j := 1) rfl) ⟨f1, _, false, rfl, hf1, fun J2 wJ2 => fun D8 nD8 => ?_⟩⟩
        have sD8 := same_new (o := .lst []) nD8
        refine lc_it wJ2 (fun j H8 => H8 D8 = some (.lst ((negL (FC.take j)).map V.int)) ∧ Same Hy H8) ⟨upd_same, sD8⟩ (fun j H8 _ hP => sqt_mono hP.2 hf1) (fun j v Hz H8 hj hP hy => ?_) (fun H8 hP => ?_)
        · obtain ⟨hD8, k8⟩ := hP
          obtain ⟨rfl, e1⟩ := hy
          have e1 : (FC.map V.int)[j]? = some v := e1
          rw [List.getElem?_map] at e1
          cases e : FC[j]? with
          | none => rw [e] at e1; cases e1
          | some x =>
            rw [e] at e1
            cases e1
            refine ⟨rfl, yesS ?_⟩
            refine ⟨_, rfl, _, _, rfl, rfl, _, hD8, ?_, ?_, fun c o ec => ?_⟩
            · rw [List.length_map, negL_len, List.length_take]; exact small1000 (by omega)
            · rw [upd_same, List.take_add_one, e]
              show _ = some (HO.lst ((negL (FC.take j ++ [x])).map V.int))
              unfold negL
              rw [List.map_append, List.map_append]
              show some (HO.lst (_ ++ [V.int (0 - x)])) = some (HO.lst (_ ++ [V.int (-x)]))
              rw [Int.zero_sub]
            · rw [upd_ne (ne_of_none ec nD8)]; exact k8 _ _ ec
        · obtain ⟨hD8, k8⟩ := hP
          rw [List.length_map, List.take_length] at hD8
          refine ⟨D8, _, rfl, .inl ⟨SqL.of hD8, fun u nu => ?_⟩⟩
          have su := same_new (o := .tup ((negL FC).map V.int)) nu
          have eu : (upd H8 u (.tup ((negL FC).map V.int))) u = some (.tup ((negL FC).map V.int)) := upd_same
          generalize upd H8 u (.tup ((negL FC).map V.int)) = H9 at su eu
          have k9 := k8.trans su
          refine ⟨rowT (negL FC), rowT (negL FC), dp_rowT (sqt_mono k9 hf0), dp_rowT (.inl (.inl eu)), shaped_row _, shaped_row _, _, rfl, iteB ne_row ?_⟩
          exact ⟨_, rfl, k9 _ _ hD, sm2.trans k9, sh2.trans (hid_mono k9)⟩
      obtain ⟨y6, rfl, hD, sm2, sh2⟩ := hP
      refine ⟨hD, ?_⟩
      have s1U : Same H1 (upd Hx D (.dT kvs)) := fun c o ec => by rw [upd_ne (ne_of_none ec nD1)]; exact sm2 _ _ ec
      generalize upd Hx D (.dT kvs) = HU at s1U
      have bU : Box HU bx m := hbox.up (s1.trans s1U)
      obtain ⟨xb, yb, zb, hbx, _⟩ := id bU
      have bkU : Dp K (hid HU bx) b (bookT B) := dp_up hbk (hid_mono (s1.trans s1U))
      have stU : PSt (hid HU bx) st S := hst.up (hid_mono (s1.trans s1U))
      have nlb : lp ≠ bx := fun z => by rw [z] at nlp; exact nbx nlp
      have lpU : (hid HU bx) lp = some (.lst ls) := by rw [hid_ne nlb]; exact s1U _ _ hlp
      have LX : ∀ {Hz : Hp}, Same (hid HU bx) (hid Hz bx) → Hz lp = some (.lst ls) := fun s => hid_le _ _ (s _ _ lpU)
      have BX : ∀ {Hz : Hp}, Same (hid HU bx) (hid Hz bx) → Dp K Hz b (bookT B) := fun s => dp_up bkU (s.trans hid_le)
      have SX : ∀ {Hz : Hp} {i : Nat}, i < n → Same (hid HU bx) (hid Hz bx) → ∃ a r f : Addr, ls[i]? = some (.ref a) ∧ Hz a = some (.tup [.ref r, .ref f]) ∧ Hz r = some (.tup ((itB B i S).1.map V.int)) ∧ PSt Hz (.ref a) (itB B i S) := fun {Hz i} hi s => by
        obtain ⟨v, e1, hv⟩ := hls.2 i _ (rd_get (S := S) (B := B) (i := i) (by omega))
        have hv := ((((hv.up hid_le).up s1U).hide hbx).up s).up hid_le
        obtain ⟨a, r, f, rfl, h1, h2, h3⟩ := id hv
        exact ⟨a, r, f, e1, h1, h2, hv⟩
      obtain ⟨lM, oM⟩ := signs_okM hG hO
      obtain ⟨c0, c1⟩ := clock_rg hG hO
      -- begin, marks
      refine ⟨_, rfl, _, rfl, b, st, bookT B, stD S, B, S, 4, rfl, BX (Same.refl _), bookT_book B, (stU.up hid_le).dp, stateT_state _ _, hG, by decide, hlen1, hO, fun H8 s8 => ?_⟩
      refine ⟨_, rfl, _, rfl, b, st, bookT B, stD S, B, S, 4, rfl, BX (hid_mono s8), bookT_book B, ((stU.up hid_le).up s8).dp, stateT_state _ _, hG, by decide, hlen1, hO, fun pm H9 s9 nm => ?_⟩
      refine ⟨by show 2 ≤ sizeLine; decide, fun t2 nt2 => ?_⟩
      have s10 := same_new (o := .tup [.int (clockM B S), .ref pm]) nt2
      have e10 : (upd H9 t2 (.tup [.int (clockM B S), .ref pm])) t2 = some (.tup [.int (clockM B S), .ref pm]) := upd_same
      generalize upd H9 t2 (.tup [.int (clockM B S), .ref pm]) = H10 at s10 e10
      refine ⟨t2, _, rfl, .inl (.inl e10), rfl, _, _, rfl, _, _, rfl, rfl, ?_⟩
      have u10 : Same HU H10 := s8.trans (s9.trans s10)
      have dM : Dp K H10 (.ref pm) (rowT (signsM B S)) := dp_up nm.dp s10
      -- the start
      have lsl : ls.length = n := by rw [hll]
      have hmod : (0 - clockM B S) % (ls.length : Int) = (((0 - clockM B S) % (2 * manyN B)).toNat : Nat) := by
        rw [lsl, hn2, Int.toNat_of_nonneg (Int.emod_nonneg _ (by omega))]
      have hq : ((0 - clockM B S) % (2 * manyN B)).toNat < n := by
        have := Int.emod_lt_of_pos (0 - clockM B S) (b := 2 * manyN B) (by omega)
        omega
      obtain ⟨a0, r0, f0, ev0, _, _, hs0⟩ := SX (Hz := H10) hq (hid_mono u10)
      refine ⟨_, rfl, _, rfl, _, _, rfl, rfl, _, rfl, lp, ls, rfl, .inl (SqL.of (LX (hid_mono u10))), _, _, rfl, rfl, by omega, ix_of (.inl (SqL.of (LX (hid_mono u10)))) (v := .ref a0) (by rw [hmod]; exact atI_nat ev0) ?_⟩
      refine ⟨_, rfl, _, rfl, ?_⟩
      (try dsimp only [tNil])
      refine ⟨b, .ref pm, bookT B, rowT (signsM B S), B, signsM B S, 4, rfl, BX (hid_mono u10), bookT_book B, dM, rowT_row _, hG, by decide, hlen1, lM, oM, fun pS H11 S1 oS1 uS1 cS1 gS1 s11 nS1 => ?_⟩
      have eS1 := at_begin hG hO oS1 uS1 cS1 gS1
      refine ⟨stD (itB B ((0 - clockM B S) % (2 * manyN B)).toNat S), stD S1, (hs0.up s11).dp, nS1.dp, shaped_st _ _, shaped_st _ _, _, rfl, iteB (by rw [← eS1]; exact ne_state) ?_⟩
      have u11 : Same HU H11 := u10.trans s11
      -- who stands still
      refine ⟨_, rfl, lp, ls, rfl, SqL.of (LX (hid_mono u11)), fun D12 nD12 => ?_⟩
      have sD12 := same_new (o := .lst []) nD12
      have stl : ∀ j, (stillL B S j).length ≤ j := fun j => by
        unfold stillL
        rw [List.length_map]
        exact Nat.le_trans (List.length_filter_le _ _) (by rw [List.length_range]; exact Nat.le_refl _)
      have stS : ∀ j, stillL B S (j + 1) = stillL B S j ++ (if moverO B (itB B j S).1 (itB B j S).2 = none then [(clockM B S + (j : Int)) % (2 * manyN B)] else []) := fun j => by
        unfold stillL
        rw [List.range_succ, List.filter_append, List.map_append]
        congr 1
        by_cases c : moverO B (itB B j S).1 (itB B j S).2 = none
        · rw [if_pos c, List.filter_cons, if_pos (by rw [c]; rfl), List.filter_nil]; rfl
        · rw [if_neg c, List.filter_cons, if_neg (fun z => c (Option.isNone_iff_eq_none.mp z)), List.filter_nil]; rfl
      refine lc_it (walk_enum (xs := ls)) (fun j H12 => H12 D12 = some (.lst ((stillL B S j).map V.int)) ∧ Same H11 H12) ⟨upd_same, sD12⟩ (fun j H12 _ hP => SqL.of (LX (hid_mono (u11.trans hP.2)))) (fun j v Hz H12 hj hP hy => ?_) (fun H12 hP => ?_)
      · obtain ⟨hD, k12⟩ := hP
        obtain ⟨Tt, x1, x2, rfl, nT, rfl, e1, e3⟩ := hy
        have e1' : x1 = .int (j : Nat) := (Option.some.inj e1).symm
        subst e1'
        obtain ⟨a, r, f, ea, ha, hr', hs⟩ := SX (Hz := Hz) (i := j) (by omega) (hid_mono (u11.trans k12))
        have e3' : ls[j]? = some x2 := e3
        rw [ea] at e3'
        cases e3'
        have oj := itB_ok hG j hO
        have sT := same_new (o := .tup [.int (j : Nat), .ref a]) nT
        have eT : (upd Hz Tt (.tup [.int (j : Nat), .ref a])) Tt = some (.tup [.int (j : Nat), .ref a]) := upd_same
        generalize upd Hz Tt (.tup [.int (j : Nat), .ref a]) = H13 at sT eT
        have u13 := u11.trans (k12.trans sT)
        refine ⟨Tt, _, rfl, .inl (.inl eT), rfl, _, _, rfl, _, _, rfl, rfl, rfl, ?_⟩
        refine ⟨_, rfl, _, rfl, b, .ref a, bookT B, stD (itB B j S), B, (itB B j S).1, (itB B j S).2, rfl, BX (hid_mono u13), bookT_book B, (hs.up sT).dp, stateT_state _ _, by omega, oj.st, oj.fl, fun H14 s14 => ?_⟩
        have hD14 := s14 _ _ (sT _ _ hD)
        have u14 := u13.trans s14
        have k14 := k12.trans (sT.trans s14)
        refine ⟨_, rfl, ?_⟩
        have fin : ∀ (b0 : Bool), b0 = decide (moverO B (itB B j S).1 (itB B j S).2 = none) → decide (movV (moverO B (itB B j S).1 (itB B j S).2) = V.non) = b0 := fun b0 e => by
          rw [e]
          cases z : moverO B (itB B j S).1 (itB B j S).2 with
          | none => rfl
          | some g => rfl
        by_cases c : moverO B (itB B j S).1 (itB B j S).2 = none
        · refine iteC (fin true (by rw [c]; rfl)) ?_
          refine ⟨_, rfl, _, rfl, _, _, rfl, rfl, _, rfl, lp, ls, rfl, .inl (SqL.of (LX (hid_mono u14))), _, _, rfl, rfl, by omega, ?_⟩
          refine ⟨_, hD14, by rw [List.length_map]; exact small1000 (by have := stl j; omega), ?_, fun c' o ec => ?_⟩
          · rw [upd_same, stS, if_pos c, List.map_append, lsl, hn2]; rfl
          · rw [upd_ne (ne_of_none ec nD12)]; exact k14 _ _ ec
        · refine iteB (fin false (by rw [decide_eq_false c])) ?_
          refine ⟨?_, k14⟩
          rw [hD14, stS, if_neg c, List.append_nil]
      · obtain ⟨hD, k12⟩ := hP
        rw [lsl, hn] at hD
        have hsp := still_perm hG hO
        refine ⟨_, rfl, D12, _, ((stillL B S (2 * (manyN B).toNat)).map PyData.int), rfl, SqL.of hD, dps_nums _, alike_nums _, sortable_nums _, fun d hd => ?_, fun p13 np13 => ?_⟩
        · obtain ⟨r, _, rfl⟩ := List.mem_map.mp hd
          simp [PyData.depth]
        have hdn : DpAll K H12 ((stillL B S (2 * (manyN B).toNat)).map V.int) ((stillL B S (2 * (manyN B).toNat)).map PyData.int) := dps_nums _
        obtain ⟨z3, hz3⟩ : ∃ z3, z3 = (((stillL B S (2 * (manyN B).toNat)).map V.int).zip ((stillL B S (2 * (manyN B).toNat)).map PyData.int)).mergeSort Srt.pLe := ⟨_, rfl⟩
        have hs3 : DpAll K H12 (z3.map Prod.fst) (z3.map Prod.snd) := by rw [hz3]; exact dps_sort hdn
        have pm3 : (z3.map Prod.snd).Perm ((stillL B S (2 * (manyN B).toNat)).map PyData.int) := by rw [hz3]; exact sort_perm (by rw [List.length_map, List.length_map])
        have pw3 : (z3.map Prod.snd).Pairwise fun a b => Srt.dLe a b = true := by rw [hz3]; exact sort_pair
        rw [← hz3]
        have zr : z3.map Prod.snd = [manyN B - 1, 2 * manyN B - 1].map PyData.int := by
          refine sorted_one (pm3.trans (hsp.map _)) pw3 (still_sorted.resolve_right (by omega)) fun a ha b' hb' he => ?_
          obtain ⟨r1, _, rfl⟩ := List.mem_map.mp ha
          obtain ⟨r2, _, rfl⟩ := List.mem_map.mp hb'
          injection he with h1 _
          injection h1 with h1
          rw [h1]
        rw [zr] at hs3
        have s13 := same_new (o := .lst (z3.map Prod.fst)) np13
        have e13 : (upd H12 p13 (.lst (z3.map Prod.fst))) p13 = some (.lst (z3.map Prod.fst)) := upd_same
        generalize upd H12 p13 (.lst (z3.map Prod.fst)) = H13 at s13 e13
        refine ⟨_, rfl, _, _, rfl, rfl, _, rfl, _, _, rfl, rfl, hmul, _, _, rfl, rfl, by show 2 ≤ sizeLine; decide, fun p14 np14 => ?_⟩
        have s14 := same_new (o := .lst [.int (manyN B - 1), .int (2 * manyN B - 1)]) np14
        have e14 : (upd H13 p14 (.lst [.int (manyN B - 1), .int (2 * manyN B - 1)])) p14 = some (.lst [.int (manyN B - 1), .int (2 * manyN B - 1)]) := upd_same
        generalize upd H13 p14 (.lst [.int (manyN B - 1), .int (2 * manyN B - 1)]) = H14 at s14 e14
        (try dsimp only [tNil])
        refine ⟨.list ([manyN B - 1, 2 * manyN B - 1].map PyData.int), .list ([manyN B - 1, 2 * manyN B - 1].map PyData.int), .lst (SqL.of (s14 _ _ e13)) (dps_up hs3 (s13.trans s14)), .lst (SqL.of e14) (dps_nums [manyN B - 1, 2 * manyN B - 1]), shaped_nums _, shaped_nums _, _, rfl, iteB (ne_nums _) ?_⟩
        have u14 : Same HU H14 := u11.trans (k12.trans (s13.trans s14))
        have b14 : Box H14 bx m := bU.up u14
        have dM14 : Dp K (hid H14 bx) (.ref pm) (rowT (signsM B S)) := by
          obtain ⟨x9, y9, z9, hbx9, _⟩ := id b14
          obtain ⟨pa, ea, hpa⟩ := rowT_at (dp_up dM (s11.trans (k12.trans (s13.trans s14))))
          rw [ea]
          exact dp_rowT (sqt_hide hpa hbx9)
        have v14 : Same (hid HU bx) (hid H14 bx) := hid_mono u14
        -- eight turns
        refine ⟨8, rfl, by decide, by decide, ?_⟩
        refine for_range (lo := 0) (n := 8) (fun i σ Hz => ∃ (y8 y9 y13 y14 y15 : Option V), σ = [some (.ref bx), some b, some st, some (.ref lp), some (.int (manyN B)), some (.ref D), y6, y7, y8, y9, some (.int (clockM B S)), some (.ref pm), some (.ref D12), y13, y14, y15] ∧ Box Hz bx (m + 10 * i) ∧ Same (hid HU bx) (hid Hz bx) ∧ Same (hid H14 bx) (hid Hz bx)) ⟨_, _, _, _, _, rfl, b14, v14, Same.refl _⟩ (fun i σ Hz hi10 hP => ?_) (fun σ Hz hP => ?_)
        · obtain ⟨y8, y9, y13, y14, y15, rfl, bz, uz, wz⟩ := hP
          refine ⟨_, rfl, _, rfl, lp, ls, rfl, .inl (SqL.of (LX uz)), bx, _, m + 10 * i, rfl, bz, by omega, by omega, ?_, fun r H15 r0 r1 b15 hh15 => ?_⟩
          · rw [lsl]
            have : (n : Int) ≤ 512 := by omega
            exact Int.le_trans this (by decide)
          have u15 : Same (hid HU bx) (hid H15 bx) := by rw [hh15]; exact uz
          have w15 : Same (hid H14 bx) (hid H15 bx) := by rw [hh15]; exact wz
          obtain ⟨j, rfl⟩ : ∃ j : Nat, r = j := ⟨r.toNat, by omega⟩
          have hjn : j < n := by omega
          obtain ⟨a, ra, fa, ea, ha, hra, hs⟩ := SX (Hz := H15) hjn u15
          have oj := itB_ok hG j hO
          -- the clock
          refine ⟨_, rfl, _, rfl, _, rfl, ix_of (.inl (SqL.of (LX u15))) (atI_nat ea) ?_⟩
          (try dsimp only [tNil])
          refine ⟨b, .ref a, bookT B, stD (itB B j S), B, itB B j S, 4, rfl, BX u15, bookT_book B, hs.dp, stateT_state _ _, hG, by decide, hlen1, oj, fun H16 s16 => ?_⟩
          have u16 := u15.trans (hid_mono s16)
          refine ⟨_, rfl, _, rfl, _, _, rfl, rfl, _, rfl, lp, ls, rfl, .inl (SqL.of (LX u16)), _, _, rfl, rfl, by omega, rfl, _, rfl, iteB ?_ ?_⟩
          · rw [clock_it hG hO, lsl, hn2]; simp
          -- the signs
          refine ⟨_, rfl, _, rfl, _, rfl, ix_of (.inl (SqL.of (LX u16))) (atI_nat ea) ?_⟩
          (try dsimp only [tNil])
          refine ⟨b, .ref a, bookT B, stD (itB B j S), B, itB B j S, 4, rfl, BX u16, bookT_book B, (hs.up s16).dp, stateT_state _ _, hG, by decide, hlen1, oj, fun p17 H17 s17 n17 => ?_⟩
          have s1617 := s16.trans s17
          have u17 := u15.trans (hid_mono s1617)
          have w17 := w15.trans (hid_mono s1617)
          refine ⟨_, rfl, rowT (signsM B (itB B j S)), rowT (signsM B S), n17.dp, dp_up dM14 (w17.trans hid_le), shaped_row _, shaped_row _, _, rfl, iteB (by rw [signs_it hG hO]; exact ne_row) ?_⟩
          -- the number
          refine ⟨_, rfl, _, rfl, _, rfl, _, rfl, ix_of (.inl (SqL.of (LX u17))) (atI_nat ea) (ix_of (.inr (.inl (.inl (s1617 _ _ ha)))) (atI_nat (j := 0) rfl) ?_)⟩
          (try dsimp only [tNil])
          refine ⟨b, .ref ra, bookT B, rowT (itB B j S).1, B, (itB B j S).1, 4, rfl, BX u17, bookT_book B, dp_rowT (.inl (.inl (s1617 _ _ hra))), rowT_row _, hG, by decide, hlen1, oj.st, fun H18 s18 => ?_⟩
          have u18 := u17.trans (hid_mono s18)
          obtain ⟨g0, g1⟩ := num_rg hG oj.st
          refine ⟨b, bookT B, B, numM B (itB B j S).1, 4, rfl, BX u18, bookT_book B, hG, by decide, hlen1, g0, g1, fun p19 H19 R hR eR s19 n19 => ?_⟩
          have eR' := num_inj hG hR oj.st eR
          have u19 := u18.trans (hid_mono s19)
          have s1519 := s1617.trans (s18.trans s19)
          refine ⟨_, rfl, _, rfl, ix_of (.inl (SqL.of (LX u19))) (atI_nat ea) (ix_of (.inr (.inl (.inl (s1519 _ _ ha)))) (atI_nat (j := 0) rfl) ?_)⟩
          refine ⟨rowT R, rowT (itB B j S).1, n19.dp, dp_rowT (.inl (.inl (s1519 _ _ hra))), shaped_row _, shaped_row _, _, rfl, iteB (by rw [eR']; exact ne_row) ?_⟩
          exact ⟨_, _, _, _, _, rfl, (b15.up s1519).le (by omega), u19, w17.trans (hid_mono (s18.trans s19))⟩
        · obtain ⟨y8, y9, y13, y14, y15, rfl, bz, uz, wz⟩ := hP
          exact q Hz (bz.le (by omega)) ((hid_mono (s1.trans s1U)).trans uz)
end
end Af
namespace Af
open PySem PySem.Spec PyProof.Rows L2
section
variable {P : Program} {w : World} {K : PySem.W.Frag} {mg : Str → Option Value} {base : Heap}
/-! _law_random_book -/
def spRBook (K : PySem.W.Frag) : Sp := fun vs H Q _ => ∃ (bx : Addr) (most high : Nat) (m : Nat), vs = [.ref bx, .int most, .int high] ∧ Box H bx m ∧ m ≤ 500000000 ∧ 1 ≤ most ∧ most ≤ 100 ∧ 1 ≤ high ∧ high ≤ 100 ∧
  ∀ (p : Addr) (H' : Hp) (B : List (List Int)), GoodB B high → B.length ≤ most → 1 ≤ B.length → Box H' bx (m + 20000) → Same (hid H bx) (hid H' bx) → Dp K (hid H' bx) (.ref p) (bookT B) → Q (.ref p) H'
theorem ok_rbook {f fT : Addr} {fd fdT : FuncData} {k : Nat} (T : Bl mg) (F : Fun K "_law_random_book" "_law_random_book" sLawRandomBook f fd)
    (DT : Df K mg "_law_take" sLawTake ["_law_box_here", "_law_span"] fT fdT) (GT : FnOk P w K mg base CX0 k fT fdT ["_law_box_here", "_law_span"] spTake) :
    FnOk P w K mg base CX0 (k + 1) f fd ["_law_box_here", "_law_most", "_law_high"] (spRBook K) := by
  refine F.ok scLawRandomBook (fun vs H Q E h => ?_) (fun cdv A outer s H vs Q E hr h => ?_)
  · obtain ⟨_, _, _, _, rfl, _⟩ := h; rfl
  obtain ⟨bx, most, high, m, rfl, hbox, hm, m1, m2, h1, h2, q⟩ := h
  have nd := scLawRandomBook.nd
  have hu := hr.units
  refine ⟨_, pss_cons (ps_set (i := 3) nd rfl (.inl rfl) (pe_lst (pa_cons (pe_tup (pa_cons (pe_op op_add pe_int (pe_do DT GT hr rfl (pa_cons (pv 0) (pa_cons (pv 2) pa_nil)))) pa_nil)) pa_nil)))
    (pss_cons (ps_for PassesOwn.never rfl (pi_range1 rfl T.range (pa_cons (pe_do DT GT hr rfl (pa_cons (pv 0) (pa_cons (pv 1) pa_nil))) pa_nil)) (pg_name (i := 4) nd rfl (.inl rfl))
      (pss_cons (ps_set (i := 5) nd rfl (.inr rfl) (pe_op op_add pe_int (pe_do DT GT hr rfl (pa_cons (pv 0) (pa_cons (pv 2) pa_nil)))))
      (pss_one (ps_expr (pe_bm PySem.F.plainAttrs_list PySem.F.slot_list_append PySem.F.type_list_append mt_append (pv 3) (pa_cons (pe_callTy call_tuple_of rfl T.tuple bTuple (pa_cons
        (pe_lc (own := [("_law_rung", 6)]) (g := gName 6) (tt := tYes) rfl nd (pi_range1 rfl T.range (pa_cons (pe_callB (cr_maxT rfl hu) rfl T.max bMax (pa_cons (pe_ix ix_list (pv 3) (pe_un un_neg pe_int) (fun _ _ => rfl)) pa_nil)) pa_nil))
          (blkOk_by (N := ["_law_box_here", "_law_most", "_law_high", "_law_found", "_law_k", "_law_top", "_law_rung"]) (sc := defScope sLawRandomBook) (by decide +kernel))
          (fun _ _ _ _ _ => pg_name (i := 6) nd rfl (.inl rfl)) (fun _ _ _ _ _ => pts_nil) (fun _ _ _ _ _ => pe_op op_add pe_int (pe_do DT GT hr rfl (pa_cons (pv 0) (pa_cons (pv 5) pa_nil))))) pa_nil)) pa_nil))))))
    (pss_one (ps_ret (pe_callTy call_tuple_of rfl T.tuple bTuple (pa_cons (pv 3) pa_nil))))), ?_⟩
  -- found = [(1 + take,)]
  refine ⟨_, rfl, _, rfl, bx, _, m, rfl, hbox, by omega, by omega, by omega, fun r0 Ha r01 r02 hBa hha => ?_⟩
  refine ⟨_, _, rfl, rfl, by show 1 ≤ sizeLine; decide, fun t nt => ?_⟩
  refine ⟨by show 1 ≤ sizeLine; decide, fun fo nf => ?_⟩
  have st := same_new (o := .tup [.int (1 + r0)]) nt
  have sf := same_new (o := .lst [.ref t]) nf
  have ntb : t ≠ bx := hBa.ne nt
  have nfb : fo ≠ bx := (hBa.new nt).ne nf
  have ntf : t ≠ fo := fun e => by rw [← e, upd_same] at nf; cases nf
  have hBb : Box (upd (upd Ha t (.tup [.int (1 + r0)])) fo (.lst [.ref t])) bx (m + 1) := (hBa.new nt).new nf
  -- range(take(box, most))
  refine ⟨_, rfl, _, rfl, bx, _, m + 1, rfl, hBb, by omega, by omega, by omega, fun r1 Hb r11 r12 hBc hhb => ?_⟩
  refine ⟨_, rfl, by omega, by omega, ?_⟩
  have nfH : H fo = none := by
    have z : Ha fo = none := st.free nf
    rw [← hid_eq hha nfb]; exact z
  have hsame0 : Same (hid H bx) (hid Hb bx) := by
    rw [hhb, ← hha]; exact hid_mono (st.trans sf)
  have hfo0 : Hb fo = some (.lst [.ref t]) := by rw [hid_eq hhb nfb, upd_same]
  have ht0 : Hb t = some (.tup [.int (1 + r0)]) := by rw [hid_eq hhb ntb, upd_ne ntf, upd_same]
  refine for_range (lo := 0) (n := r1.toNat) (fun i σ H3 => ∃ (y4 y5 : Option V) (B : List (List Int)) (n : Int) (ns : List Int) (vs : List V), σ = [some (.ref bx), some (.int most), some (.int high), some (.ref fo), y4, y5, none] ∧ B.length = i ∧ GoodB (B ++ [n :: ns]) high ∧
      H3 fo = some (.lst vs) ∧ DpAll K (hid (hid H3 bx) fo) vs ((B ++ [n :: ns]).map rowT) ∧ Box H3 bx (m + 2 + 101 * i) ∧ Same (hid H bx) (hid H3 bx))
    ⟨none, none, [], 1 + r0, [], [.ref t], rfl, rfl, good_one (by omega) (by omega), hfo0, .cons (.tup (.inl (.inl (by rw [hid_ne ntf, hid_ne ntb]; exact ht0))) (.cons (.int _) .nil)) .nil, hBc, hsame0⟩ (fun i σ H3 hi3 hP => ?_) (fun σ H3 hP => ?_)
  · obtain ⟨y4, y5, B, n, ns, vs, rfl, hBl, hG, hfo, hvs, hB3, sm⟩ := hP
    -- top = 1 + take
    refine ⟨_, rfl, _, rfl, bx, _, m + 2 + 101 * i, rfl, hB3, by omega, by omega, by omega, fun r5 H5 r50 r51 hB5 hh5 => ?_⟩
    refine ⟨_, _, rfl, rfl, ?_⟩
    have hfo5 : H5 fo = some (.lst vs) := by rw [hid_eq hh5 nfb]; exact hfo
    have hvs5 : DpAll K (hid (hid H5 bx) fo) vs ((B ++ [n :: ns]).map rowT) := by rw [hh5]; exact hvs
    -- found.append
    refine ⟨_, rfl, .inl ⟨rfl, _, SqL.of hfo5⟩, ?_⟩
    -- max(found[-1])
    obtain ⟨vs0, vl, rfl, hvl⟩ : ∃ vs0 vl, vs = vs0 ++ [vl] ∧ Dp K (hid (hid H5 bx) fo) vl (rowT (n :: ns)) := by
      have hl := dps_len hvs5
      rw [List.length_map, List.length_append] at hl
      have hne : vs ≠ [] := fun z => by rw [z] at hl; simp at hl
      refine ⟨vs.dropLast, vs.getLast hne, (List.dropLast_concat_getLast hne).symm, ?_⟩
      obtain ⟨v, e1, e2⟩ := dps_get (i := B.length) hvs5 (d := rowT (n :: ns)) (by rw [List.getElem?_map]; simp)
      have e3 : vs.getLast hne = v := by
        have : vs[vs.length - 1]? = some (vs.getLast hne) := by rw [← List.getLast?_eq_getElem?]; exact List.getLast?_eq_getLast hne
        rw [show vs.length - 1 = B.length by simp at hl; omega, e1] at this
        exact (Option.some.inj this).symm
      rw [e3]; exact e2
    have hvl5 : Dp K H5 vl (rowT (n :: ns)) := dp_up hvl (hid_le.trans hid_le)
    obtain ⟨la, rfl, hla⟩ : ∃ la, vl = .ref la ∧ SqT K H5 la ((n :: ns).map V.int) := by
      cases hvl5 with
      | tup h g => rw [dps_ints_inv (ns := n :: ns) g] at h; exact ⟨_, rfl, h⟩
    have p1 := hG.pos (n :: ns) (by simp)
    have mx1 := (foldl_max_ge ns n).1
    have mx2 : ns.foldl max n ≤ high := foldl_max_le ns n (p1 n List.mem_cons_self).2 fun x hx => (p1 x (List.mem_cons_of_mem _ hx)).2
    have n1 := (p1 n List.mem_cons_self).1
    refine ⟨_, rfl, 1, rfl, fo, _, -1, _, rfl, rfl, SqL.of hfo5, atI_last _ _, la, n, ns, rfl, hla, _, rfl, by omega, by omega, fun D nD => ?_⟩
    have sD := same_new (o := .lst []) nD
    have nDb : D ≠ bx := hB5.ne nD
    have nDf : D ≠ fo := fun e => by rw [e, hfo5] at nD; cases nD
    have nDH : H D = none := by
      cases e : H D with
      | none => rfl
      | some o =>
        have z := sm D o (by rw [hid_ne nDb]; exact e)
        rw [← hh5, hid_ne nDb, nD] at z; cases z
    refine lc_range (lo := 0) (n := (ns.foldl max n).toNat) (fun j H6 => ∃ row : List Int, row.length = j ∧ (∀ x ∈ row, 1 ≤ x ∧ x ≤ high) ∧ H6 D = some (.lst (row.map V.int)) ∧ Box H6 bx (m + 2 + 101 * i + 1 + j) ∧ hid (hid H6 bx) D = hid (hid H5 bx) D)
      ⟨[], rfl, fun x hx => (by cases hx), upd_same, hB5.new nD, ?_⟩ (fun j H6 hj hP6 => ?_) (fun H6 hP6 => ?_)
    · rw [hid_new nDb, hid_upd]
    · obtain ⟨row, hrl, hrp, hD6, hB6, hh6⟩ := hP6
      refine ⟨rfl, yesT ?_⟩
      refine ⟨_, rfl, _, rfl, bx, _, m + 2 + 101 * i + 1 + j, rfl, hB6, ?_, ?_, ?_, fun r7 H7 r70 r71 hB7 hh7 => ?_⟩
      · have : i < 100 := by omega
        omega
      · omega
      · omega
      refine ⟨_, _, rfl, rfl, row.map V.int, ?_, ?_, row ++ [1 + r7], by simp [hrl], fun x hx => ?_, ?_, ?_, ?_⟩
      · rw [hid_eq hh7 nDb]; exact hD6
      · rw [List.length_map]; exact small1000 (by omega)
      · rcases List.mem_append.mp hx with hx | hx
        · exact hrp x hx
        · obtain rfl : x = 1 + r7 := by simpa using hx
          exact ⟨by omega, by omega⟩
      · rw [upd_same, List.map_append]; rfl
      · obtain ⟨x1, x2, x3, g1, g2⟩ := hB7
        exact ⟨x1, x2, x3, by rw [upd_ne nDb.symm]; exact g1, g2⟩
      · rw [hid_new nDb, hid_upd, hh7, hh6]
    · obtain ⟨row, hrl, hrp, hD6, hB6, hh6⟩ := hP6
      refine ⟨D, _, rfl, .inl ⟨SqL.of hD6, fun l nl => ?_⟩⟩
      have sl := same_new (o := .tup (row.map V.int)) nl
      have nlb : l ≠ bx := hB6.ne nl
      have hfo6 : H6 fo = some (.lst (vs0 ++ [.ref la])) := by
        have := congrFun hh6 fo
        rw [hid_ne nDf.symm, hid_ne nDf.symm, hid_ne nfb, hid_ne nfb] at this
        rw [this]; exact hfo5
      have nlf : l ≠ fo := fun e => by rw [e, hfo6] at nl; cases nl
      have s56 : Same (hid (hid H5 bx) fo) (hid (hid (upd H6 l (.tup (row.map V.int))) bx) fo) := fun c o ec => by
        obtain ⟨c1, ec1⟩ := hid_some ec
        obtain ⟨c2, ec2⟩ := hid_some ec1
        have c3 : c ≠ D := fun e => by rw [e, nD] at ec2; cases ec2
        have c4 := congrFun hh6 c
        rw [hid_ne c3, hid_ne c3, hid_ne c2, hid_ne c2] at c4
        rw [hid_ne c1, hid_ne c2]
        exact sl _ _ (by rw [c4]; exact ec2)
      refine ⟨fo, _, _, rfl, rfl, sl _ _ hfo6, ?_, ?_⟩
      · have hl := dps_len hvs5
        rw [List.length_map, List.length_append (as := B)] at hl
        rw [hl, List.length_singleton]
        exact small1000 (by omega)
      · cases hrow : row with
        | nil => rw [hrow] at hrl; simp at hrl; omega
        | cons x xs =>
          rw [hrow] at hrl hrp s56 sl hD6
          refine ⟨_, _, B ++ [n :: ns], x, xs, vs0 ++ [.ref la] ++ [.ref l], rfl, by rw [List.length_append, hBl]; rfl, good_snoc hG (by rw [hrl]; omega) hrp, upd_same, ?_, ?_, ?_⟩
          · rw [List.map_append, show hid (hid (upd (upd H6 l (.tup ((x :: xs).map V.int))) fo (.lst (vs0 ++ [.ref la] ++ [.ref l]))) bx) fo = hid (hid (upd H6 l (.tup ((x :: xs).map V.int))) bx) fo from by rw [hid_new nfb, hid_upd]]
            refine dps_app (dps_up hvs5 s56) (.cons (.tup (.inl (.inl (by rw [hid_ne nlf, hid_ne nlb, upd_same]))) (dps_ints (x :: xs))) .nil)
          · obtain ⟨x1, x2, x3, g1, g2, g3, g4, g5, g6⟩ := hB6.new (o := .tup ((x :: xs).map V.int)) nl
            exact ⟨x1, x2, x3, by rw [upd_ne nfb.symm]; exact g1, g2, g3, g4, g5, by omega⟩
          · intro c o ec
            have nc : c ≠ bx := (hid_some ec).1
            have ncf : c ≠ fo := ne_of_none (hid_some ec).2 nfH
            have ncD : c ≠ D := ne_of_none (hid_some ec).2 nDH
            have z := sm _ _ ec
            rw [← hh5, hid_ne nc] at z
            have c4 := congrFun hh6 c
            rw [hid_ne ncD, hid_ne ncD, hid_ne nc, hid_ne nc] at c4
            rw [hid_ne nc, upd_ne ncf]
            exact sl _ _ (by rw [c4]; exact z)
  · obtain ⟨y4, y5, B, n, ns, vs, rfl, hBl, hG, hfo, hvs, hB3, sm⟩ := hP
    refine ⟨_, rfl, fo, _, rfl, .inl ⟨SqL.of hfo, fun p np => ?_⟩⟩
    have npb : p ≠ bx := hB3.ne np
    have sp := same_new (o := .tup vs) np
    refine q p _ (B ++ [n :: ns]) hG ?_ ?_ ((hB3.new np).le ?_) (sm.trans (hid_mono sp)) (.tup (.inl (.inl (by rw [hid_ne npb, upd_same]))) (dps_up hvs (hid_le.trans (hid_mono sp))))
    · rw [List.length_append]
      simp only [List.length_cons, List.length_nil]
      omega
    · simp
    · omega
end
end Af
namespace Af
open PySem PySem.Spec PyProof.Rows L2
section
variable {P : Program} {w : World} {K : PySem.W.Frag} {mg : Str → Option Value} {base : Heap}
/-! _law_right -/
def spRight : Sp := fun vs H Q _ => ∃ (bx : Addr) (m : Nat), vs = [.ref bx] ∧ Box H bx m ∧ m ≤ 300000000 ∧ ∀ H', Box H' bx (m + 1000000) → Same (hid H bx) (hid H' bx) → Q (.bl true) H'
set_option maxHeartbeats 3200000 in
theorem ok_right {f f0 f1 f2 : Addr} {fd fd0 fd1 fd2 : FuncData} {k : Nat} (T : Bl mg) (F : Fun K "_law_right" "_law_right" sLawRight f fd)
    (DLawRandomBook : Df K mg "_law_random_book" sLawRandomBook ["_law_box_here", "_law_most", "_law_high"] f0 fd0) (GLawRandomBook : FnOk P w K mg base CX0 k f0 fd0 ["_law_box_here", "_law_most", "_law_high"] (spRBook K))
    (DLawRandomState : Df K mg "_law_random_state" sLawRandomState ["_law_box_here", "_law_shelf"] f1 fd1) (GLawRandomState : FnOk P w K mg base CX0 k f1 fd1 ["_law_box_here", "_law_shelf"] (spRStateP K))
    (DLawLapRight : Df K mg "_law_lap_right" sLawLapRight ["_law_box_here", "_law_shelf", "_law_spot"] f2 fd2) (GLawLapRight : FnOk P w K mg base CX0 k f2 fd2 ["_law_box_here", "_law_shelf", "_law_spot"] (spLapR20 K))
    (hk9 : 9 ≤ k) (hk : 10 ≤ k) :
    FnG P w K mg base (k + 1) f fd ["_law_box_here"] spRight := by
  refine fun_okG F scLawRight (fun vs H Q E h => ?_) (fun cdv A outer s H vs Q E hG hr h => ?_)
  · obtain ⟨_, _, rfl, _⟩ := h; rfl
  obtain ⟨bx, m, rfl, hbox, hm, q⟩ := h
  have nd := scLawRight.nd
  have hr9 := hr.mono hk9
  have hr10 := hr.mono hk
  have hu64 := hr.units
  have hu70 : (A.deeper (envOfC "_law_right" (defScope sLawRight) s.heap.objs.size f cdv)).units + 70 < cLine := by have := hr.un; omega
  have hu65 : (A.deeper (envOfC "_law_right" (defScope sLawRight) s.heap.objs.size f cdv)).units + 65 < cLine := by omega
  refine ⟨_, pss_cons (ps_set (i := 1) nd rfl (.inr rfl) (pe_do DLawRandomBook GLawRandomBook hr rfl (pa_cons (pv 0) (pa_cons pe_int (pa_cons pe_int pa_nil)))))
    (pss_one (ps_ret (pe_callB (cr_all rfl) rfl T.all bAll (pa_cons (pe_lc (own := [("_law_turn", 2)]) (g := gName 2) (tt := tYes) rfl nd (pi_range1 rfl T.range (pa_cons pe_int pa_nil)) (blkOk_by (N := ["_law_box_here", "_law_shelf", "_law_turn"]) (sc := defScope sLawRight) (by decide +kernel)) (fun _ _ _ _ _ => pg_name (i := 2) nd rfl (.inl rfl)) (fun _ _ _ _ _ => pts_nil) (fun _ _ _ _ _ => (pe_do DLawLapRight GLawLapRight hr rfl (pa_cons (pv 0) (pa_cons (pv 1) (pa_cons (pe_do DLawRandomState GLawRandomState hr rfl (pa_cons (pv 0) (pa_cons (pv 1) pa_nil))) pa_nil)))))) pa_nil)))), ?_⟩
  refine ⟨_, rfl, bx, 4, 4, m, rfl, hbox, by omega, by decide, by decide, by decide, by decide, fun sp H1 B hG hBl hB1l hB1 s1 hbk => ?_⟩
  have hN : manyN B ≤ (4 : Int) ^ 4 := many_le (h := 4) hG (by decide) hBl
  have hN : manyN B ≤ 256 := Int.le_trans hN (by decide)
  refine ⟨_, rfl, by decide, by decide, fun D nD => ?_⟩
  have nDb : D ≠ bx := hB1.ne nD
  refine lc_range (lo := 0) (n := 2) (fun j H6 => H6 D = some (.lst (List.replicate j (.bl true))) ∧ Box H6 bx (m + 20000 + 200000 * j) ∧ Same (hid H1 bx) (hid (hid H6 bx) D))
    ⟨upd_same, hB1.new nD, by rw [hid_new nDb, hid_upd]; exact fun a o e => by rw [hid_ne (ne_of_none e (hid_none nD))]; exact e⟩ (fun j H6 hj hP => ?_) (fun H6 hP => ?_)
  · obtain ⟨hD, hB6, sm⟩ := hP
    refine ⟨rfl, yesT ?_⟩
    refine ⟨_, rfl, _, rfl, _, rfl, _, rfl, bx, .ref sp, B, 4, m + 20000 + 200000 * j, rfl, hB6, by omega, dp_up hbk (sm.trans hid_le), hG, by decide, by omega, fun p H7 S hO hB7 s7 hp => ?_⟩
    have sm7 : Same (hid H1 bx) (hid H7 bx) := (sm.trans hid_le).trans s7
    have hD7 : H7 D = some (.lst (List.replicate j (.bl true))) := hid_le _ _ (s7 _ _ (by rw [hid_ne nDb]; exact hD))
    refine ⟨bx, .ref sp, .ref p, B, S, m + 20000 + 200000 * j + 2 * B.length, rfl, hB7, by omega, dp_up hbk sm7, hp, hO, hG, hB1l, hBl, hN, fun H8 hB8 s8 => ?_⟩
    have k8 : Same (hid (hid H6 bx) D) (hid (hid H8 bx) D) := (hid_mono s7).trans (hid_mono s8)
    have hD8 : H8 D = some (.lst (List.replicate j (.bl true))) := hid_le _ _ (s8 _ _ (by rw [hid_ne nDb]; exact hD7))
    refine ⟨_, hD8, ?_, ?_, ?_, ?_⟩
    · rw [List.length_replicate]; exact small1000 (by omega)
    · rw [upd_same, List.replicate_succ']
    · obtain ⟨x1, x2, x3, y1, y2⟩ := hB8.le (n := m + 20000 + 200000 * (j + 1)) (by rw [Nat.mul_succ]; omega)
      exact ⟨x1, x2, x3, by rw [upd_ne nDb.symm]; exact y1, y2⟩
    · rw [hid_new nDb, hid_upd]; exact sm.trans k8
  · obtain ⟨hD, hB6, sm⟩ := hP
    refine ⟨D, List.replicate 2 true, rfl, SqL.of (by rw [List.map_replicate]; exact hD), ?_⟩
    rw [show (List.replicate 2 true).all id = true from rfl]
    exact q H6 (hB6.le (by omega)) (s1.trans (sm.trans hid_le))
end
end Af
namespace Af
open PySem PySem.Spec PyProof.Rows L2
section
variable {P : Program} {w : World} {K : PySem.W.Frag} {mg : Str → Option Value} {base : Heap}
/-! _law_box -/
theorem b01 (b : Bool) : -(2 ^ 64) < (if b = true then (1 : Int) else 0) ∧ (if b = true then (1 : Int) else 0) < 2 ^ 64 := by cases b <;> exact ⟨by decide, by decide⟩
theorem b01n (b : Bool) : 0 ≤ (if b = true then (1 : Int) else 0) := by cases b <;> decide
def spBox (K : PySem.W.Frag) : Sp := fun vs H Q _ => ∃ (a : Addr) (ns : List Int) (k : Nat), vs = [.ref a, .int k] ∧ SqL K H a (ns.map V.int) ∧ k ≤ 1000 ∧
  ∀ (p : Addr) (H' : Hp), H p = none → Same H (hid H' p) → Box H' p 0 → Q (.ref p) H'
theorem ok_box {f : Addr} {fd : FuncData} {k : Nat} (T : Bl mg) (F : Fun K "_law_box" "_law_box" sLawBox f fd) : FnOk P w K mg base CX0 (k + 1) f fd ["_law_script", "_law_k"] (spBox K) := by
  refine F.ok scLawBox (fun vs H Q E h => ?_) (fun cdv A outer s H vs Q E hr h => ?_)
  · obtain ⟨_, _, _, rfl, _⟩ := h; rfl
  obtain ⟨a, ns, k, rfl, hS, hk, q⟩ := h
  refine ⟨_, C8.pss_cut (ps_set (i := 2) scLawBox.nd rfl (.inl rfl) (pe_ifExp (pt_cmpR op_lt (pv 1) (pe_callB call_len_seq rfl T.len bLen (pa_cons (pv 0) pa_nil)) (nomark _)) (pe_ix ix_list (pv 0) (pv 1) (fun _ _ => rfl)) pe_int))
    (pss_one (ps_ret (pe_lst (pa_cons (pe_op op_mul (pe_callB call_abs rfl T.abs bAbs (pa_cons (pv 2) pa_nil)) (pe_callTy call_int1 rfl T.int bInt (pa_cons (pe_cmpR op_ge (pe_callB call_abs rfl T.abs bAbs (pa_cons (pv 2) pa_nil)) (pe_op op_pow pe_int pe_int) (nomark _)) pa_nil)))
      (pa_cons (pe_op op_add (pe_op op_add (pe_op op_mod (pv 2) pe_int) (pe_op op_mul pe_int (pv 1))) pe_int) (pa_cons pe_int pa_nil)))))), ?_⟩
  refine ⟨fun σ H' => ∃ c : Int, σ = [some (.ref a), some (.int k), some (.int c)] ∧ H' = H, ?_, ?_⟩
  · refine ⟨_, rfl, _, rfl, a, _, rfl, .inl hS, _, _, rfl, rfl, _, rfl, ?_⟩
    refine ite2 (fun e => ?_) (fun e => ?_)
    · have hlt : k < ns.length := by
        have z : (k : Int) < (((ns.map V.int).length : Nat) : Int) := of_decide_eq_true e
        rw [List.length_map] at z; omega
      exact ⟨_, rfl, _, rfl, a, _, _, _, rfl, rfl, hS, atI_nat (by rw [List.getElem?_map, List.getElem?_eq_getElem hlt]; rfl), _, rfl, rfl⟩
    · exact ⟨_, rfl, rfl⟩
  · rintro σ H' ⟨c, rfl, rfl⟩
    have hi : ∀ x : Int, 0 ≤ (if x < 0 then -x else x) := fun x => by split <;> omega
    refine ⟨_, rfl, _, rfl, _, rfl, _, rfl, _, _, rfl, rfl, ⟨by decide, by decide, by decide⟩, _, _, rfl, rfl, .inr ⟨_, rfl, _, _, rfl, rfl, .inr ?_, ?_⟩⟩
    · exact b01 _
    · refine ⟨_, rfl, _, _, rfl, rfl, (show (0 : Int) < 2305843009213693951 by decide), _, rfl, _, _, rfl, rfl, .inl ⟨by decide, by decide⟩, _, _, rfl, rfl, _, _, rfl, rfl, (by show 3 ≤ sizeLine; decide), fun p hp => ?_⟩
      have m1 : 0 ≤ c % 2305843009213693951 := Int.emod_nonneg _ (by decide)
      have m2 : c % 2305843009213693951 < 2305843009213693951 := Int.emod_lt_of_pos _ (by decide)
      refine q p _ hp (fun b o e => ?_) ⟨_, _, _, upd_same, ?_, ?_, ?_, by decide, by decide⟩
      · have nb := ne_of_none e hp
        rw [hid_ne nb, upd_ne nb]; exact e
      · exact Int.mul_nonneg (hi c) (b01n _)
      · omega
      · have e62 : (2 : Int) ^ 62 = 4611686018427387904 := by decide
        rw [e62]; omega
end
end Af
namespace Af
open PySem PySem.Spec PyProof.Rows L2
section
variable {P : Program} {w : World} {K : PySem.W.Frag} {mg : Str → Option Value} {base : Heap}
/-! law: one look for each cell -/
def spLaw (K : PySem.W.Frag) : Sp := fun vs H Q _ => ∃ (a : Addr) (ns : List Int), vs = [.ref a] ∧ SqL K H a (ns.map V.int) ∧ ns.length ≤ 63 ∧ ∀ H', Q (.bl true) H'
theorem ok_law {f fC fB fR : Addr} {fd fdC fdB fdR : FuncData} {k : Nat} (T : Bl mg) (F : Fun K "law" "law" sLaw f fd)
    (DLawCells : Df K mg "_law_cells" sLawCells ["_law_script", "_law_most"] fC fdC) (GLawCells : FnOk P w K mg base CX0 k fC fdC ["_law_script", "_law_most"] (spCells K))
    (DLawBox : Df K mg "_law_box" sLawBox ["_law_script", "_law_k"] fB fdB) (GLawBox : FnOk P w K mg base CX0 k fB fdB ["_law_script", "_law_k"] (spBox K))
    (DLawRight : Df K mg "_law_right" sLawRight ["_law_box_here"] fR fdR) (GR : FnG P w K mg base k fR fdR ["_law_box_here"] spRight) :
    FnG P w K mg base (k + 1) f fd ["_law_script"] (spLaw K) := by
  refine fun_okG F scLaw (fun vs H Q E h => ?_) (fun cdv A outer s H vs Q E hG hr h => ?_)
  · obtain ⟨_, _, rfl, _⟩ := h; rfl
  obtain ⟨a, ns, rfl, hS, h63, q⟩ := h
  have nd := scLaw.nd
  refine ⟨_, pss_cons (ps_set (i := 1) nd rfl (.inl rfl) (pe_do DLawCells GLawCells hr rfl (pa_cons (pv 0) (pa_cons pe_int pa_nil))))
    (pss_cons (ps_for PassesOwn.never rfl (pi_range1 rfl T.range (pa_cons (pe_callB call_len_seq rfl T.len bLen (pa_cons (pv 1) pa_nil)) pa_nil)) (pg_name (i := 2) nd rfl (.inl rfl))
      (pss_cons (ps_set (i := 3) nd rfl (.inl rfl) (pe_do DLawBox GLawBox hr rfl (pa_cons (pv 1) (pa_cons (pv 2) pa_nil))))
    (pss_one (ps_if (pt_not (pt_val (pe_guarded GR hG hr rfl DLawRight.g DLawRight.F.kp DLawRight.b (pa_cons (pv 3) pa_nil)))) pss_never pss_nil))))
    (pss_one (ps_ret pe_bl))), ?_⟩
  refine ⟨_, rfl, a, ns, 2, rfl, hS, h63, by decide, by decide, fun cp H1 cs ncp s1 ecp hc1 hc2 => ?_⟩
  refine ⟨_, rfl, cp, _, rfl, .inl (SqL.of ecp), _, rfl, by rw [List.length_map]; omega, by rw [List.length_map]; omega, ?_⟩
  have en : (((cs.map V.int).length : Nat) : Int).toNat = cs.length := by rw [List.length_map]; omega
  rw [en]
  refine for_range (lo := 0) (n := cs.length) (fun i σ H3 => ∃ y2 y3 : Option V, σ = [some (.ref a), some (.ref cp), y2, y3] ∧ H3 cp = some (.lst (cs.map V.int))) ⟨none, none, rfl, ecp⟩ (fun i σ H3 hi hP => ?_) (fun σ H3 hP => ?_)
  · obtain ⟨y2, y3, rfl, hcp⟩ := hP
    refine ⟨_, rfl, _, rfl, cp, cs, i, ?_, SqL.of hcp, by omega, fun bx H4 nb s4 hB4 => ?_⟩
    · show [V.ref cp, V.int (0 + (i : Int))] = _
      rw [Int.zero_add]
    have hcp4 : H4 cp = some (.lst (cs.map V.int)) := hid_le _ _ (s4 _ _ hcp)
    have ncb : cp ≠ bx := ne_of_none hcp nb
    refine ⟨_, rfl, bx, 0, rfl, hB4, by omega, fun H6 hB6 s6 => ?_⟩
    refine ⟨_, rfl, iteF ?_⟩
    refine ⟨_, _, rfl, ?_⟩
    have := s6 cp _ (by rw [hid_ne ncb]; exact hcp4)
    rwa [hid_ne ncb] at this
  · obtain ⟨y2, y3, rfl, hcp⟩ := hP
    exact q _
end
end Af
namespace Af
open PySem PySem.Spec PyProof.Rows L2
/-! what the top has written -/
set_option maxHeartbeats 0 in
theorem all_mk {l : PySem.W.OpenLaw} {w : World} {K : PySem.W.Frag} {h : Heap} {mg : Str → Option Value} {fa f1 f2 f3 f4 f5 f6 f7 f8 f9 f10 f11 f12 f13 f14 f15 f16 f17 f18 f19 f20 f21 f22 f23 f24 f25 f26 f27 f28 f29 f30 f31 f32 f33 f34 f35 : Addr} (X : K.In h) (G : h.Ns mainGlobals mg) (hfa : mg "law" = some (.ref fa))
    {od1 an1 od2 an2 od3 an3 od4 an4 od5 an5 od6 an6 od7 an7 od8 an8 od9 an9 od10 an10 od11 an11 od12 an12 od13 an13 od14 an14 od15 an15 od16 an16 od17 an17 od18 an18 od19 an19 od20 an20 od21 an21 od22 an22 od23 an23 od24 an24 od25 an25 od26 an26 od27 an27 od28 an28 od29 an29 od30 an30 od31 an31 od32 an32 od33 an33 od34 an34 od35 an35 : Option Addr} {sl1 sl2 sl3 sl4 sl5 sl6 sl7 sl8 sl9 sl10 sl11 sl12 sl13 sl14 sl15 sl16 sl17 sl18 sl19 sl20 sl21 sl22 sl23 sl24 sl25 sl26 sl27 sl28 sl29 sl30 sl31 sl32 sl33 sl34 sl35 : Array (Option Value)} {oc1 kV1 dc1 pm1 cd1 ct1 oc2 kV2 dc2 pm2 cd2 ct2 oc3 kV3 dc3 pm3 cd3 ct3 oc4 kV4 dc4 pm4 cd4 ct4 oc5 kV5 dc5 pm5 cd5 ct5 oc6 kV6 dc6 pm6 cd6 ct6 oc7 kV7 dc7 pm7 cd7 ct7 oc8 kV8 dc8 pm8 cd8 ct8 oc9 kV9 dc9 pm9 cd9 ct9 oc10 kV10 dc10 pm10 cd10 ct10 oc11 kV11 dc11 pm11 cd11 ct11 oc12 kV12 dc12 pm12 cd12 ct12 oc13 kV13 dc13 pm13 cd13 ct13 oc14 kV14 dc14 pm14 cd14 ct14 oc15 kV15 dc15 pm15 cd15 ct15 oc16 kV16 dc16 pm16 cd16 ct16 oc17 kV17 dc17 pm17 cd17 ct17 oc18 kV18 dc18 pm18 cd18 ct18 oc19 kV19 dc19 pm19 cd19 ct19 oc20 kV20 dc20 pm20 cd20 ct20 oc21 kV21 dc21 pm21 cd21 ct21 oc22 kV22 dc22 pm22 cd22 ct22 oc23 kV23 dc23 pm23 cd23 ct23 oc24 kV24 dc24 pm24 cd24 ct24 oc25 kV25 dc25 pm25 cd25 ct25 oc26 kV26 dc26 pm26 cd26 ct26 oc27 kV27 dc27 pm27 cd27 ct27 oc28 kV28 dc28 pm28 cd28 ct28 oc29 kV29 dc29 pm29 cd29 ct29 oc30 kV30 dc30 pm30 cd30 ct30 oc31 kV31 dc31 pm31 cd31 ct31 oc32 kV32 dc32 pm32 cd32 ct32 oc33 kV33 dc33 pm33 cd33 ct33 oc34 kV34 dc34 pm34 cd34 ct34 oc35 kV35 dc35 pm35 cd35 ct35 : Value}
    (a1 : PySem.W.nsIn K mainGlobals "length_of" = some (some (.ref f1))) (l1 : K.lookup f1 = some ⟨oc1, od1, .func (PySem.W.fnOf "length_of" "length_of" (defArgs sLengthOf) (defBody sLengthOf) (defScope sLengthOf) .none kV1 dc1 pm1 an1 cd1 ct1), sl1⟩) (c1 : PySem.W.codeIn K cd1 "length_of" = true) (k1 : PySem.W.keepIn K (.ref f1) = true)
    (a2 : PySem.W.nsIn K mainGlobals "lengths" = some (some (.ref f2))) (l2 : K.lookup f2 = some ⟨oc2, od2, .func (PySem.W.fnOf "lengths" "lengths" (defArgs sLengths) (defBody sLengths) (defScope sLengths) .none kV2 dc2 pm2 an2 cd2 ct2), sl2⟩) (c2 : PySem.W.codeIn K cd2 "lengths" = true) (k2 : PySem.W.keepIn K (.ref f2) = true)
    (a3 : PySem.W.nsIn K mainGlobals "end_rung" = some (some (.ref f3))) (l3 : K.lookup f3 = some ⟨oc3, od3, .func (PySem.W.fnOf "end_rung" "end_rung" (defArgs sEndRung) (defBody sEndRung) (defScope sEndRung) .none kV3 dc3 pm3 an3 cd3 ct3), sl3⟩) (c3 : PySem.W.codeIn K cd3 "end_rung" = true) (k3 : PySem.W.keepIn K (.ref f3) = true)
    (a4 : PySem.W.nsIn K mainGlobals "blocked" = some (some (.ref f4))) (l4 : K.lookup f4 = some ⟨oc4, od4, .func (PySem.W.fnOf "blocked" "blocked" (defArgs sBlocked) (defBody sBlocked) (defScope sBlocked) .none kV4 dc4 pm4 an4 cd4 ct4), sl4⟩) (c4 : PySem.W.codeIn K cd4 "blocked" = true) (k4 : PySem.W.keepIn K (.ref f4) = true)
    (a5 : PySem.W.nsIn K mainGlobals "mover" = some (some (.ref f5))) (l5 : K.lookup f5 = some ⟨oc5, od5, .func (PySem.W.fnOf "mover" "mover" (defArgs sMover) (defBody sMover) (defScope sMover) .none kV5 dc5 pm5 an5 cd5 ct5), sl5⟩) (c5 : PySem.W.codeIn K cd5 "mover" = true) (k5 : PySem.W.keepIn K (.ref f5) = true)
    (a6 : PySem.W.nsIn K mainGlobals "turned" = some (some (.ref f6))) (l6 : K.lookup f6 = some ⟨oc6, od6, .func (PySem.W.fnOf "turned" "turned" (defArgs sTurned) (defBody sTurned) (defScope sTurned) .none kV6 dc6 pm6 an6 cd6 ct6), sl6⟩) (c6 : PySem.W.codeIn K cd6 "turned" = true) (k6 : PySem.W.keepIn K (.ref f6) = true)
    (a7 : PySem.W.nsIn K mainGlobals "beat" = some (some (.ref f7))) (l7 : K.lookup f7 = some ⟨oc7, od7, .func (PySem.W.fnOf "beat" "beat" (defArgs sBeat) (defBody sBeat) (defScope sBeat) .none kV7 dc7 pm7 an7 cd7 ct7), sl7⟩) (c7 : PySem.W.codeIn K cd7 "beat" = true) (k7 : PySem.W.keepIn K (.ref f7) = true)
    (a8 : PySem.W.nsIn K mainGlobals "ones" = some (some (.ref f8))) (l8 : K.lookup f8 = some ⟨oc8, od8, .func (PySem.W.fnOf "ones" "ones" (defArgs sOnes) (defBody sOnes) (defScope sOnes) .none kV8 dc8 pm8 an8 cd8 ct8), sl8⟩) (c8 : PySem.W.codeIn K cd8 "ones" = true) (k8 : PySem.W.keepIn K (.ref f8) = true)
    (a9 : PySem.W.nsIn K mainGlobals "running_sums" = some (some (.ref f9))) (l9 : K.lookup f9 = some ⟨oc9, od9, .func (PySem.W.fnOf "running_sums" "running_sums" (defArgs sRunningSums) (defBody sRunningSums) (defScope sRunningSums) .none kV9 dc9 pm9 an9 cd9 ct9), sl9⟩) (c9 : PySem.W.codeIn K cd9 "running_sums" = true) (k9 : PySem.W.keepIn K (.ref f9) = true)
    (a10 : PySem.W.nsIn K mainGlobals "passed" = some (some (.ref f10))) (l10 : K.lookup f10 = some ⟨oc10, od10, .func (PySem.W.fnOf "passed" "passed" (defArgs sPassed) (defBody sPassed) (defScope sPassed) .none kV10 dc10 pm10 an10 cd10 ct10), sl10⟩) (c10 : PySem.W.codeIn K cd10 "passed" = true) (k10 : PySem.W.keepIn K (.ref f10) = true)
    (a11 : PySem.W.nsIn K mainGlobals "rung_reached" = some (some (.ref f11))) (l11 : K.lookup f11 = some ⟨oc11, od11, .func (PySem.W.fnOf "rung_reached" "rung_reached" (defArgs sRungReached) (defBody sRungReached) (defScope sRungReached) .none kV11 dc11 pm11 an11 cd11 ct11), sl11⟩) (c11 : PySem.W.codeIn K cd11 "rung_reached" = true) (k11 : PySem.W.keepIn K (.ref f11) = true)
    (a12 : PySem.W.nsIn K mainGlobals "sum_before" = some (some (.ref f12))) (l12 : K.lookup f12 = some ⟨oc12, od12, .func (PySem.W.fnOf "sum_before" "sum_before" (defArgs sSumBefore) (defBody sSumBefore) (defScope sSumBefore) .none kV12 dc12 pm12 an12 cd12 ct12), sl12⟩) (c12 : PySem.W.codeIn K cd12 "sum_before" = true) (k12 : PySem.W.keepIn K (.ref f12) = true)
    (a13 : PySem.W.nsIn K mainGlobals "standings_many" = some (some (.ref f13))) (l13 : K.lookup f13 = some ⟨oc13, od13, .func (PySem.W.fnOf "standings_many" "standings_many" (defArgs sStandingsMany) (defBody sStandingsMany) (defScope sStandingsMany) .none kV13 dc13 pm13 an13 cd13 ct13), sl13⟩) (c13 : PySem.W.codeIn K cd13 "standings_many" = true) (k13 : PySem.W.keepIn K (.ref f13) = true)
    (a14 : PySem.W.nsIn K mainGlobals "round_length" = some (some (.ref f14))) (l14 : K.lookup f14 = some ⟨oc14, od14, .func (PySem.W.fnOf "round_length" "round_length" (defArgs sRoundLength) (defBody sRoundLength) (defScope sRoundLength) .none kV14 dc14 pm14 an14 cd14 ct14), sl14⟩) (c14 : PySem.W.codeIn K cd14 "round_length" = true) (k14 : PySem.W.keepIn K (.ref f14) = true)
    (a15 : PySem.W.nsIn K mainGlobals "standing_at" = some (some (.ref f15))) (l15 : K.lookup f15 = some ⟨oc15, od15, .func (PySem.W.fnOf "standing_at" "standing_at" (defArgs sStandingAt) (defBody sStandingAt) (defScope sStandingAt) .none kV15 dc15 pm15 an15 cd15 ct15), sl15⟩) (c15 : PySem.W.codeIn K cd15 "standing_at" = true) (k15 : PySem.W.keepIn K (.ref f15) = true)
    (a16 : PySem.W.nsIn K mainGlobals "standing_number" = some (some (.ref f16))) (l16 : K.lookup f16 = some ⟨oc16, od16, .func (PySem.W.fnOf "standing_number" "standing_number" (defArgs sStandingNumber) (defBody sStandingNumber) (defScope sStandingNumber) .none kV16 dc16 pm16 an16 cd16 ct16), sl16⟩) (c16 : PySem.W.codeIn K cd16 "standing_number" = true) (k16 : PySem.W.keepIn K (.ref f16) = true)
    (a17 : PySem.W.nsIn K mainGlobals "part_clock" = some (some (.ref f17))) (l17 : K.lookup f17 = some ⟨oc17, od17, .func (PySem.W.fnOf "part_clock" "part_clock" (defArgs sPartClock) (defBody sPartClock) (defScope sPartClock) .none kV17 dc17 pm17 an17 cd17 ct17), sl17⟩) (c17 : PySem.W.codeIn K cd17 "part_clock" = true) (k17 : PySem.W.keepIn K (.ref f17) = true)
    (a18 : PySem.W.nsIn K mainGlobals "flipped" = some (some (.ref f18))) (l18 : K.lookup f18 = some ⟨oc18, od18, .func (PySem.W.fnOf "flipped" "flipped" (defArgs sFlipped) (defBody sFlipped) (defScope sFlipped) .none kV18 dc18 pm18 an18 cd18 ct18), sl18⟩) (c18 : PySem.W.codeIn K cd18 "flipped" = true) (k18 : PySem.W.keepIn K (.ref f18) = true)
    (a19 : PySem.W.nsIn K mainGlobals "facing_up" = some (some (.ref f19))) (l19 : K.lookup f19 = some ⟨oc19, od19, .func (PySem.W.fnOf "facing_up" "facing_up" (defArgs sFacingUp) (defBody sFacingUp) (defScope sFacingUp) .none kV19 dc19 pm19 an19 cd19 ct19), sl19⟩) (c19 : PySem.W.codeIn K cd19 "facing_up" = true) (k19 : PySem.W.keepIn K (.ref f19) = true)
    (a20 : PySem.W.nsIn K mainGlobals "first_half_state" = some (some (.ref f20))) (l20 : K.lookup f20 = some ⟨oc20, od20, .func (PySem.W.fnOf "first_half_state" "first_half_state" (defArgs sFirstHalfState) (defBody sFirstHalfState) (defScope sFirstHalfState) .none kV20 dc20 pm20 an20 cd20 ct20), sl20⟩) (c20 : PySem.W.codeIn K cd20 "first_half_state" = true) (k20 : PySem.W.keepIn K (.ref f20) = true)
    (a21 : PySem.W.nsIn K mainGlobals "signs_of" = some (some (.ref f21))) (l21 : K.lookup f21 = some ⟨oc21, od21, .func (PySem.W.fnOf "signs_of" "signs_of" (defArgs sSignsOf) (defBody sSignsOf) (defScope sSignsOf) .none kV21 dc21 pm21 an21 cd21 ct21), sl21⟩) (c21 : PySem.W.codeIn K cd21 "signs_of" = true) (k21 : PySem.W.keepIn K (.ref f21) = true)
    (a22 : PySem.W.nsIn K mainGlobals "start" = some (some (.ref f22))) (l22 : K.lookup f22 = some ⟨oc22, od22, .func (PySem.W.fnOf "start" "start" (defArgs sStart) (defBody sStart) (defScope sStart) .none kV22 dc22 pm22 an22 cd22 ct22), sl22⟩) (c22 : PySem.W.codeIn K cd22 "start" = true) (k22 : PySem.W.keepIn K (.ref f22) = true)
    (a23 : PySem.W.nsIn K mainGlobals "clock" = some (some (.ref f23))) (l23 : K.lookup f23 = some ⟨oc23, od23, .func (PySem.W.fnOf "clock" "clock" (defArgs sClock) (defBody sClock) (defScope sClock) .none kV23 dc23 pm23 an23 cd23 ct23), sl23⟩) (c23 : PySem.W.codeIn K cd23 "clock" = true) (k23 : PySem.W.keepIn K (.ref f23) = true)
    (a24 : PySem.W.nsIn K mainGlobals "_law_box" = some (some (.ref f24))) (l24 : K.lookup f24 = some ⟨oc24, od24, .func (PySem.W.fnOf "_law_box" "_law_box" (defArgs sLawBox) (defBody sLawBox) (defScope sLawBox) .none kV24 dc24 pm24 an24 cd24 ct24), sl24⟩) (c24 : PySem.W.codeIn K cd24 "_law_box" = true) (k24 : PySem.W.keepIn K (.ref f24) = true)
    (a25 : PySem.W.nsIn K mainGlobals "_law_take" = some (some (.ref f25))) (l25 : K.lookup f25 = some ⟨oc25, od25, .func (PySem.W.fnOf "_law_take" "_law_take" (defArgs sLawTake) (defBody sLawTake) (defScope sLawTake) .none kV25 dc25 pm25 an25 cd25 ct25), sl25⟩) (c25 : PySem.W.codeIn K cd25 "_law_take" = true) (k25 : PySem.W.keepIn K (.ref f25) = true)
    (a26 : PySem.W.nsIn K mainGlobals "_law_cells" = some (some (.ref f26))) (l26 : K.lookup f26 = some ⟨oc26, od26, .func (PySem.W.fnOf "_law_cells" "_law_cells" (defArgs sLawCells) (defBody sLawCells) (defScope sLawCells) .none kV26 dc26 pm26 an26 cd26 ct26), sl26⟩) (c26 : PySem.W.codeIn K cd26 "_law_cells" = true) (k26 : PySem.W.keepIn K (.ref f26) = true)
    (a27 : PySem.W.nsIn K mainGlobals "_law_ladder" = some (some (.ref f27))) (l27 : K.lookup f27 = some ⟨oc27, od27, .func (PySem.W.fnOf "_law_ladder" "_law_ladder" (defArgs sLawLadder) (defBody sLawLadder) (defScope sLawLadder) .none kV27 dc27 pm27 an27 cd27 ct27), sl27⟩) (c27 : PySem.W.codeIn K cd27 "_law_ladder" = true) (k27 : PySem.W.keepIn K (.ref f27) = true)
    (a28 : PySem.W.nsIn K mainGlobals "_law_random_book" = some (some (.ref f28))) (l28 : K.lookup f28 = some ⟨oc28, od28, .func (PySem.W.fnOf "_law_random_book" "_law_random_book" (defArgs sLawRandomBook) (defBody sLawRandomBook) (defScope sLawRandomBook) .none kV28 dc28 pm28 an28 cd28 ct28), sl28⟩) (c28 : PySem.W.codeIn K cd28 "_law_random_book" = true) (k28 : PySem.W.keepIn K (.ref f28) = true)
    (a29 : PySem.W.nsIn K mainGlobals "_law_random_standing" = some (some (.ref f29))) (l29 : K.lookup f29 = some ⟨oc29, od29, .func (PySem.W.fnOf "_law_random_standing" "_law_random_standing" (defArgs sLawRandomStanding) (defBody sLawRandomStanding) (defScope sLawRandomStanding) .none kV29 dc29 pm29 an29 cd29 ct29), sl29⟩) (c29 : PySem.W.codeIn K cd29 "_law_random_standing" = true) (k29 : PySem.W.keepIn K (.ref f29) = true)
    (a30 : PySem.W.nsIn K mainGlobals "_law_random_faces" = some (some (.ref f30))) (l30 : K.lookup f30 = some ⟨oc30, od30, .func (PySem.W.fnOf "_law_random_faces" "_law_random_faces" (defArgs sLawRandomFaces) (defBody sLawRandomFaces) (defScope sLawRandomFaces) .none kV30 dc30 pm30 an30 cd30 ct30), sl30⟩) (c30 : PySem.W.codeIn K cd30 "_law_random_faces" = true) (k30 : PySem.W.keepIn K (.ref f30) = true)
    (a31 : PySem.W.nsIn K mainGlobals "_law_random_state" = some (some (.ref f31))) (l31 : K.lookup f31 = some ⟨oc31, od31, .func (PySem.W.fnOf "_law_random_state" "_law_random_state" (defArgs sLawRandomState) (defBody sLawRandomState) (defScope sLawRandomState) .none kV31 dc31 pm31 an31 cd31 ct31), sl31⟩) (c31 : PySem.W.codeIn K cd31 "_law_random_state" = true) (k31 : PySem.W.keepIn K (.ref f31) = true)
    (a32 : PySem.W.nsIn K mainGlobals "_law_lap" = some (some (.ref f32))) (l32 : K.lookup f32 = some ⟨oc32, od32, .func (PySem.W.fnOf "_law_lap" "_law_lap" (defArgs sLawLap) (defBody sLawLap) (defScope sLawLap) .none kV32 dc32 pm32 an32 cd32 ct32), sl32⟩) (c32 : PySem.W.codeIn K cd32 "_law_lap" = true) (k32 : PySem.W.keepIn K (.ref f32) = true)
    (a33 : PySem.W.nsIn K mainGlobals "_law_lap_right" = some (some (.ref f33))) (l33 : K.lookup f33 = some ⟨oc33, od33, .func (PySem.W.fnOf "_law_lap_right" "_law_lap_right" (defArgs sLawLapRight) (defBody sLawLapRight) (defScope sLawLapRight) .none kV33 dc33 pm33 an33 cd33 ct33), sl33⟩) (c33 : PySem.W.codeIn K cd33 "_law_lap_right" = true) (k33 : PySem.W.keepIn K (.ref f33) = true)
    (a34 : PySem.W.nsIn K mainGlobals "_law_right" = some (some (.ref f34))) (l34 : K.lookup f34 = some ⟨oc34, od34, .func (PySem.W.fnOf "_law_right" "_law_right" (defArgs sLawRight) (defBody sLawRight) (defScope sLawRight) .none kV34 dc34 pm34 an34 cd34 ct34), sl34⟩) (c34 : PySem.W.codeIn K cd34 "_law_right" = true) (k34 : PySem.W.keepIn K (.ref f34) = true)
    (a35 : PySem.W.nsIn K mainGlobals "law" = some (some (.ref f35))) (l35 : K.lookup f35 = some ⟨oc35, od35, .func (PySem.W.fnOf "law" "law" (defArgs sLaw) (defBody sLaw) (defScope sLaw) .none kV35 dc35 pm35 an35 cd35 ct35), sl35⟩) (c35 : PySem.W.codeIn K cd35 "law" = true) (k35 : PySem.W.keepIn K (.ref f35) = true)
    (z1 : PySem.W.nsIn K mainGlobals "len" = some none) (z2 : PySem.W.nsIn K mainGlobals "abs" = some none) (z3 : PySem.W.nsIn K mainGlobals "int" = some none) (z4 : PySem.W.nsIn K mainGlobals "bool" = some none) (z5 : PySem.W.nsIn K mainGlobals "str" = some none) (z6 : PySem.W.nsIn K mainGlobals "range" = some none) (z7 : PySem.W.nsIn K mainGlobals "list" = some none) (z8 : PySem.W.nsIn K mainGlobals "tuple" = some none) (z9 : PySem.W.nsIn K mainGlobals "isinstance" = some none) (z10 : PySem.W.nsIn K mainGlobals "all" = some none) (z11 : PySem.W.nsIn K mainGlobals "zip" = some none) (z12 : PySem.W.nsIn K mainGlobals "enumerate" = some none) (z13 : PySem.W.nsIn K mainGlobals "max" = some none) (z14 : PySem.W.nsIn K mainGlobals "repr" = some none) (z15 : PySem.W.nsIn K mainGlobals "reversed" = some none) (z16 : PySem.W.nsIn K mainGlobals "sorted" = some none) :
    ∃ fd : FuncData, (∀ (s : Shared) (v : Value), BindsTo s fd ⟨[v], []⟩ [("_law_script", v)]) ∧ ∀ base : Heap, K.In base → base.Ns mainGlobals mg → FnG l.prog w K mg base 19 fa fd ["_law_script"] (spLaw K) := by
  have e := hfa.symm.trans (PySem.W.mg_of X G a35)
  cases e
  have FLengthOf := fun_mk (st := sLengthOf) l1 c1 k1
  have DLengthOf : Df K mg "length_of" sLengthOf ["book", "rungs", "climber"] f1 _ := ⟨FLengthOf, FLengthOf.binds (ps := ["book", "rungs", "climber"]) fun _ _ _ _ _ _ us hl => match us, hl with | [_, _, _], _ => rfl, PySem.W.mg_of X G a1⟩
  have FLengths := fun_mk (st := sLengths) l2 c2 k2
  have DLengths : Df K mg "lengths" sLengths ["book", "standing"] f2 _ := ⟨FLengths, FLengths.binds (ps := ["book", "standing"]) fun _ _ _ _ _ _ us hl => match us, hl with | [_, _], _ => rfl, PySem.W.mg_of X G a2⟩
  have FEndRung := fun_mk (st := sEndRung) l3 c3 k3
  have DEndRung : Df K mg "end_rung" sEndRung ["length", "face"] f3 _ := ⟨FEndRung, FEndRung.binds (ps := ["length", "face"]) fun _ _ _ _ _ _ us hl => match us, hl with | [_, _], _ => rfl, PySem.W.mg_of X G a3⟩
  have FBlocked := fun_mk (st := sBlocked) l4 c4 k4
  have DBlocked : Df K mg "blocked" sBlocked ["book", "state"] f4 _ := ⟨FBlocked, FBlocked.binds (ps := ["book", "state"]) fun _ _ _ _ _ _ us hl => match us, hl with | [_, _], _ => rfl, PySem.W.mg_of X G a4⟩
  have FMover := fun_mk (st := sMover) l5 c5 k5
  have DMover : Df K mg "mover" sMover ["book", "state"] f5 _ := ⟨FMover, FMover.binds (ps := ["book", "state"]) fun _ _ _ _ _ _ us hl => match us, hl with | [_, _], _ => rfl, PySem.W.mg_of X G a5⟩
  have FTurned := fun_mk (st := sTurned) l6 c6 k6
  have DTurned : Df K mg "turned" sTurned ["state"] f6 _ := ⟨FTurned, FTurned.binds (ps := ["state"]) fun _ _ _ _ _ _ us hl => match us, hl with | [_], _ => rfl, PySem.W.mg_of X G a6⟩
  have FBeat := fun_mk (st := sBeat) l7 c7 k7
  have DBeat : Df K mg "beat" sBeat ["book", "state"] f7 _ := ⟨FBeat, FBeat.binds (ps := ["book", "state"]) fun _ _ _ _ _ _ us hl => match us, hl with | [_, _], _ => rfl, PySem.W.mg_of X G a7⟩
  have FOnes := fun_mk (st := sOnes) l8 c8 k8
  have DOnes : Df K mg "ones" sOnes ["book"] f8 _ := ⟨FOnes, FOnes.binds (ps := ["book"]) fun _ _ _ _ _ _ us hl => match us, hl with | [_], _ => rfl, PySem.W.mg_of X G a8⟩
  have FRunningSums := fun_mk (st := sRunningSums) l9 c9 k9
  have DRunningSums : Df K mg "running_sums" sRunningSums ["book", "weights"] f9 _ := ⟨FRunningSums, FRunningSums.binds (ps := ["book", "weights"]) fun _ _ _ _ _ _ us hl => match us, hl with | [_, _], _ => rfl, PySem.W.mg_of X G a9⟩
  have FPassed := fun_mk (st := sPassed) l10 c10 k10
  have DPassed : Df K mg "passed" sPassed ["row", "length", "rung", "face"] f10 _ := ⟨FPassed, FPassed.binds (ps := ["row", "length", "rung", "face"]) fun _ _ _ _ _ _ us hl => match us, hl with | [_, _, _, _], _ => rfl, PySem.W.mg_of X G a10⟩
  have FRungReached := fun_mk (st := sRungReached) l11 c11 k11
  have DRungReached : Df K mg "rung_reached" sRungReached ["row", "length", "face", "number"] f11 _ := ⟨FRungReached, FRungReached.binds (ps := ["row", "length", "face", "number"]) fun _ _ _ _ _ _ us hl => match us, hl with | [_, _, _, _], _ => rfl, PySem.W.mg_of X G a11⟩
  have FSumBefore := fun_mk (st := sSumBefore) l12 c12 k12
  have DSumBefore : Df K mg "sum_before" sSumBefore ["book", "weights", "standing", "faces"] f12 _ := ⟨FSumBefore, FSumBefore.binds (ps := ["book", "weights", "standing", "faces"]) fun _ _ _ _ _ _ us hl => match us, hl with | [_, _, _, _], _ => rfl, PySem.W.mg_of X G a12⟩
  have FStandingsMany := fun_mk (st := sStandingsMany) l13 c13 k13
  have DStandingsMany : Df K mg "standings_many" sStandingsMany ["book"] f13 _ := ⟨FStandingsMany, FStandingsMany.binds (ps := ["book"]) fun _ _ _ _ _ _ us hl => match us, hl with | [_], _ => rfl, PySem.W.mg_of X G a13⟩
  have FRoundLength := fun_mk (st := sRoundLength) l14 c14 k14
  have DRoundLength : Df K mg "round_length" sRoundLength ["book"] f14 _ := ⟨FRoundLength, FRoundLength.binds (ps := ["book"]) fun _ _ _ _ _ _ us hl => match us, hl with | [_], _ => rfl, PySem.W.mg_of X G a14⟩
  have FStandingAt := fun_mk (st := sStandingAt) l15 c15 k15
  have DStandingAt : Df K mg "standing_at" sStandingAt ["book", "number"] f15 _ := ⟨FStandingAt, FStandingAt.binds (ps := ["book", "number"]) fun _ _ _ _ _ _ us hl => match us, hl with | [_, _], _ => rfl, PySem.W.mg_of X G a15⟩
  have FStandingNumber := fun_mk (st := sStandingNumber) l16 c16 k16
  have DStandingNumber : Df K mg "standing_number" sStandingNumber ["book", "standing"] f16 _ := ⟨FStandingNumber, FStandingNumber.binds (ps := ["book", "standing"]) fun _ _ _ _ _ _ us hl => match us, hl with | [_, _], _ => rfl, PySem.W.mg_of X G a16⟩
  have FPartClock := fun_mk (st := sPartClock) l17 c17 k17
  have DPartClock : Df K mg "part_clock" sPartClock ["book", "rungs", "faces"] f17 _ := ⟨FPartClock, FPartClock.binds (ps := ["book", "rungs", "faces"]) fun _ _ _ _ _ _ us hl => match us, hl with | [_, _, _], _ => rfl, PySem.W.mg_of X G a17⟩
  have FFlipped := fun_mk (st := sFlipped) l18 c18 k18
  have DFlipped : Df K mg "flipped" sFlipped ["book", "face", "rungs", "faces"] f18 _ := ⟨FFlipped, FFlipped.binds (ps := ["book", "face", "rungs", "faces"]) fun _ _ _ _ _ _ us hl => match us, hl with | [_, _, _, _], _ => rfl, PySem.W.mg_of X G a18⟩
  have FFacingUp := fun_mk (st := sFacingUp) l19 c19 k19
  have DFacingUp : Df K mg "facing_up" sFacingUp ["state"] f19 _ := ⟨FFacingUp, FFacingUp.binds (ps := ["state"]) fun _ _ _ _ _ _ us hl => match us, hl with | [_], _ => rfl, PySem.W.mg_of X G a19⟩
  have FFirstHalfState := fun_mk (st := sFirstHalfState) l20 c20 k20
  have DFirstHalfState : Df K mg "first_half_state" sFirstHalfState ["book", "signs", "weights", "number"] f20 _ := ⟨FFirstHalfState, FFirstHalfState.binds (ps := ["book", "signs", "weights", "number"]) fun _ _ _ _ _ _ us hl => match us, hl with | [_, _, _, _], _ => rfl, PySem.W.mg_of X G a20⟩
  have FSignsOf := fun_mk (st := sSignsOf) l21 c21 k21
  have DSignsOf : Df K mg "signs_of" sSignsOf ["book", "state"] f21 _ := ⟨FSignsOf, FSignsOf.binds (ps := ["book", "state"]) fun _ _ _ _ _ _ us hl => match us, hl with | [_, _], _ => rfl, PySem.W.mg_of X G a21⟩
  have FStart := fun_mk (st := sStart) l22 c22 k22
  have DStart : Df K mg "start" sStart ["book", "signs"] f22 _ := ⟨FStart, FStart.binds (ps := ["book", "signs"]) fun _ _ _ _ _ _ us hl => match us, hl with | [_, _], _ => rfl, PySem.W.mg_of X G a22⟩
  have FClock := fun_mk (st := sClock) l23 c23 k23
  have DClock : Df K mg "clock" sClock ["book", "state"] f23 _ := ⟨FClock, FClock.binds (ps := ["book", "state"]) fun _ _ _ _ _ _ us hl => match us, hl with | [_, _], _ => rfl, PySem.W.mg_of X G a23⟩
  have FLawBox := fun_mk (st := sLawBox) l24 c24 k24
  have DLawBox : Df K mg "_law_box" sLawBox ["_law_script", "_law_k"] f24 _ := ⟨FLawBox, FLawBox.binds (ps := ["_law_script", "_law_k"]) fun _ _ _ _ _ _ us hl => match us, hl with | [_, _], _ => rfl, PySem.W.mg_of X G a24⟩
  have FLawTake := fun_mk (st := sLawTake) l25 c25 k25
  have DLawTake : Df K mg "_law_take" sLawTake ["_law_box_here", "_law_span"] f25 _ := ⟨FLawTake, FLawTake.binds (ps := ["_law_box_here", "_law_span"]) fun _ _ _ _ _ _ us hl => match us, hl with | [_, _], _ => rfl, PySem.W.mg_of X G a25⟩
  have FLawCells := fun_mk (st := sLawCells) l26 c26 k26
  have DLawCells : Df K mg "_law_cells" sLawCells ["_law_script", "_law_most"] f26 _ := ⟨FLawCells, FLawCells.binds (ps := ["_law_script", "_law_most"]) fun _ _ _ _ _ _ us hl => match us, hl with | [_, _], _ => rfl, PySem.W.mg_of X G a26⟩
  have FLawLadder := fun_mk (st := sLawLadder) l27 c27 k27
  have DLawLadder : Df K mg "_law_ladder" sLawLadder ["_law_shelf", "_law_rungs", "_law_who"] f27 _ := ⟨FLawLadder, FLawLadder.binds (ps := ["_law_shelf", "_law_rungs", "_law_who"]) fun _ _ _ _ _ _ us hl => match us, hl with | [_, _, _], _ => rfl, PySem.W.mg_of X G a27⟩
  have FLawRandomBook := fun_mk (st := sLawRandomBook) l28 c28 k28
  have DLawRandomBook : Df K mg "_law_random_book" sLawRandomBook ["_law_box_here", "_law_most", "_law_high"] f28 _ := ⟨FLawRandomBook, FLawRandomBook.binds (ps := ["_law_box_here", "_law_most", "_law_high"]) fun _ _ _ _ _ _ us hl => match us, hl with | [_, _, _], _ => rfl, PySem.W.mg_of X G a28⟩
  have FLawRandomStanding := fun_mk (st := sLawRandomStanding) l29 c29 k29
  have DLawRandomStanding : Df K mg "_law_random_standing" sLawRandomStanding ["_law_box_here", "_law_shelf"] f29 _ := ⟨FLawRandomStanding, FLawRandomStanding.binds (ps := ["_law_box_here", "_law_shelf"]) fun _ _ _ _ _ _ us hl => match us, hl with | [_, _], _ => rfl, PySem.W.mg_of X G a29⟩
  have FLawRandomFaces := fun_mk (st := sLawRandomFaces) l30 c30 k30
  have DLawRandomFaces : Df K mg "_law_random_faces" sLawRandomFaces ["_law_box_here", "_law_count"] f30 _ := ⟨FLawRandomFaces, FLawRandomFaces.binds (ps := ["_law_box_here", "_law_count"]) fun _ _ _ _ _ _ us hl => match us, hl with | [_, _], _ => rfl, PySem.W.mg_of X G a30⟩
  have FLawRandomState := fun_mk (st := sLawRandomState) l31 c31 k31
  have DLawRandomState : Df K mg "_law_random_state" sLawRandomState ["_law_box_here", "_law_shelf"] f31 _ := ⟨FLawRandomState, FLawRandomState.binds (ps := ["_law_box_here", "_law_shelf"]) fun _ _ _ _ _ _ us hl => match us, hl with | [_, _], _ => rfl, PySem.W.mg_of X G a31⟩
  have FLawLap := fun_mk (st := sLawLap) l32 c32 k32
  have DLawLap : Df K mg "_law_lap" sLawLap ["_law_shelf", "_law_spot"] f32 _ := ⟨FLawLap, FLawLap.binds (ps := ["_law_shelf", "_law_spot"]) fun _ _ _ _ _ _ us hl => match us, hl with | [_, _], _ => rfl, PySem.W.mg_of X G a32⟩
  have FLawLapRight := fun_mk (st := sLawLapRight) l33 c33 k33
  have DLawLapRight : Df K mg "_law_lap_right" sLawLapRight ["_law_box_here", "_law_shelf", "_law_spot"] f33 _ := ⟨FLawLapRight, FLawLapRight.binds (ps := ["_law_box_here", "_law_shelf", "_law_spot"]) fun _ _ _ _ _ _ us hl => match us, hl with | [_, _, _], _ => rfl, PySem.W.mg_of X G a33⟩
  have FLawRight := fun_mk (st := sLawRight) l34 c34 k34
  have DLawRight : Df K mg "_law_right" sLawRight ["_law_box_here"] f34 _ := ⟨FLawRight, FLawRight.binds (ps := ["_law_box_here"]) fun _ _ _ _ _ _ us hl => match us, hl with | [_], _ => rfl, PySem.W.mg_of X G a34⟩
  have FLaw := fun_mk (st := sLaw) l35 c35 k35
  have T : Bl mg := ⟨PySem.W.mg_none_of X G z1, PySem.W.mg_none_of X G z2, PySem.W.mg_none_of X G z3, PySem.W.mg_none_of X G z4, PySem.W.mg_none_of X G z5, PySem.W.mg_none_of X G z6, PySem.W.mg_none_of X G z7, PySem.W.mg_none_of X G z8, PySem.W.mg_none_of X G z9, PySem.W.mg_none_of X G z10, PySem.W.mg_none_of X G z11, PySem.W.mg_none_of X G z12, PySem.W.mg_none_of X G z13, PySem.W.mg_none_of X G z14⟩
  have Mreversed := PySem.W.mg_none_of X G z15
  have Msorted := PySem.W.mg_none_of X G z16
  refine ⟨PySem.W.fnOf "law" "law" (defArgs sLaw) (defBody sLaw) (defScope sLaw) .none kV35 dc35 pm35 an35 cd35 ct35, fun s v => .of_eq rfl, fun base _ _ => ?_⟩
  have gLawTake16 := ok_take (P := l.prog) (w := w) (mg := mg) (base := base) (k := 15) FLawTake
  have gLawRandomBook17 := ok_rbook (P := l.prog) (w := w) (mg := mg) (base := base) (k := 16) T FLawRandomBook DLawTake gLawTake16
  have gLawTake15 := ok_take (P := l.prog) (w := w) (mg := mg) (base := base) (k := 14) FLawTake
  have gLawLadder15 := ok_ladder (P := l.prog) (w := w) (mg := mg) (base := base) (k := 14) FLawLadder
  have gLawRandomStanding16 := ok_rstand (P := l.prog) (w := w) (mg := mg) (base := base) (k := 15) T FLawRandomStanding DLawTake gLawTake15 DLawLadder gLawLadder15
  have gLawRandomFaces16 := ok_rfaces (P := l.prog) (w := w) (mg := mg) (base := base) (k := 15) T FLawRandomFaces DLawTake gLawTake15
  have gLawRandomState17 := ok_rstateP (P := l.prog) (w := w) (mg := mg) (base := base) (k := 16) T FLawRandomState DLawRandomStanding gLawRandomStanding16 DLawRandomFaces gLawRandomFaces16
  have gLengthOf11 := ok_length_of (P := l.prog) (w := w) (mg := mg) (base := base) (k := 10) FLengthOf
  have gLengths12 := ok_lengths (P := l.prog) (w := w) (mg := mg) (base := base) (k := 11) T FLengths DLengthOf gLengthOf11
  have gEndRung12 := ok_end (P := l.prog) (w := w) (mg := mg) (base := base) (k := 11) FEndRung
  have gBlocked13 := ok_blocked (P := l.prog) (w := w) (mg := mg) (base := base) (k := 12) T FBlocked DLengths gLengths12 DEndRung gEndRung12
  have gMover14 := ok_mover (P := l.prog) (w := w) (mg := mg) (base := base) (k := 13) T FMover DBlocked gBlocked13
  have gTurnedP14 := ok_turnedP (P := l.prog) (w := w) (mg := mg) (base := base) (k := 13) T FTurned
  have gLengthOf14 := ok_length_of (P := l.prog) (w := w) (mg := mg) (base := base) (k := 13) FLengthOf
  have gEndRung14 := ok_end (P := l.prog) (w := w) (mg := mg) (base := base) (k := 13) FEndRung
  have gBeat15 := ok_beatP (P := l.prog) (w := w) (mg := mg) (base := base) (k := 14) T FBeat DMover gMover14 DTurned gTurnedP14 DLengthOf gLengthOf14 DEndRung gEndRung14
  have gLawLap16 := ok_lap20 (P := l.prog) (w := w) (mg := mg) (base := base) (k := 15) T FLawLap DBeat gBeat15
  have gRunningSums15 := ok_run (P := l.prog) (w := w) (mg := mg) (base := base) (k := 14) T Mreversed FRunningSums
  have gOnes15 := ok_ones (P := l.prog) (w := w) (mg := mg) (base := base) (k := 14) T FOnes
  have gStandingsMany16 := ok_many (P := l.prog) (w := w) (mg := mg) (base := base) (k := 15) T FStandingsMany DRunningSums gRunningSums15 DOnes gOnes15
  have gRunningSums14 := ok_run (P := l.prog) (w := w) (mg := mg) (base := base) (k := 13) T Mreversed FRunningSums
  have gOnes14 := ok_ones (P := l.prog) (w := w) (mg := mg) (base := base) (k := 13) T FOnes
  have gStandingsMany15 := ok_many (P := l.prog) (w := w) (mg := mg) (base := base) (k := 14) T FStandingsMany DRunningSums gRunningSums14 DOnes gOnes14
  have gRoundLength16 := ok_length (P := l.prog) (w := w) (mg := mg) (base := base) (k := 15) FRoundLength DStandingsMany gStandingsMany15
  have gLengthOf15 := ok_length_of (P := l.prog) (w := w) (mg := mg) (base := base) (k := 14) FLengthOf
  have gPassed14 := ok_passed (P := l.prog) (w := w) (mg := mg) (base := base) (k := 13) FPassed
  have gRungReached15 := ok_reach (P := l.prog) (w := w) (mg := mg) (base := base) (k := 14) T FRungReached DPassed gPassed14
  have gPassed15 := ok_passed (P := l.prog) (w := w) (mg := mg) (base := base) (k := 14) FPassed
  have gStandingAt16 := ok_standAt (P := l.prog) (w := w) (mg := mg) (base := base) (k := 15) T FStandingAt DStandingsMany gStandingsMany15 DRunningSums gRunningSums15 DOnes gOnes15 DLengthOf gLengthOf15 DRungReached gRungReached15 DPassed gPassed15
  have gTurned14 := ok_turnG (P := l.prog) (w := w) (mg := mg) (base := base) (k := 13) T FTurned
  have gFacingUp15 := ok_facing (P := l.prog) (w := w) (mg := mg) (base := base) (k := 14) FFacingUp DTurned gTurned14
  have gRunningSums13 := ok_run (P := l.prog) (w := w) (mg := mg) (base := base) (k := 12) T Mreversed FRunningSums
  have gLengthOf12 := ok_length_of (P := l.prog) (w := w) (mg := mg) (base := base) (k := 11) FLengthOf
  have gLengths13 := ok_lengths (P := l.prog) (w := w) (mg := mg) (base := base) (k := 12) T FLengths DLengthOf gLengthOf12
  have gPassed13 := ok_passed (P := l.prog) (w := w) (mg := mg) (base := base) (k := 12) FPassed
  have gSumBefore14 := ok_sumb (P := l.prog) (w := w) (mg := mg) (base := base) (k := 13) T FSumBefore DRunningSums gRunningSums13 DLengths gLengths13 DPassed gPassed13
  have gPartClock15 := ok_part (P := l.prog) (w := w) (mg := mg) (base := base) (k := 14) T FPartClock DOnes gOnes14 DSumBefore gSumBefore14
  have gOnes13 := ok_ones (P := l.prog) (w := w) (mg := mg) (base := base) (k := 12) T FOnes
  have gStandingsMany14 := ok_many (P := l.prog) (w := w) (mg := mg) (base := base) (k := 13) T FStandingsMany DRunningSums gRunningSums13 DOnes gOnes13
  have gRoundLength15 := ok_length (P := l.prog) (w := w) (mg := mg) (base := base) (k := 14) FRoundLength DStandingsMany gStandingsMany14
  have gClock16 := ok_clock (P := l.prog) (w := w) (mg := mg) (base := base) (k := 15) FClock DFacingUp gFacingUp15 DPartClock gPartClock15 DRoundLength gRoundLength15
  have gRunningSums12 := ok_run (P := l.prog) (w := w) (mg := mg) (base := base) (k := 11) T Mreversed FRunningSums
  have gPassed12 := ok_passed (P := l.prog) (w := w) (mg := mg) (base := base) (k := 11) FPassed
  have gSumBefore13 := ok_sumb (P := l.prog) (w := w) (mg := mg) (base := base) (k := 12) T FSumBefore DRunningSums gRunningSums12 DLengths gLengths12 DPassed gPassed12
  have gPartClock14 := ok_part (P := l.prog) (w := w) (mg := mg) (base := base) (k := 13) T FPartClock DOnes gOnes13 DSumBefore gSumBefore13
  have gFlipped15 := ok_flip (P := l.prog) (w := w) (mg := mg) (base := base) (k := 14) FFlipped DPartClock gPartClock14
  have gSignsOf16 := ok_signs (P := l.prog) (w := w) (mg := mg) (base := base) (k := 15) T FSignsOf DFacingUp gFacingUp15 DFlipped gFlipped15
  have gOnes12 := ok_ones (P := l.prog) (w := w) (mg := mg) (base := base) (k := 11) T FOnes
  have gRunningSums11 := ok_run (P := l.prog) (w := w) (mg := mg) (base := base) (k := 10) T Mreversed FRunningSums
  have gLengthOf10 := ok_length_of (P := l.prog) (w := w) (mg := mg) (base := base) (k := 9) FLengthOf
  have gLengths11 := ok_lengths (P := l.prog) (w := w) (mg := mg) (base := base) (k := 10) T FLengths DLengthOf gLengthOf10
  have gPassed11 := ok_passed (P := l.prog) (w := w) (mg := mg) (base := base) (k := 10) FPassed
  have gSumBefore12 := ok_sumb (P := l.prog) (w := w) (mg := mg) (base := base) (k := 11) T FSumBefore DRunningSums gRunningSums11 DLengths gLengths11 DPassed gPassed11
  have gPartClock13 := ok_part (P := l.prog) (w := w) (mg := mg) (base := base) (k := 12) T FPartClock DOnes gOnes12 DSumBefore gSumBefore12
  have gFlipped14 := ok_flip (P := l.prog) (w := w) (mg := mg) (base := base) (k := 13) FFlipped DPartClock gPartClock13
  have gRungReached14 := ok_reach (P := l.prog) (w := w) (mg := mg) (base := base) (k := 13) T FRungReached DPassed gPassed13
  have gFirstHalfState15 := ok_fhs (P := l.prog) (w := w) (mg := mg) (base := base) (k := 14) T FFirstHalfState DRunningSums gRunningSums14 DFlipped gFlipped14 DLengthOf gLengthOf14 DRungReached gRungReached14 DPassed gPassed14
  have gStart16 := ok_start (P := l.prog) (w := w) (mg := mg) (base := base) (k := 15) FStart DOnes gOnes15 DFirstHalfState gFirstHalfState15
  have gLengthOf13 := ok_length_of (P := l.prog) (w := w) (mg := mg) (base := base) (k := 12) FLengthOf
  have gLengths14 := ok_lengths (P := l.prog) (w := w) (mg := mg) (base := base) (k := 13) T FLengths DLengthOf gLengthOf13
  have gBlocked15 := ok_blocked (P := l.prog) (w := w) (mg := mg) (base := base) (k := 14) T FBlocked DLengths gLengths14 DEndRung gEndRung14
  have gMover16 := ok_mover (P := l.prog) (w := w) (mg := mg) (base := base) (k := 15) T FMover DBlocked gBlocked15
  have gSumBefore15 := ok_sumb (P := l.prog) (w := w) (mg := mg) (base := base) (k := 14) T FSumBefore DRunningSums gRunningSums14 DLengths gLengths14 DPassed gPassed14
  have gStandingNumber16 := ok_number (P := l.prog) (w := w) (mg := mg) (base := base) (k := 15) T FStandingNumber DSumBefore gSumBefore15 DOnes gOnes15
  have gLawLapRight17 := ok_lapr20 (P := l.prog) (w := w) (mg := mg) (base := base) (k := 16) T Msorted FLawLapRight DLawLap gLawLap16 DStandingsMany gStandingsMany16 DRoundLength gRoundLength16 DStandingAt gStandingAt16 DClock gClock16 DSignsOf gSignsOf16 DStart gStart16 DMover gMover16 DStandingNumber gStandingNumber16 DLawTake (ok_takeW DLawTake) (by decide)
  have gLawCells18 := ok_cells (P := l.prog) (w := w) (mg := mg) (base := base) (k := 17) T FLawCells
  have gLawBox18 := ok_box (P := l.prog) (w := w) (mg := mg) (base := base) (k := 17) T FLawBox
  have gR := ok_right (P := l.prog) (w := w) (base := base) (k := 17) T FLawRight DLawRandomBook gLawRandomBook17 DLawRandomState gLawRandomState17 DLawLapRight gLawLapRight17 (by decide) (by decide)
  exact ok_law (k := 18) T FLaw DLawCells gLawCells18 DLawBox gLawBox18 DLawRight gR
end Af
open PySem PySem.W PyProof.Rows
set_option maxRecDepth 100000 in
set_option maxHeartbeats 0 in
theorem PySem.Challenge.cw_aboutface_k20_whole_every_standing_twice_holds : PySem.Challenge.rw_aboutface_k20_whole_every_standing_twice.Holds := by
  w_on; o_law; k_head; (case hw => w_witness2)
  k_fill
  refine Af.walk_ofG (l := PySem.Challenge.rw_aboutface_k20_whole_every_standing_twice) (n := 63) (k := 19) (x := "_law_script") (sp := Af.spLaw) rfl (by decide) rfl ⟨rfl, by decide, by decide⟩ (fun w h Y => PySem.W.kIn_of Y) ?F (fun _ _ a ns hl _ hS => ⟨a, ns, rfl, hS, hl, fun _ => rfl⟩)
  case F =>
    intro w mg fa h KX G hmg
    refine' Af.all_mk KX G hmg ?a1 ?l1 ?c1 ?k1 ?a2 ?l2 ?c2 ?k2 ?a3 ?l3 ?c3 ?k3 ?a4 ?l4 ?c4 ?k4 ?a5 ?l5 ?c5 ?k5 ?a6 ?l6 ?c6 ?k6 ?a7 ?l7 ?c7 ?k7 ?a8 ?l8 ?c8 ?k8 ?a9 ?l9 ?c9 ?k9 ?a10 ?l10 ?c10 ?k10 ?a11 ?l11 ?c11 ?k11 ?a12 ?l12 ?c12 ?k12 ?a13 ?l13 ?c13 ?k13 ?a14 ?l14 ?c14 ?k14 ?a15 ?l15 ?c15 ?k15 ?a16 ?l16 ?c16 ?k16 ?a17 ?l17 ?c17 ?k17 ?a18 ?l18 ?c18 ?k18 ?a19 ?l19 ?c19 ?k19 ?a20 ?l20 ?c20 ?k20 ?a21 ?l21 ?c21 ?k21 ?a22 ?l22 ?c22 ?k22 ?a23 ?l23 ?c23 ?k23 ?a24 ?l24 ?c24 ?k24 ?a25 ?l25 ?c25 ?k25 ?a26 ?l26 ?c26 ?k26 ?a27 ?l27 ?c27 ?k27 ?a28 ?l28 ?c28 ?k28 ?a29 ?l29 ?c29 ?k29 ?a30 ?l30 ?c30 ?k30 ?a31 ?l31 ?c31 ?k31 ?a32 ?l32 ?c32 ?k32 ?a33 ?l33 ?c33 ?k33 ?a34 ?l34 ?c34 ?k34 ?a35 ?l35 ?c35 ?k35 ?z1 ?z2 ?z3 ?z4 ?z5 ?z6 ?z7 ?z8 ?z9 ?z10 ?z11 ?z12 ?z13 ?z14 ?z15 ?z16
    (case a1 => k_is); (case l1 => k_is); (case c1 => k_is); (case k1 => k_is); (case a2 => k_is); (case l2 => k_is); (case c2 => k_is); (case k2 => k_is)
    (case a3 => k_is); (case l3 => k_is); (case c3 => k_is); (case k3 => k_is); (case a4 => k_is); (case l4 => k_is); (case c4 => k_is); (case k4 => k_is)
    (case a5 => k_is); (case l5 => k_is); (case c5 => k_is); (case k5 => k_is); (case a6 => k_is); (case l6 => k_is); (case c6 => k_is); (case k6 => k_is)
    (case a7 => k_is); (case l7 => k_is); (case c7 => k_is); (case k7 => k_is); (case a8 => k_is); (case l8 => k_is); (case c8 => k_is); (case k8 => k_is)
    (case a9 => k_is); (case l9 => k_is); (case c9 => k_is); (case k9 => k_is); (case a10 => k_is); (case l10 => k_is); (case c10 => k_is); (case k10 => k_is)
    (case a11 => k_is); (case l11 => k_is); (case c11 => k_is); (case k11 => k_is); (case a12 => k_is); (case l12 => k_is); (case c12 => k_is); (case k12 => k_is)
    (case a13 => k_is); (case l13 => k_is); (case c13 => k_is); (case k13 => k_is); (case a14 => k_is); (case l14 => k_is); (case c14 => k_is); (case k14 => k_is)
    (case a15 => k_is); (case l15 => k_is); (case c15 => k_is); (case k15 => k_is); (case a16 => k_is); (case l16 => k_is); (case c16 => k_is); (case k16 => k_is)
    (case a17 => k_is); (case l17 => k_is); (case c17 => k_is); (case k17 => k_is); (case a18 => k_is); (case l18 => k_is); (case c18 => k_is); (case k18 => k_is)
    (case a19 => k_is); (case l19 => k_is); (case c19 => k_is); (case k19 => k_is); (case a20 => k_is); (case l20 => k_is); (case c20 => k_is); (case k20 => k_is)
    (case a21 => k_is); (case l21 => k_is); (case c21 => k_is); (case k21 => k_is); (case a22 => k_is); (case l22 => k_is); (case c22 => k_is); (case k22 => k_is)
    (case a23 => k_is); (case l23 => k_is); (case c23 => k_is); (case k23 => k_is); (case a24 => k_is); (case l24 => k_is); (case c24 => k_is); (case k24 => k_is)
    (case a25 => k_is); (case l25 => k_is); (case c25 => k_is); (case k25 => k_is); (case a26 => k_is); (case l26 => k_is); (case c26 => k_is); (case k26 => k_is)
    (case a27 => k_is); (case l27 => k_is); (case c27 => k_is); (case k27 => k_is); (case a28 => k_is); (case l28 => k_is); (case c28 => k_is); (case k28 => k_is)
    (case a29 => k_is); (case l29 => k_is); (case c29 => k_is); (case k29 => k_is); (case a30 => k_is); (case l30 => k_is); (case c30 => k_is); (case k30 => k_is)
    (case a31 => k_is); (case l31 => k_is); (case c31 => k_is); (case k31 => k_is); (case a32 => k_is); (case l32 => k_is); (case c32 => k_is); (case k32 => k_is)
    (case a33 => k_is); (case l33 => k_is); (case c33 => k_is); (case k33 => k_is); (case a34 => k_is); (case l34 => k_is); (case c34 => k_is); (case k34 => k_is)
    (case a35 => k_is); (case l35 => k_is); (case c35 => k_is); (case k35 => k_is); (case z1 => k_is); (case z2 => k_is); (case z3 => k_is); (case z4 => k_is)
    (case z5 => k_is); (case z6 => k_is); (case z7 => k_is); (case z8 => k_is); (case z9 => k_is); (case z10 => k_is); (case z11 => k_is); (case z12 => k_is)
    (case z13 => k_is); (case z14 => k_is); (case z15 => k_is); (case z16 => k_is)
