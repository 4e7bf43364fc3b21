import PyProof.Rows.All
import Wide.All
import OpenK.AllK
import Wide.FinOn
import HandS.ForMost
import HandS.IsInst
import HandS.Flow
import HandS.Conv
import HandS.Deep
import HandS.TupAny
import HandS.Walk
import HandS.Zip
import HandS.Codes
import PyProof.ReprRoads
import PyProof.ReprLen
import KE.DataMinMax
import PyProof.ReprBulk
import PyProof.Draws
import PyProof.EnumMake
import HandS.NoneIn
import HandS.Style
import HandS.TupMul
import HandS.RaiseMore
import PySem.Challenge.RW_aboutface_k01_standings_and_states_or_no
set_option Elab.async false
set_option linter.all false
set_option maxRecDepth 100000
/-! ### the ground: heaps, data, repr, defs that want no guard -/
namespace Af
open PySem PySem.Spec PyProof.Rows L2
/-! heaps -/
theorem same_new {H : Hp} {p : Addr} {o : HO} (h : H p = none) : Same H (upd H p o) := fun b x e => by
  rw [upd_ne (ne_of_none e h)]; exact e
/-- the heap without one place -/
def hid (H : Hp) (b : Addr) : Hp := fun a => if a = b then none else H a
theorem hid_at {H : Hp} {b : Addr} : hid H b b = none := if_pos rfl
theorem hid_ne {H : Hp} {a b : Addr} (h : a ≠ b) : hid H b a = H a := if_neg h
theorem hid_upd {H : Hp} {b : Addr} {o : HO} : hid (upd H b o) b = hid H b := by
  funext a; unfold hid; split
  · rfl
  · rename_i h; exact upd_ne h
theorem hid_new {H : Hp} {b p : Addr} {o : HO} (h : p ≠ b) : hid (upd H p o) b = upd (hid H b) p o := by
  funext a
  by_cases e : a = b
  · subst e; rw [hid_at, upd_ne h.symm, hid_at]
  · rw [hid_ne e]
    by_cases e2 : a = p
    · subst e2; rw [upd_same, upd_same]
    · rw [upd_ne e2, upd_ne e2, hid_ne e]
theorem hid_le {H : Hp} {b : Addr} : Same (hid H b) H := fun a o e => by
  by_cases h : a = b
  · subst h; rw [hid_at] at e; cases e
  · rw [hid_ne h] at e; exact e
theorem hid_mono {H H' : Hp} {b : Addr} (s : Same H H') : Same (hid H b) (hid H' b) := fun a o e => by
  by_cases h : a = b
  · subst h; rw [hid_at] at e; cases e
  · rw [hid_ne h] at e ⊢; exact s a o e
theorem hid_none {H : Hp} {b p : Addr} (h : H p = none) : hid H b p = none := by
  by_cases e : p = b
  · subst e; exact hid_at
  · rw [hid_ne e]; exact h
theorem hid_some {H : Hp} {b p : Addr} {o : HO} (h : hid H b p = some o) : p ≠ b ∧ H p = some o := by
  by_cases e : p = b
  · subst e; rw [hid_at] at h; cases h
  · rw [hid_ne e] at h; exact ⟨e, h⟩
/-! data -/
theorem sqt_mono {K : PySem.W.Frag} {H H' : Hp} {a : Addr} {xs : List V} (e : Same H H') (h : SqT K H a xs) : SqT K H' a xs := by
  rcases h with (h | ⟨o, h⟩) | h
  · exact .inl (.inl (e _ _ h))
  · exact .inl (.inr ⟨o, e _ _ h⟩)
  · exact .inr h
mutual
theorem dp_mono {K : PySem.W.Frag} {H H' : Hp} (e : Same H H') : ∀ (d : PyData) (v : V), Dp K H v d → Dp K H' v d
  | .none, _, h => by cases h; exact .non
  | .bool b, _, h => by cases h; exact .bl b
  | .int i, _, h => by cases h; exact .int i
  | .str x, _, h => by cases h; exact .str x
  | .list ds, _, h => by
    cases h with
    | lst hs ha => exact .lst (e.seq hs) (dps_mono e ds _ ha)
  | .tuple ds, _, h => by
    cases h with
    | tup hs ha => exact .tup (sqt_mono e hs) (dps_mono e ds _ ha)
  | .dict _, _, h => by cases h
theorem dps_mono {K : PySem.W.Frag} {H H' : Hp} (e : Same H H') : ∀ (ds : List PyData) (vs : List V), DpAll K H vs ds → DpAll K H' vs ds
  | [], _, h => by cases h; exact .nil
  | d :: ds, _, h => by
    cases h with
    | cons h1 h2 => exact .cons (dp_mono e d _ h1) (dps_mono e ds _ h2)
end
theorem dp_up {K : PySem.W.Frag} {H H' : Hp} {d : PyData} {v : V} (h : Dp K H v d) (e : Same H H') : Dp K H' v d := dp_mono e d v h
theorem dps_up {K : PySem.W.Frag} {H H' : Hp} {ds : List PyData} {vs : List V} (h : DpAll K H vs ds) (e : Same H H') : DpAll K H' vs ds := dps_mono e ds vs h
theorem dps_len {K : PySem.W.Frag} {H : Hp} : ∀ {vs : List V} {ds : List PyData}, DpAll K H vs ds → vs.length = ds.length
  | [], [], _ => rfl
  | [], _ :: _, h => by cases h
  | _ :: _, [], h => by cases h
  | _ :: _, _ :: _, h => by
    cases h with
    | cons _ h2 => exact congrArg (· + 1) (dps_len h2)
theorem dps_get {K : PySem.W.Frag} {H : Hp} : ∀ {vs : List V} {ds : List PyData} {i : Nat} {d : PyData}, DpAll K H vs ds → ds[i]? = some d → ∃ v, vs[i]? = some v ∧ Dp K H v d
  | [], [], _, _, _, e => by simp at e
  | [], _ :: _, _, _, h, _ => by cases h
  | _ :: _, [], _, _, h, _ => by cases h
  | v :: vs, x :: ds, 0, d, h, e => by
    cases h with
    | cons h1 _ => simp at e; subst e; exact ⟨v, rfl, h1⟩
  | v :: vs, x :: ds, i + 1, d, h, e => by
    cases h with
    | cons _ h2 => simpa using dps_get (i := i) h2 (by simpa using e)
theorem dps_get' {K : PySem.W.Frag} {H : Hp} {vs : List V} {ds : List PyData} {i : Nat} {v : V} (h : DpAll K H vs ds) (e : vs[i]? = some v) : ∃ d, ds[i]? = some d ∧ Dp K H v d := by
  have hi : i < vs.length := (List.getElem?_eq_some_iff.mp e).1
  have hd : i < ds.length := by rw [← dps_len h]; exact hi
  obtain ⟨w, e2, q⟩ := dps_get (i := i) h (List.getElem?_eq_getElem hd)
  rw [e] at e2; cases e2
  exact ⟨_, List.getElem?_eq_getElem hd, q⟩
theorem dps_app {K : PySem.W.Frag} {H : Hp} : ∀ {vs ws : List V} {ds es : List PyData}, DpAll K H vs ds → DpAll K H ws es → DpAll K H (vs ++ ws) (ds ++ es)
  | [], _, [], _, _, h => h
  | [], _, _ :: _, _, h, _ => by cases h
  | _ :: _, _, [], _, h, _ => by cases h
  | _ :: _, _, _ :: _, _, h, g => by
    cases h with
    | cons h1 h2 => exact .cons h1 (dps_app h2 g)
theorem dps_ints {K : PySem.W.Frag} {H : Hp} : ∀ ns : List Int, DpAll K H (ns.map V.int) (ns.map PyData.int)
  | [] => .nil
  | n :: ns => .cons (.int n) (dps_ints ns)
theorem dps_ints_inv {K : PySem.W.Frag} {H : Hp} : ∀ {ns : List Int} {vs : List V}, DpAll K H vs (ns.map PyData.int) → vs = ns.map V.int
  | [], [], _ => rfl
  | [], _ :: _, h => by cases h
  | _ :: _, [], h => by cases h
  | n :: ns, v :: vs, h => by
    cases h with
    | cons h1 h2 => cases h1; rw [dps_ints_inv h2]; rfl
/-- a list or a tuple of these -/
inductive SeqD : PyData → List PyData → Prop
  | l (ds : List PyData) : SeqD (.list ds) ds
  | t (ds : List PyData) : SeqD (.tuple ds) ds
def Sq (K : PySem.W.Frag) (H : Hp) (a : Addr) (xs : List V) : Prop := SqL K H a xs ∨ SqT K H a xs
theorem sq_mono {K : PySem.W.Frag} {H H' : Hp} {a : Addr} {xs : List V} (e : Same H H') (h : Sq K H a xs) : Sq K H' a xs := by
  rcases h with h | h
  · exact .inl (e.seq h)
  · exact .inr (sqt_mono e h)
theorem dp_seq {K : PySem.W.Frag} {H : Hp} {v : V} {d : PyData} {ds : List PyData} (h : Dp K H v d) (s : SeqD d ds) : ∃ a xs, v = .ref a ∧ Sq K H a xs ∧ DpAll K H xs ds := by
  cases s with
  | l =>
    cases h with
    | lst hs ha => exact ⟨_, _, rfl, .inl hs, ha⟩
  | t =>
    cases h with
    | tup hs ha => exact ⟨_, _, rfl, .inr hs, ha⟩
theorem dp_intv {K : PySem.W.Frag} {H : Hp} {v : V} {i : Int} (h : Dp K H v (.int i)) : v = .int i := by cases h; rfl
theorem ix_of {K : PySem.W.Frag} {H : Hp} {a : Addr} {xs : List V} {i : Int} {v : V} {Q : VK} (h : Sq K H a xs) (e : atI xs i = some v) (q : Q v H) : rIx K (.ref a) (.int i) H Q := by
  rcases h with h | h
  · exact .inl ⟨a, xs, i, v, rfl, rfl, h, e, q⟩
  · exact .inr (.inl ⟨a, xs, i, v, rfl, rfl, h, e, q⟩)
/-! repr of data -/
@[irreducible] def txt (d : PyData) : Str := d.shown
theorem txt_eq (d : PyData) : txt d = d.shown := by unfold txt; rfl
theorem call_reprD {X : Cx} (hG : X.A.guards = some []) (hu : X.A.units + 70 < cLine) :
    CallR X (.builtin "repr") (fun xs H Q => ∃ (a : Addr) (d : PyData), xs = [.ref a] ∧ Dp X.K H (.ref a) d ∧ d.showable = true ∧ d.hasDict = false ∧ d.depth ≤ 60 ∧ d.shown.length ≤ sizeLine ∧ Q (.str (txt d)) H) := by
  intro pins s σ H xs us Q I r h
  obtain ⟨a, d, rfl, hd, h1, h2, h3, h4, q⟩ := h
  rw [txt_eq] at q
  cases r with
  | cons ra rt =>
    cases rt
    obtain ⟨as, rd⟩ := Dp.reads I d (.ref a) _ hd ra
    cases ra
    exact repr_of_reads' rd h1 (PyData.noDict_hsm h2) hG (by omega) (fun _ _ e => e) (fun h' u tk hk => ⟨.str d.shown, H, I.kept hk, ⟨_, rfl⟩, q⟩) h4
end Af
/-! ### defs that are called where nothing is being shown by repr -/
namespace Af
open PySem PySem.Spec PyProof.Rows L2
structure FnG (P : Program) (w : World) (K : PySem.W.Frag) (mg : Str → Option Value) (base : Heap) (k : Nat) (f : Addr) (fd : FuncData) (ps : List Str) (sp : Sp) : Prop where
  len : ∀ vs H Q E, sp vs H Q E → vs.length = ps.length
  run : ∀ (A : Around) (fr : List Env) (s : Shared) (H : Hp) (ar : Args) (us : List Value) (vs : List V) (Q : VK) (E : XK), A.guards = some [] → Room k A → Env0 P w K mg base A fr s H →
    BindsTo s fd ar (ps.zip us) → Vals vs us → sp vs H Q E → codeAny (model P w) A (.call (.ref f) ar) (CR CX0 fr P w H s Q E) s
theorem FnG.of {P : Program} {w : World} {K : PySem.W.Frag} {mg : Str → Option Value} {base : Heap} {k : Nat} {f : Addr} {fd : FuncData} {ps : List Str} {sp : Sp} (F : FnOk P w K mg base CX0 k f fd ps sp) : FnG P w K mg base k f fd ps sp :=
  ⟨F.len, fun A fr s H ar us vs Q E _ hr he hb hv hs => F.run A fr s H ar us vs Q E hr he hb hv hs⟩
section
variable {P : Program} {w : World} {K : PySem.W.Frag} {mg : Str → Option Value} {base : Heap}
theorem fun_okG {x qual : Str} {st : Stmt} {f : Addr} {fd : FuncData} {N ps : List Str} {k : Nat} {sp : Sp} (F : Fun K x qual st f fd) (S : FnScope N ps (defScope st)) (len : ∀ vs H Q E, sp vs H Q E → vs.length = ps.length)
    (hbody : ∀ (cdv : Value) (A : Around) (fr : List Env) (s : Shared) (H : Hp) (vs : List V) (Q : VK) (E : XK), A.guards = some [] → Room k (A.deeper (envOfC qual (defScope st) s.heap.objs.size f cdv)) → sp vs H Q E →
      ∃ t, PSs (cxOf CX0 P w K mg base N qual (defScope st) f cdv A fr s H E).nox (defBody st) t ∧ t { nx := fun _ H' => Q .non H', rt := Q } (start N vs) H) : FnG P w K mg base (k + 1) f fd ps sp := by
  obtain ⟨oc, od, kV, doc, pm, an, cdv, ct, osl, rfl, lk, hcd⟩ := F.ex
  refine ⟨len, fun A fr s H ar us vs Q E hG hr e0 hb r hsp => ?_⟩
  have n1 := len _ _ _ _ hsp
  have kin : K.In s.heap := e0.mod.kin.keeps fun b o e => (e0.bs b o e).1
  have nol : s.heap.NoLimit := e0.mod.nolimit.keeps fun b o e => (e0.bs b o e).1
  have par : ∀ y ∈ ps.zip us, (defScope st).names.lookup y.1 = some .local ∨ ((defScope st).names.lookup y.1 = some .cell ∧ ((cellsFrom (s.heap.objs.size + 1) (defScope st).names []).lookup y.1).isSome = true) := by
    rintro ⟨nm, vl⟩ hm
    rcases S.par nm (List.of_mem_zip hm).1 with z | z
    · exact .inl z
    · exact .inr ⟨z, PySem.W.cellsFrom_some _ _ _ (.inl z)⟩
  refine codeAny_call_function hr.depth (kin _ _ lk) rfl S.co S.gen rfl (PySem.W.codeRec_of kin hcd) (hb _ _ _ _ ?_)
  refine wpAny_newFunctionEnv_cells S.kind par fun env hE s2 ic => ?_
  subst hE
  refine ⟨nol.keeps ic.toInCall.keep, codeAny_func ?_⟩
  obtain ⟨t, ht, hq⟩ := hbody cdv A fr s H vs Q E hG (hr.deeper _) hsp
  have J0 : Inv (cxOf CX0 P w K mg base N qual (defScope st) f cdv A fr s H E) [] (start N vs) H s2 := inv_start S hr.hd e0 n1 r ic
  refine wpAny_mono (ht.nox.run [] s2 (start N vs) H _ J0 hq) (fun fl s' hs => ?_) fun e s' hs => hs
  cases fl with
  | ret u =>
    obtain ⟨v, σ', H', J, rv, q⟩ := hs
    exact ⟨v, H', J.os, J.bare, J.base, J.hok, rv, q⟩
  | next =>
    obtain ⟨σ', H', J, q⟩ := hs
    exact ⟨V.non, H', J.os, J.bare, J.base, J.hok, rfl, q⟩
  | brk => obtain ⟨_, _, _, q⟩ := hs; exact q.elim
  | cont => obtain ⟨_, _, _, q⟩ := hs; exact q.elim
end
section
variable {X : Cx} {k : Nat} {f : Addr} {fd : FuncData} {ps : List Str} {sp : Sp} {x : Str} {p pos : Pos} {e : Expr} {es : List Expr} {t : TA}
theorem pe_guarded (F : FnG X.prog X.w X.K X.mg X.base k f fd ps sp) (hG : X.A.guards = some []) (hr : Room k X.A) (hg : Gl X x) (hm : X.mg x = some (.ref f)) (hk : PySem.W.keepIn X.K (.ref f) = true) (hb : Binds X.K fd ps [])
    (ha : PA X (e :: es) t) (hdb : (x == ("__debug__" : Str)) = false := by decide) (he : starEach (e :: es) X.env = (false, eval e X.env) :: starEach es X.env := by rfl) (hpl : (backTo pos (starEach es X.env)).any (·.1) = false := by rfl) :
    PE X (.Call (.Name x p) (e :: es) [] pos) (tCall sp [] E0 t) := by
  refine ⟨fun pn s σ H Q I h => wpAny_Call_Name_kw (ld_glob I hg hm ?_ hdb)⟩
  refine PySem.W.callWith_K (h₀ := X.base) I.ok.mod.kin hk (thn (ha.run pos pn s σ H _ I h) fun us s1 ⟨vs, H1, I1, r, q⟩ => ⟨I1.kIn, ?_⟩) he hpl
  have q' : sp (vs ++ []) H1 Q E0 := q
  rw [List.append_nil] at q'
  have n1 : (us ++ ([] : List Value)).length = ps.length := by rw [List.append_nil, ← r.length]; exact F.len _ _ _ _ q'
  have bnd := hb s1 us I1.kIn n1
  rw [List.append_nil] at bnd
  refine wpAny_call (codeAny_mono (F.run X.A X.stack s1 H1 ⟨us, []⟩ us vs Q E0 hG hr I1.env0 bnd r q') fun r s' hq => ?_)
  cases r with
  | error e => exact False.elim hq
  | ok fl =>
    cases fl with
    | ret u => exact I1.after hq
    | next => exact hq.elim
    | brk => exact hq.elim
    | cont => exact hq.elim
end
/-- the law's own call, where its def wants no guard -/
theorem law_callG {P : Program} {w : World} {K : PySem.W.Frag} {mg mb : Str → Option Value} {k : Nat} {fa a : Addr} {fd : FuncData} {x : Str} {sp : Sp} {s1 : Shared} {vs : List Value} {ns : List Int}
    (KX : K.In s1.heap) (hns : s1.heap.Ns mainGlobals mg) (hb : s1.heap.Ns builtinsNs mb) (hbb : ∀ x : Str, x ≠ "__name__" → mb x = bootBuiltins x) (hlim : s1.heap.NoLimit) (hg : s1.gens = #[])
    (ha : s1.heap.get? a = some { cls := .type "list", data := .seq vs.toArray }) (hi : IntsAre vs ns) (hl : ns.length ≤ sizeLine) (hr : Room k callerA)
    (F : ∀ base : Heap, K.In base → base.Ns mainGlobals mg → FnG P w K mg base k fa fd [x] sp) (hbind : ∀ (s : Shared) (u : Value), BindsTo s fd ⟨[u], []⟩ [(x, u)])
    (hsp : ∀ H : Hp, Only H → SqL K H a (ns.map V.int) → sp [.ref a] H (fun v _ => v = .bl true) fun _ _ _ => False) :
    codeAny (model P w) callerA (.call (.ref fa) ⟨[.ref a], []⟩) (fun r s' => r = .ok (.ret (.bool true)) ∧ OldK s1.heap s'.heap ∧ s'.os = s1.os ∧ AllBare s'.gens) s1 := by
  have rv := vals_ints hi
  have ln := hi.length
  have main : ∀ H : Hp, Only H → SqL K H a (ns.map V.int) → HOk P w H s1.heap → (∀ b, H b ≠ none → b = a) → (H a ≠ none → K.lookup a = none) →
      codeAny (model P w) callerA (.call (.ref fa) ⟨[.ref a], []⟩) (fun r s' => r = .ok (.ret (.bool true)) ∧ OldK s1.heap s'.heap ∧ s'.os = s1.os ∧ AllBare s'.gens) s1 := by
    intro H hO hS hok hA hK
    have nodict : ∀ {b : Addr} {o : Obj} {es : Array DictEntry} {ep : Nat}, s1.heap.get? b = some o → o.data = .dict es ep → H b = none := by
      intro b o es ep e d
      cases q : H b with
      | none => rfl
      | some u =>
        obtain rfl : b = a := hA b (by rw [q]; simp)
        rw [ha] at e; cases e
        exact absurd (show Data.seq vs.toArray _ = Data.dict es ep from d) (fun z => by cases z)
    have ns2 : ∀ {b : Addr} {m : Str → Option Value}, s1.heap.Ns b m → (hidT s1.heap H).Ns b m := by
      rintro b m ⟨o, es, ep, e, d, r⟩
      exact ⟨o, es, ep, hidT_get e (nodict e d), d, r⟩
    have kb : K.In (hidT s1.heap H) := fun b o e => hidT_get (KX b o e) (by
      cases q : H b with
      | none => rfl
      | some u =>
        obtain rfl : b = a := hA b (by rw [q]; simp)
        have z := hK (by rw [q]; simp)
        rw [z] at e; cases e)
    have md : Mod K mg (hidT s1.heap H) := ⟨kb, ns2 hns, ⟨mb, ns2 hb, hbb⟩, let ⟨mc, g1, g2⟩ := hlim; ⟨mc, ns2 g1, g2⟩⟩
    have ev : Env0 P w K mg (hidT s1.heap H) callerA [] s1 H :=
      ⟨rfl, md, fun b o e => of_hidT e, Nat.le_of_eq (hidT_size _ _), trivial, fun b z => absurd (show b ∈ ([] : List Addr) from z) (by simp), hok, .of_eq hg⟩
    have G := F _ kb (ns2 hns)
    refine codeAny_mono (G.run callerA [] s1 H ⟨[.ref a], []⟩ [.ref a] [.ref a] _ _ rfl hr ev (hbind s1 (.ref a)) (.cons rfl .nil) (hsp H hO hS)) fun r s' h => ?_
    cases r with
    | error e => exact False.elim h
    | ok fl =>
      cases fl with
      | next => exact h.elim
      | brk => exact h.elim
      | cont => exact h.elim
      | ret u =>
        obtain ⟨v, H', os, bare, un, hok', r', q⟩ := h
        obtain rfl : v = .bl true := q
        obtain rfl : u = Value.bool true := r'
        refine ⟨rfl, OldK.of_keep fun b o e => ?_, os, bare⟩
        cases q : H b with
        | none => exact un.keep b o e q (fun z => absurd (show b ∈ ([] : List Addr) from z) (by simp)) (by simp)
        | some u =>
          rcases hO b with z | ⟨ob, xs, z⟩
          · rw [q] at z; cases z
          · obtain ⟨e1, _⟩ := hok b _ z
            obtain ⟨e2, _⟩ := hok' b _ (un.frzs b ob _ z)
            rw [e] at e1; cases e1
            exact e2
  cases hk : K.lookup a with
  | some o =>
    have e := KX a o hk
    rw [ha] at e
    cases e
    exact main (fun _ => none) (fun _ => .inl rfl) (.inr ⟨_, vs.toArray, _, hk, rfl, rfl, rfl, by rw [List.size_toArray, ln]; exact hl, by simpa using rv⟩)
      (fun b u z => nomatch (show (none : Option HO) = some u from z)) (fun b z => absurd rfl z) fun z => absurd rfl z
  | none =>
    have hh : ∀ b : Addr, (if b = a then some (HO.frz { cls := .type "list", data := .seq vs.toArray } (.lst (ns.map V.int))) else none) ≠ none → b = a := fun b z => by
      by_cases hb : b = a
      · exact hb
      · rw [if_neg hb] at z; exact absurd rfl z
    refine main (fun b => if b = a then some (.frz { cls := .type "list", data := .seq vs.toArray } (.lst (ns.map V.int))) else none) (fun b => ?_) (.inl (.inr ⟨_, if_pos rfl⟩)) (fun b u z => ?_) hh fun _ => hk
    · by_cases hb : b = a
      · exact .inr ⟨_, _, if_pos hb⟩
      · exact .inl (if_neg hb)
    · have z' : (if b = a then some (HO.frz { cls := .type "list", data := .seq vs.toArray } (.lst (ns.map V.int))) else none) = some u := z
      have hb : b = a := hh b (by rw [z']; simp)
      subst hb
      rw [if_pos rfl] at z'
      cases z'
      exact ⟨ha, by rw [List.length_map]; exact hl, vs, _, rv, ha⟩
theorem walk_ofG {l : PySem.W.OpenLaw} {n k : Nat} {q : Program} {loose : List Str} {XP : (Str → Option Value) → Heap → Prop} {YP : World → Heap → Prop} {d : DefRec} {K : Params → PySem.W.Frag} {sp : PySem.W.Frag → Sp} {x : Str}
    (hn : l.most = some n) (hn2 : n ≤ sizeLine) (hdf : d.params.defaults = []) (hr : Room k callerA)
    (hY : ∀ (w : World) (h : Heap), YP w h → (K w.params).In h)
    (F : ∀ (w : World) (mg : Str → Option Value) (fa : Addr) (h : Heap), (K w.params).In h → h.Ns mainGlobals mg → mg d.name = some (.ref fa) →
      ∃ fd : FuncData, (∀ (s : Shared) (u : Value), BindsTo s fd ⟨[u], []⟩ [(x, u)]) ∧
        ∀ base : Heap, (K w.params).In base → base.Ns mainGlobals mg → FnG l.prog w (K w.params) mg base k fa fd [x] (sp (K w.params)))
    (hsp : ∀ (K : PySem.W.Frag) (H : Hp) (a : Addr) (ns : List Int), ns.length ≤ n → Only H → SqL K H a (ns.map V.int) → sp K [.ref a] H (fun v _ => v = .bl true) fun _ _ _ => False) :
    PySem.W.WalkO q loose XP YP l.row.toRowW d [] (fun f vs => PySem.call f vs) := by
  refine Att.attach_call hn hdf fun w s0 s1 mg mb fa o pm cd doc a vs ns G Y ho hd hcd hmg hobj hints hlen hg => ?_
  obtain ⟨fd, hb, hF⟩ := F w mg fa _ (hY w _ Y) G.T.g hmg
  exact law_callG (hY w _ Y) G.T.g G.T.b G.T.builtins G.T.nolimit hg hobj hints (Nat.le_trans hlen hn2) hr hF hb fun H hO hS => hsp (K w.params) H a ns hlen hO hS
end Af
/-! ### books, standings as data -/
namespace Af
open PySem PySem.Spec PyProof.Rows L2
def RowD (d : PyData) (ns : List Int) : Prop := SeqD d (ns.map PyData.int)
inductive RowsD : List PyData → List (List Int) → Prop
  | nil : RowsD [] []
  | cons {d : PyData} {ds : List PyData} {ns : List Int} {B : List (List Int)} : RowD d ns → RowsD ds B → RowsD (d :: ds) (ns :: B)
def BookD (d : PyData) (B : List (List Int)) : Prop := ∃ ds, SeqD d ds ∧ RowsD ds B
def rowT (ns : List Int) : PyData := .tuple (ns.map PyData.int)
def rowL (ns : List Int) : PyData := .list (ns.map PyData.int)
def bookT (B : List (List Int)) : PyData := .tuple (B.map rowT)
def bookL (B : List (List Int)) : PyData := .list (B.map rowL)
theorem rowT_row (ns : List Int) : RowD (rowT ns) ns := .t _
theorem rowL_row (ns : List Int) : RowD (rowL ns) ns := .l _
theorem rowsT : ∀ B : List (List Int), RowsD (B.map rowT) B
  | [] => .nil
  | r :: B => .cons (rowT_row r) (rowsT B)
theorem rowsL : ∀ B : List (List Int), RowsD (B.map rowL) B
  | [] => .nil
  | r :: B => .cons (rowL_row r) (rowsL B)
theorem bookT_book (B : List (List Int)) : BookD (bookT B) B := ⟨_, .t _, rowsT B⟩
theorem bookL_book (B : List (List Int)) : BookD (bookL B) B := ⟨_, .l _, rowsL B⟩
theorem rows_len : ∀ {ds : List PyData} {B : List (List Int)}, RowsD ds B → ds.length = B.length
  | [], [], _ => rfl
  | [], _ :: _, h => by cases h
  | _ :: _, [], h => by cases h
  | _ :: _, _ :: _, h => by
    cases h with
    | cons _ h => exact congrArg (· + 1) (rows_len h)
theorem rows_get : ∀ {ds : List PyData} {B : List (List Int)} {i : Nat} {ns : List Int}, RowsD ds B → B[i]? = some ns → ∃ d, ds[i]? = some d ∧ RowD d ns
  | [], [], _, _, _, e => by simp at e
  | [], _ :: _, _, _, h, _ => by cases h
  | _ :: _, [], _, _, h, _ => by cases h
  | d :: ds, r :: B, 0, ns, h, e => by
    cases h with
    | cons h1 _ => simp at e; subst e; exact ⟨d, rfl, h1⟩
  | d :: ds, r :: B, i + 1, ns, h, e => by
    cases h with
    | cons _ h2 => simpa using rows_get (i := i) h2 (by simpa using e)
section
variable {K : PySem.W.Frag} {H : Hp}
theorem row_at {v : V} {d : PyData} {ns : List Int} (h : Dp K H v d) (r : RowD d ns) : ∃ a, v = .ref a ∧ Sq K H a (ns.map V.int) := by
  obtain ⟨a, xs, rfl, hs, ha⟩ := dp_seq h r
  rw [dps_ints_inv ha] at hs
  exact ⟨a, rfl, hs⟩
theorem book_len {v : V} {d : PyData} {B : List (List Int)} (h : Dp K H v d) (r : BookD d B) : ∃ a xs, v = .ref a ∧ Sq K H a xs ∧ xs.length = B.length := by
  obtain ⟨ds, s, rs⟩ := r
  obtain ⟨a, xs, rfl, hs, ha⟩ := dp_seq h s
  exact ⟨a, xs, rfl, hs, (dps_len ha).trans (rows_len rs)⟩
theorem book_row {v : V} {d : PyData} {B : List (List Int)} {i : Nat} {ns : List Int} (h : Dp K H v d) (r : BookD d B) (e : B[i]? = some ns) :
    ∃ a xs ra, v = .ref a ∧ Sq K H a xs ∧ xs[i]? = some (.ref ra) ∧ Sq K H ra (ns.map V.int) := by
  obtain ⟨ds, s, rs⟩ := r
  obtain ⟨a, xs, rfl, hs, ha⟩ := dp_seq h s
  obtain ⟨dr, e1, r1⟩ := rows_get rs e
  obtain ⟨x, e2, h2⟩ := dps_get ha e1
  obtain ⟨ra, rfl, h3⟩ := row_at h2 r1
  exact ⟨a, xs, ra, rfl, hs, e2, h3⟩
end
/-- the length of climber c's ladder -/
def lenS (B : List (List Int)) (R : List Int) (c : Nat) : Option Int := (B[c + 1]?).bind fun row => (R[c]?).bind fun r => if 1 ≤ r then row[(r - 1).toNat]? else none
def lenAt (B : List (List Int)) (R : List Int) : Nat → Option Int
  | 0 => (B[0]?).bind fun row => row[0]?
  | c + 1 => lenS B R c
theorem lenAt_zero {B : List (List Int)} {R : List Int} {n : Int} (h : lenAt B R 0 = some n) : ∃ row, B[0]? = some row ∧ row[0]? = some n := by
  have h : ((B[0]?).bind fun row => row[0]?) = some n := h
  cases e : B[0]? with
  | none => rw [e] at h; cases h
  | some row => rw [e] at h; exact ⟨row, rfl, h⟩
theorem lenAt_succ {B : List (List Int)} {R : List Int} {c : Nat} {n : Int} (h : lenAt B R (c + 1) = some n) : ∃ row r, B[c + 1]? = some row ∧ R[c]? = some r ∧ 1 ≤ r ∧ row[(r - 1).toNat]? = some n := by
  have h : lenS B R c = some n := h
  unfold lenS at h
  cases e : B[c + 1]? with
  | none => rw [e] at h; cases h
  | some row =>
    rw [e] at h
    cases e2 : R[c]? with
    | none => rw [e2] at h; cases h
    | some r =>
      rw [e2] at h
      have h' : (if 1 ≤ r then row[(r - 1).toNat]? else none) = some n := h
      by_cases h1 : 1 ≤ r
      · rw [if_pos h1] at h'; exact ⟨row, r, rfl, rfl, h1, h'⟩
      · rw [if_neg h1] at h'; cases h'
theorem lenAt_mk {B : List (List Int)} {R : List Int} {c : Nat} {row : List Int} {r n : Int} (e1 : B[c + 1]? = some row) (e2 : R[c]? = some r) (h1 : 1 ≤ r) (e3 : row[(r - 1).toNat]? = some n) : lenAt B R (c + 1) = some n := by
  show lenS B R c = some n
  unfold lenS
  rw [e1, e2]
  show (if 1 ≤ r then row[(r - 1).toNat]? else none) = some n
  rw [if_pos h1]; exact e3
/-- it hangs on the rungs of the older ones alone -/
theorem lenAt_pre {B : List (List Int)} {R S : List Int} {c : Nat} (h : ∀ i, i < c → R[i]? = S[i]?) : lenAt B R c = lenAt B S c := by
  cases c with
  | zero => rfl
  | succ c =>
    show lenS B R c = lenS B S c
    unfold lenS; rw [h c (Nat.lt_succ_self c)]
/-! a box of the draws -/
def Box (H : Hp) (bx : Addr) (m : Nat) : Prop := ∃ a b c : Int, H bx = some (.lst [.int a, .int b, .int c]) ∧ 0 ≤ a ∧ 0 ≤ b ∧ b < 2 ^ 62 ∧ 0 ≤ c ∧ c ≤ m
theorem Box.le {H : Hp} {bx : Addr} {m n : Nat} (h : Box H bx m) (e : m ≤ n) : Box H bx n := by
  obtain ⟨a, b, c, h1, h2, h3, h4, h5, h6⟩ := h
  exact ⟨a, b, c, h1, h2, h3, h4, h5, by omega⟩
theorem Box.new {H : Hp} {bx p : Addr} {m : Nat} {o : HO} (h : Box H bx m) (np : H p = none) : Box (upd H p o) bx m := by
  obtain ⟨a, b, c, h1, h2⟩ := h
  exact ⟨a, b, c, by rw [upd_ne (ne_of_none h1 np)]; exact h1, h2⟩
theorem Box.up {H H' : Hp} {bx : Addr} {m : Nat} (h : Box H bx m) (s : Same H H') : Box H' bx m := by
  obtain ⟨a, b, c, h1, h2⟩ := h
  exact ⟨a, b, c, s _ _ h1, h2⟩
theorem Box.ne {H : Hp} {bx p : Addr} {m : Nat} (h : Box H bx m) (np : H p = none) : p ≠ bx := by
  obtain ⟨a, b, c, h1, _⟩ := h
  exact (ne_of_none h1 np).symm
theorem Box.neT {H : Hp} {bx p : Addr} {m : Nat} {xs : List V} (h : Box H bx m) (np : H p = some (.tup xs)) : p ≠ bx := by
  obtain ⟨a, b, c, h1, _⟩ := h
  intro e; subst e; rw [np] at h1; cases h1
/-! max of a tuple of ints -/
theorem depth_ints : ∀ ns : List Int, PyData.depthAll (ns.map PyData.int) = 0
  | [] => by simp [PyData.depthAll]
  | n :: ns => by simp [PyData.depthAll, PyData.depth, depth_ints ns]
theorem cr_maxT {X : Cx} (hc : X.calm = true) (hu : X.A.units + 64 < cLine) :
    CallR X (.builtin "max") (fun vs H Q => ∃ (a : Addr) (n : Int) (ns : List Int), vs = [.ref a] ∧ SqT X.K H a ((n :: ns).map V.int) ∧ Q (.int (ns.foldl max n)) H) := by
  intro pins s σ H vs us Q I r h
  obtain ⟨a, n, ns, rfl, hs, q⟩ := h
  obtain ⟨its, rv, ⟨o, ho, hc2, nn, hd⟩, _⟩ := I.tuple hs
  obtain ⟨as, rs⟩ := Dp.readsAll I ((n :: ns).map PyData.int) _ its (dps_ints (n :: ns)) rv
  rw [Vals.ref1 r]
  refine PySem.W.max_tuple_data (x := .int n) (xs := ns.map PyData.int) (vs := its.toArray) (I.ok.hd hc) ⟨o, ho, hc2, nn, hd⟩ (by simpa using rs) ?_ ?_ fun i v h' tk bs hi rr hk => ?_
  · refine ⟨fun x hx y hy => ?_, fun x hx => ?_⟩
    · obtain ⟨i, _, rfl⟩ := List.mem_map.mp (show x ∈ (n :: ns).map PyData.int from hx)
      obtain ⟨j, _, rfl⟩ := List.mem_map.mp (show y ∈ (n :: ns).map PyData.int from hy)
      simp only [PySem.W.alike]
    · obtain ⟨i, _, rfl⟩ := List.mem_map.mp (show x ∈ (n :: ns).map PyData.int from hx)
      exact fun z => by cases z
  · have e : PyData.depthAll ((n :: ns).map PyData.int) = 0 := depth_ints _
    have e2 : PyData.depthAll (.int n :: ns.map PyData.int) = 0 := e
    rw [e2]; omega
  · rw [PySem.W.maxD_ints] at rr
    cases rr
    exact ⟨.int _, H, I.kept hk, ⟨_, rfl⟩, q⟩
end Af
/-! ### built-in names, defs, calls -/
namespace Af
open PySem PySem.Spec PyProof.Rows L2
/-- the built-in names are still the built-in ones -/
structure Bl (mg : Str → Option Value) : Prop where
  len : mg "len" = none
  abs : mg "abs" = none
  int : mg "int" = none
  bool : mg "bool" = none
  str : mg "str" = none
  range : mg "range" = none
  list : mg "list" = none
  tuple : mg "tuple" = none
  isi : mg "isinstance" = none
  all : mg "all" = none
  zip : mg "zip" = none
  enum : mg "enumerate" = none
  max : mg "max" = none
  repr : mg "repr" = none
/-- a def of the top: where it stands, how it is bound -/
structure Df (K : PySem.W.Frag) (mg : Str → Option Value) (x : Str) (st : Stmt) (ps : List Str) (f : Addr) (fd : FuncData) : Prop where
  F : Fun K x x st f fd
  b : Binds K fd ps []
  g : mg x = some (.ref f)
section
variable {X : Cx} {k : Nat} {f : Addr} {fd : FuncData} {ps ks : List Str} {sp : Sp} {x : Str} {st : Stmt} {p pos : Pos} {e : Expr} {es : List Expr} {kws : List Keyword} {t tk : TA}
theorem pe_do (D : Df X.K X.mg x st ps f fd) (G : FnOk X.prog X.w X.K X.mg X.base CX0 k f fd ps sp) (hr : Room k X.A) (hg : Gl X x) (ha : PA X (e :: es) t) (hdb : (x == ("__debug__" : Str)) = false := by decide)
    (he : starEach (e :: es) X.env = (false, eval e X.env) :: starEach es X.env := by rfl) (hpl : (backTo pos (starEach es X.env)).any (·.1) = false := by rfl) : PE X (.Call (.Name x p) (e :: es) [] pos) (tCall sp [] E0 t) :=
  pe_call G hr hg D.g D.F.kp D.b .nil pass0 ha hdb he hpl
theorem pe_do0 (D : Df X.K X.mg x st ps f fd) (G : FnOk X.prog X.w X.K X.mg X.base CX0 k f fd ps sp) (hr : Room k X.A) (hg : Gl X x) (hdb : (x == ("__debug__" : Str)) = false := by decide) : PE X (.Call (.Name x p) [] [] pos) (tCall sp [] E0 tNil) :=
  pe_call0 G hr hg D.g D.F.kp D.b .nil pass0 hdb
/-- keywords alone, in the parameters' order turned round -/
def gR (us ws : List Value) : List Value := if us.isEmpty then ws.reverse else []
def gVR (us ws : List V) : List V := if us.isEmpty then ws.reverse else []
theorem vals_rev : ∀ {zs : List V} {ws : List Value}, Vals zs ws → Vals zs.reverse ws.reverse
  | _, _, .nil => .nil
  | _, _, .cons r t => by
    rw [List.reverse_cons, List.reverse_cons]
    exact (vals_rev t).append (.cons r .nil)
theorem kbinds {K : PySem.W.Frag} (F : Fun K x x st f fd) (hp : ps ≠ [])
    (h : ∀ (kV doc pm : Value) (an : Option Addr) (cdv ct : Value) (ws : List Value), ws.length = ps.length → bindArgs (PySem.W.fnOf x x (defArgs st) (defBody st) (defScope st) .none kV doc pm an cdv ct) ⟨[], ks.zip ws⟩ = pure (ps.zip ws.reverse)) : KBinds K fd ps ks gR gVR := by
  obtain ⟨oc, od, kV, doc, pm, an, cdv, ct, osl, rfl, lk, hcd⟩ := F.ex
  refine ⟨fun s us ws _ hl => ?_, fun {vs us zs ws} r1 r2 => ?_⟩
  · cases us with
    | nil =>
      have hl' : ws.length = ps.length := by
        have z : ws.reverse.length = ps.length := hl
        rw [List.length_reverse] at z; exact z
      exact .of_eq (h kV doc pm an cdv ct ws hl')
    | cons u us =>
      have z : ([] : List Value).length = ps.length := hl
      exact absurd (List.eq_nil_of_length_eq_zero z.symm) hp
  · cases r1 with
    | nil => exact vals_rev r2
    | cons _ _ => exact .nil
theorem pe_kw (D : Df X.K X.mg x st ps f fd) (G : FnOk X.prog X.w X.K X.mg X.base CX0 k f fd ps sp) (hr : Room k X.A) (hg : Gl X x) (hb : KBinds X.K fd ps ks gR gVR) (hkw : PK X kws tk)
    (hall : (backToKw pos (keywordEach kws X.env)).all (·.1.isSome) = true := by rfl) (hks : (backToKw pos (keywordEach kws X.env)).filterMap (·.1) = ks := by rfl) (hdb : (x == ("__debug__" : Str)) = false := by decide)
    (hpl : ((backTo pos (starEach [] X.env)).any (·.1) || (backToKw pos (keywordEach kws X.env)).any (·.1.isNone)) = false := by rfl) : PE X (.Call (.Name x p) [] kws pos) (tCallK sp gVR E0 tNil tk) := by
  refine ⟨fun pins s σ H Q I h => wpAny_Call_Name_kw (ld_glob I hg D.g ?_ hdb)⟩
  refine PySem.W.callWith_KW0 (h₀ := X.base) I.ok.mod.kin D.F.kp hall (thn (hkw.run pos pins s σ H _ I h) fun ws s2 ⟨zs, H2, I2, rz, q2⟩ => ⟨I2.kIn, ?_⟩) hpl
  rw [hks]
  exact run_fnk (us := []) (vs := []) G hr hb pass0 I2 .nil rz q2
end
theorem bLen : bootBuiltins "len" = some (.builtin "len") := by decide +kernel
theorem bAbs : bootBuiltins "abs" = some (.builtin "abs") := by decide +kernel
theorem bInt : bootBuiltins "int" = some (.type "int") := by decide +kernel
theorem bStr : bootBuiltins "str" = some (.type "str") := by decide +kernel
theorem bBool : bootBuiltins "bool" = some (.type "bool") := by decide +kernel
theorem bList : bootBuiltins "list" = some (.type "list") := by decide +kernel
theorem bTuple : bootBuiltins "tuple" = some (.type "tuple") := by decide +kernel
theorem bIsi : bootBuiltins "isinstance" = some (.builtin "isinstance") := by decide +kernel
theorem bAll : bootBuiltins "all" = some (.builtin "all") := by decide +kernel
theorem bMax : bootBuiltins "max" = some (.builtin "max") := by decide +kernel
theorem bRepr : bootBuiltins "repr" = some (.builtin "repr") := by decide +kernel
end Af
/-! ### isinstance, sizes of data -/
namespace Af
open PySem PySem.Spec PyProof.Rows L2
def tyN : PyData → String
  | .none => "NoneType"
  | .bool _ => "bool"
  | .int _ => "int"
  | .str _ => "str"
  | .list _ => "list"
  | .tuple _ => "tuple"
  | .dict _ => "dict"
section
variable {K : PySem.W.Frag} {H : Hp}
theorem tyx_list {a : Addr} {xs : List V} (h : SqL K H a xs) : TyX K H (.ref a) (.type "list") := by
  rcases h with (h | ⟨o, h⟩) | ⟨o, _, _, h, c, _⟩
  · exact .base (.lst h)
  · exact .base (.frz h)
  · exact .kList h c
theorem tyx_tup {a : Addr} {xs : List V} (h : SqT K H a xs) : TyX K H (.ref a) (.type "tuple") := by
  rcases h with (h | ⟨o, h⟩) | ⟨o, _, _, h, c, _⟩
  · exact .base (.tup h)
  · exact .fTuple h
  · exact .kTuple h c
theorem tyx_of {v : V} {d : PyData} (h : Dp K H v d) : TyX K H v (.type (tyN d)) := by
  cases h with
  | non => exact .base .non
  | bl b => exact .base (.bl b)
  | int i => exact .base (.int i)
  | str x => exact .base (.str x)
  | lst h _ => exact tyx_list h
  | tup h _ => exact tyx_tup h
theorem kit2 {a b1 b2 : String} {r1 r2 : Bool} (h1 : kitB a b1 = some r1) (h2 : kitB a b2 = some r2) : PySem.W.kitAny K (.type a) [.type b1, .type b2] = some (r1 || r2) := by
  refine kitAny_cons (kit_ty h1) (fun e => kitAny_cons (kit_ty h2) (fun e2 => ?_) fun e2 => ?_) fun e => ?_
  · rw [e, e2]; exact kitAny_nil
  · rw [e, e2]; rfl
  · rw [e]; rfl
end
/-- isinstance of data against a built-in class of the six -/
def isD (d : PyData) (T : String) : Bool := (tyN d == T) || (tyN d == "bool" && T == "int")
def six : List String := ["NoneType", "bool", "int", "str", "list", "tuple"]
theorem kit_six : ∀ a ∈ six, ∀ b ∈ ["bool", "int", "str", "list", "tuple"], kitB a b = some ((a == b) || (a == "bool" && b == "int")) := by decide +kernel
theorem tyN_six {K : PySem.W.Frag} {H : Hp} {v : V} {d : PyData} (h : Dp K H v d) : tyN d ∈ six := by
  cases h <;> simp [tyN, six]
theorem kit_is {K : PySem.W.Frag} {H : Hp} {v : V} {d : PyData} {T : String} (h : Dp K H v d) (hT : T ∈ ["bool", "int", "str", "list", "tuple"]) : kitB (tyN d) T = some (isD d T) := kit_six _ (tyN_six h) T hT
def five : List String := ["bool", "int", "str", "list", "tuple"]
theorem call_isD {X : Cx} : CallR X (.builtin "isinstance") (fun xs H Q => ∃ (v : V) (c : String) (d : PyData), xs = [v, .ty c] ∧ c ∈ five ∧ Dp X.K H v d ∧ Q (.bl (isD d c)) H) := by
  intro pins s σ H xs us Q I r h
  obtain ⟨v, c, d, rfl, hc, hd, q⟩ := h
  exact call_isi pins s σ H _ us Q I r ⟨v, .ty c, _, _, _, rfl, .ty c, tyx_of hd, kit_ty (kit_is hd hc), q⟩
theorem call_isD2 {X : Cx} : CallR X (.builtin "isinstance") (fun xs H Q => ∃ (v : V) (tp : Addr) (c1 c2 : String) (d : PyData), xs = [v, .ref tp] ∧ H tp = some (.tup [.ty c1, .ty c2]) ∧ c1 ∈ five ∧ c2 ∈ five ∧ Dp X.K H v d ∧ Q (.bl (isD d c1 || isD d c2)) H) := by
  intro pins s σ H xs us Q I r h
  obtain ⟨v, tp, c1, c2, d, rfl, ht, h1, h2, hd, q⟩ := h
  exact call_isiT pins s σ H _ us Q I r ⟨v, tp, _, _, _, _, rfl, ht, .cons (.ty c1) (.cons (.ty c2) .nil), tyx_of hd, kit2 (kit_is hd h1) (kit_is hd h2), q⟩
/-- sizes -/
theorem bulk_len : ∀ ds : List PyData, ds.length ≤ PyData.bulkAll ds
  | [] => by simp
  | d :: ds => by have := bulk_len ds; simp only [PyData.bulkAll, List.length_cons]; omega
theorem bulk_mem : ∀ {ds : List PyData} {d : PyData}, d ∈ ds → d.bulk + 1 ≤ PyData.bulkAll ds
  | [], _, h => by cases h
  | x :: ds, d, h => by
    simp only [PyData.bulkAll]
    rcases List.mem_cons.mp h with rfl | h
    · omega
    · have := bulk_mem h; omega
theorem depth_mem : ∀ {ds : List PyData} {d : PyData}, d ∈ ds → d.depth ≤ PyData.depthAll ds
  | [], _, h => by cases h
  | x :: ds, d, h => by
    simp only [PyData.depthAll]
    rcases List.mem_cons.mp h with rfl | h
    · omega
    · have := depth_mem h; omega
end Af
/-! ### a list or a tuple, walked; what is new -/
namespace Af
open PySem PySem.Spec PyProof.Rows L2
def SqB (K : PySem.W.Frag) : Bool → Hp → Addr → List V → Prop
  | true, H, a, xs => SqL K H a xs
  | false, H, a, xs => SqT K H a xs
theorem SqB.up {K : PySem.W.Frag} {H H' : Hp} {a : Addr} {xs : List V} {b : Bool} (h : SqB K b H a xs) (s : Same H H') : SqB K b H' a xs := by
  cases b with
  | true => exact s.seq h
  | false => exact sqt_mono s h
theorem SqB.sq {K : PySem.W.Frag} {H : Hp} {a : Addr} {xs : List V} {b : Bool} (h : SqB K b H a xs) : Sq K H a xs := by
  cases b with
  | true => exact .inl h
  | false => exact .inr h
theorem Sq.kind {K : PySem.W.Frag} {H : Hp} {a : Addr} {xs : List V} (h : Sq K H a xs) : ∃ b, SqB K b H a xs := by
  rcases h with h | h
  · exact ⟨true, h⟩
  · exact ⟨false, h⟩
def iSeq (K : PySem.W.Frag) (tl : TE) : TI := fun σ H R => tl σ H fun x H1 => ∃ (a : Addr) (xs : List V) (b : Bool), x = .ref a ∧ SqB K b H1 a xs ∧ ∀ J, Walk J xs.length (fun H => SqB K b H a xs) (YAt xs) → R J H1
theorem pi_seq {X : Cx} {tg l : Expr} {tl : TE} (hl : PE X l tl) : PI X tg l (iSeq X.K tl) := by
  refine ⟨fun pins s σ H R I h => thn (hl.run pins s σ H _ I h) fun v s1 ⟨x, H1, I1, r1, q1⟩ => ?_⟩
  obtain ⟨a, xs, b, rfl, hq, q⟩ := q1
  cases r1
  have fr : ∀ c ∈ [s1.heap.objs.size], FpOk X pins H1 c := fun c hc => by
    obtain rfl : c = s1.heap.objs.size := by simpa using hc
    exact I1.fpOk (Nat.le_refl _) (I1.hok.fresh (Nat.le_refl _))
  cases b with
  | true =>
    obtain ⟨its, rv, pl, _⟩ := I1.list (show SqL X.K H1 a xs from hq)
    exact wpAny_pyIter_list pl.isList ⟨s1.heap.objs.size, [s1.heap.objs.size], _, _, H1, rfl, I1.kept (t' := s1.toks) fun b o e => Heap.get?_push_of_some _ e, turn_list a _, ⟨_, Heap.get?_push_size _ rfl, rfl, rfl⟩, fr, q _ walk_list⟩
  | false =>
    obtain ⟨its, rv, pl, _⟩ := I1.tuple (show SqT X.K H1 a xs from hq)
    exact wpAny_pyIter_tuple (show s1.heap.IsTuple a its.toArray from pl) ⟨s1.heap.objs.size, [s1.heap.objs.size], _, _, H1, rfl, I1.kept (t' := s1.toks) fun b o e => Heap.get?_push_of_some _ e, turn_tuple a _, ⟨_, Heap.get?_push_size _ rfl, rfl, rfl⟩, fr, q _ walk_tup⟩
/-- what was laid since H -/
def fresh (H H' : Hp) : Hp := fun a => match H a with
  | none => H' a
  | some _ => none
theorem fresh_at {H H' : Hp} {a : Addr} (h : H a = none) : fresh H H' a = H' a := by unfold fresh; rw [h]
theorem fresh_inv {H H' : Hp} {a : Addr} {o : HO} (h : fresh H H' a = some o) : H a = none ∧ H' a = some o := by
  unfold fresh at h
  cases e : H a with
  | none => rw [e] at h; exact ⟨rfl, h⟩
  | some x => rw [e] at h; cases h
theorem fresh_le {H H' : Hp} : Same (fresh H H') H' := fun a o e => (fresh_inv e).2
theorem fresh_up {H H1 H2 : Hp} (s : Same H1 H2) : Same (fresh H H1) (fresh H H2) := fun a o e => by
  obtain ⟨h1, h2⟩ := fresh_inv e
  rw [fresh_at h1]; exact s _ _ h2
theorem fresh_down {H0 H H1 : Hp} (s : Same H0 H) : Same (fresh H H1) (fresh H0 H1) := fun a o e => by
  obtain ⟨h1, h2⟩ := fresh_inv e
  rw [fresh_at (s.free h1)]; exact h2
theorem fresh_hid {H H' : Hp} {z : Addr} (hz : H z ≠ none) : Same (fresh H H') (hid H' z) := fun a o e => by
  obtain ⟨h1, h2⟩ := fresh_inv e
  rw [hid_ne (fun q => hz (by rw [← q]; exact h1))]; exact h2
/-- data that was made since H -/
def NewD (K : PySem.W.Frag) (H H' : Hp) (v : V) (d : PyData) : Prop := Dp K (fresh H H') v d
def NewDs (K : PySem.W.Frag) (H H' : Hp) (vs : List V) (ds : List PyData) : Prop := DpAll K (fresh H H') vs ds
section
variable {K : PySem.W.Frag} {H0 H H1 H2 : Hp} {v : V} {d : PyData} {vs : List V} {ds : List PyData}
theorem NewD.up (h : NewD K H H1 v d) (s : Same H1 H2) : NewD K H H2 v d := dp_up h (fresh_up s)
theorem NewD.down (h : NewD K H H1 v d) (s : Same H0 H) : NewD K H0 H1 v d := dp_up h (fresh_down s)
theorem NewD.dp (h : NewD K H H1 v d) : Dp K H1 v d := dp_up h fresh_le
theorem NewD.hid {z : Addr} (h : NewD K H H1 v d) (hz : H z ≠ none) : Dp K (hid H1 z) v d := dp_up h (fresh_hid hz)
theorem NewDs.up (h : NewDs K H H1 vs ds) (s : Same H1 H2) : NewDs K H H2 vs ds := dps_up h (fresh_up s)
theorem NewDs.len (h : NewDs K H H1 vs ds) : vs.length = ds.length := dps_len h
theorem new_ints (ns : List Int) : NewDs K H H1 (ns.map V.int) (ns.map PyData.int) := dps_ints ns
theorem new_lst {p : Addr} (hp : H p = none) (e : H1 p = some (.lst vs)) (h : NewDs K H H1 vs ds) : NewD K H H1 (.ref p) (.list ds) := .lst (SqL.of (by rw [fresh_at hp]; exact e)) h
theorem new_tup {p : Addr} (hp : H p = none) (e : H1 p = some (.tup vs)) (h : NewDs K H H1 vs ds) : NewD K H H1 (.ref p) (.tuple ds) := .tup (.inl (.inl (by rw [fresh_at hp]; exact e))) h
/-- one more item of a list that grows at D -/
theorem acc_step {D : Addr} {o : HO} (h : DpAll K (hid (fresh H H1) D) vs ds) (hD : H1 D ≠ none) (s0 : Same H H1) (s1 : Same H1 H2) (g : NewD K H1 H2 v d) : DpAll K (hid (fresh H (upd H2 D o)) D) (vs ++ [v]) (ds ++ [d]) := by
  have k1 : Same (hid (fresh H H1) D) (hid (fresh H (upd H2 D o)) D) := fun a x e => by
    obtain ⟨n1, e1⟩ := hid_some e
    obtain ⟨e2, e3⟩ := fresh_inv e1
    rw [hid_ne n1, fresh_at e2, upd_ne n1]; exact s1 _ _ e3
  have k2 : Same (fresh H1 H2) (hid (fresh H (upd H2 D o)) D) := fun a x e => by
    obtain ⟨e2, e3⟩ := fresh_inv e
    have n1 : a ≠ D := fun q => hD (by rw [← q]; exact e2)
    rw [hid_ne n1, fresh_at (s0.free e2), upd_ne n1]; exact e3
  exact dps_app (dps_up h k1) (.cons (dp_up g k2) .nil)
theorem acc_done {D : Addr} (h : DpAll K (hid (fresh H H1) D) vs ds) : NewDs K H H1 vs ds := dps_up h hid_le
end
/-! lists in the place of tuples, at any depth -/
mutual
def lsD : PyData → PyData
  | .list ds => .list (lsDs ds)
  | .tuple ds => .list (lsDs ds)
  | .none => .none
  | .bool b => .bool b
  | .int i => .int i
  | .str x => .str x
  | .dict kvs => .dict kvs
def lsDs : List PyData → List PyData
  | [] => []
  | d :: ds => lsD d :: lsDs ds
end
theorem lsDs_len : ∀ ds : List PyData, (lsDs ds).length = ds.length
  | [] => by simp [lsDs]
  | d :: ds => by simp [lsDs, lsDs_len ds]
theorem lsDs_take : ∀ (ds : List PyData) (i : Nat) (d : PyData), ds[i]? = some d → (lsDs ds).take (i + 1) = (lsDs ds).take i ++ [lsD d]
  | [], _, _, e => by simp at e
  | x :: ds, 0, d, e => by simp at e; subst e; simp [lsDs]
  | x :: ds, i + 1, d, e => by
    have := lsDs_take ds i d (by simpa using e)
    simp only [lsDs, List.take_succ_cons]
    rw [this]; rfl
theorem lsDs_ints : ∀ ns : List Int, lsDs (ns.map PyData.int) = ns.map PyData.int
  | [] => by simp [lsDs]
  | n :: ns => by simp [lsDs, lsD, lsDs_ints ns]
theorem lsD_row (ns : List Int) : lsD (rowT ns) = rowL ns := by simp only [rowT, rowL, lsD, lsDs_ints]
theorem lsDs_rows : ∀ B : List (List Int), lsDs (B.map rowT) = B.map rowL
  | [] => by simp [lsDs]
  | r :: B => by simp [lsDs, lsD_row, lsDs_rows B]
theorem lsD_book (B : List (List Int)) : lsD (bookT B) = bookL B := by simp only [bookT, bookL, lsD, lsDs_rows]
end Af
/-! ### good books, standings -/
namespace Af
open PySem PySem.Spec PyProof.Rows L2
theorem foldl_max_ge : ∀ (ns : List Int) (n : Int), n ≤ ns.foldl max n ∧ ∀ x ∈ ns, x ≤ ns.foldl max n
  | [], n => ⟨Int.le_refl _, fun _ h => by cases h⟩
  | m :: ns, n => by
    obtain ⟨h1, h2⟩ := foldl_max_ge ns (max n m)
    refine ⟨Int.le_trans (Int.le_max_left n m) h1, fun x hx => ?_⟩
    rcases List.mem_cons.mp hx with rfl | hx
    · exact Int.le_trans (Int.le_max_right n x) h1
    · exact h2 x hx
theorem foldl_max_le {b : Int} : ∀ (ns : List Int) (n : Int), n ≤ b → (∀ x ∈ ns, x ≤ b) → ns.foldl max n ≤ b
  | [], n, h, _ => h
  | m :: ns, n, h, g => foldl_max_le ns (max n m) (Int.max_le.mpr ⟨h, g m List.mem_cons_self⟩) fun x hx => g x (List.mem_cons_of_mem _ hx)
/-- a book whose ladders have at most hi rungs -/
structure GoodB (B : List (List Int)) (hi : Int) : Prop where
  first : ∃ n, B[0]? = some [n]
  wide : ∀ (k : Nat) (n : Int) (ns r : List Int), B[k]? = some (n :: ns) → B[k + 1]? = some r → (r.length : Int) = ns.foldl max n
  pos : ∀ r ∈ B, ∀ x ∈ r, 1 ≤ x ∧ x ≤ hi
  full : ∀ r ∈ B, r ≠ []
def StandsTo (B : List (List Int)) (R : List Int) (k : Nat) : Prop := ∀ c, c < k → ∃ n r, lenAt B R c = some n ∧ R[c]? = some r ∧ 1 ≤ r ∧ r ≤ n
structure Stands (B : List (List Int)) (R : List Int) : Prop where
  len : R.length = B.length
  all : StandsTo B R B.length
theorem len_ex {B : List (List Int)} {hi : Int} {R : List Int} {k : Nat} (G : GoodB B hi) (hk : k < B.length) (S : StandsTo B R k) : ∃ n, lenAt B R k = some n ∧ 1 ≤ n ∧ n ≤ hi := by
  cases k with
  | zero =>
    obtain ⟨n, e⟩ := G.first
    refine ⟨n, ?_, G.pos [n] (List.mem_of_getElem? e) n List.mem_cons_self⟩
    show ((B[0]?).bind fun row => row[0]?) = some n
    rw [e]; rfl
  | succ k =>
    obtain ⟨m, r, e1, e2, r1, r2⟩ := S k (Nat.lt_succ_self k)
    have hk0 : k < B.length := by omega
    obtain ⟨row, e3⟩ : ∃ row, B[k]? = some row := ⟨_, List.getElem?_eq_getElem hk0⟩
    obtain ⟨row2, e4⟩ : ∃ row, B[k + 1]? = some row := ⟨_, List.getElem?_eq_getElem hk⟩
    have hm : m ∈ row := by
      cases k with
      | zero =>
        obtain ⟨rw0, g1, g2⟩ := lenAt_zero e1
        rw [e3] at g1; cases g1
        exact List.mem_of_getElem? g2
      | succ k =>
        obtain ⟨rw0, _, g1, _, _, g2⟩ := lenAt_succ e1
        rw [e3] at g1; cases g1
        exact List.mem_of_getElem? g2
    cases row with
    | nil => cases hm
    | cons n ns =>
      have hw := G.wide k n ns row2 e3 e4
      have hle : m ≤ ns.foldl max n := by
        rcases List.mem_cons.mp hm with rfl | hm
        · exact (foldl_max_ge ns m).1
        · exact (foldl_max_ge ns n).2 m hm
      have hlt : (r - 1).toNat < row2.length := by omega
      have e5 : row2[(r - 1).toNat]? = some row2[(r - 1).toNat] := List.getElem?_eq_getElem hlt
      exact ⟨_, lenAt_mk e4 e2 r1 e5, G.pos row2 (List.mem_of_getElem? e4) _ (List.mem_of_getElem? e5)⟩
/-- the lengths of all ladders -/
def lensL (B : List (List Int)) (R : List Int) : List Int := (List.range B.length).map fun c => (lenAt B R c).getD 0
theorem lensL_len (B : List (List Int)) (R : List Int) : (lensL B R).length = B.length := by unfold lensL; rw [List.length_map, List.length_range]
theorem lensL_get {B : List (List Int)} {R : List Int} {c : Nat} (h : c < B.length) : (lensL B R)[c]? = some ((lenAt B R c).getD 0) := by
  unfold lensL
  rw [List.getElem?_map, List.getElem?_range h]; rfl
theorem stand_len {B : List (List Int)} {R : List Int} (S : Stands B R) {c : Nat} (h : c < B.length) : lenAt B R c = some ((lenAt B R c).getD 0) := by
  obtain ⟨n, r, e, _⟩ := S.all c h
  rw [e]; rfl
theorem getD_of {o : Option Int} {n : Int} (h : o = some n) : o.getD 0 = n := by rw [h]; rfl
theorem getElem?_app {R : List Int} {x : Int} {c : Nat} (h : c < R.length) : (R ++ [x])[c]? = R[c]? := List.getElem?_append_left h
theorem stands_snoc {B : List (List Int)} {R : List Int} {n x : Int} (S : StandsTo B R R.length) (e : lenAt B R R.length = some n) (h1 : 1 ≤ x) (h2 : x ≤ n) : StandsTo B (R ++ [x]) (R.length + 1) := by
  intro c hc
  by_cases h : c < R.length
  · obtain ⟨m, r, e1, e2, e3⟩ := S c h
    refine ⟨m, r, ?_, ?_, e3⟩
    · rw [← e1]; exact lenAt_pre fun i hi => getElem?_app (by omega)
    · rw [getElem?_app h]; exact e2
  · have hc' : c = R.length := by omega
    subst hc'
    refine ⟨n, x, ?_, by simp, h1, h2⟩
    rw [← e]; exact lenAt_pre fun i hi => getElem?_app hi
theorem good_one {n hi : Int} (h1 : 1 ≤ n) (h2 : n ≤ hi) : GoodB [[n]] hi :=
  ⟨⟨n, rfl⟩, fun k m ns r e1 e2 => by cases k <;> simp at e2, fun r hr x hx => by
    obtain rfl : r = [n] := by simpa using hr
    obtain rfl : x = n := by simpa using hx
    exact ⟨h1, h2⟩, fun r hr => by
    obtain rfl : r = [n] := by simpa using hr
    exact fun z => nomatch z⟩
theorem good_snoc {B : List (List Int)} {hi n : Int} {ns row : List Int} (G : GoodB (B ++ [n :: ns]) hi) (hl : (row.length : Int) = ns.foldl max n) (hp : ∀ x ∈ row, 1 ≤ x ∧ x ≤ hi) : GoodB (B ++ [n :: ns] ++ [row]) hi := by
  have n1 : 1 ≤ n := (G.pos (n :: ns) (by simp) n List.mem_cons_self).1
  have m1 := (foldl_max_ge ns n).1
  refine ⟨?_, fun k m ms r e1 e2 => ?_, fun r hr x hx => ?_, fun r hr => ?_⟩
  · obtain ⟨z, e⟩ := G.first
    exact ⟨z, by rw [List.getElem?_append_left (by simp)]; exact e⟩
  · by_cases h : k + 1 < (B ++ [n :: ns]).length
    · rw [List.getElem?_append_left (by omega)] at e1
      rw [List.getElem?_append_left h] at e2
      exact G.wide k m ms r e1 e2
    · have hk : k + 1 < (B ++ [n :: ns] ++ [row]).length := (List.getElem?_eq_some_iff.mp e2).1
      simp only [List.length_append, List.length_cons, List.length_nil] at h hk
      have ek : k = B.length := by omega
      subst ek
      have e1' : (B ++ [n :: ns] ++ [row])[B.length]? = some (n :: ns) := by simp
      have e2' : (B ++ [n :: ns] ++ [row])[B.length + 1]? = some row := by simp
      rw [e1'] at e1; rw [e2'] at e2
      cases e1; cases e2
      exact hl
  · rcases List.mem_append.mp hr with h | h
    · exact G.pos r h x hx
    · obtain rfl : r = row := by simpa using h
      exact hp x hx
  · rcases List.mem_append.mp hr with h | h
    · exact G.full r h
    · obtain rfl : r = row := by simpa using h
      intro z; subst z; simp at hl; omega
/-! heaps with a box -/
theorem hid_eq {H H' : Hp} {b a : Addr} (h : hid H' b = hid H b) (ha : a ≠ b) : H' a = H a := by
  have := congrFun h a
  rwa [hid_ne ha, hid_ne ha] at this
theorem hid_eq_same {H H' : Hp} {b : Addr} (h : hid H' b = hid H b) : Same (hid H b) (hid H' b) := by rw [h]; exact Same.refl _
end Af
/-! ### small data: it can be shown -/
namespace Af
open PySem PySem.Spec PyProof.Rows L2
structure Sml (d : PyData) : Prop where
  shw : d.showable = true
  nod : d.hasDict = false
  shrt : d.leavesShort 13 = true
  lay : d.canLay0 = true
theorem sml_int {i : Int} (h : i.natAbs ≤ 1000000) : Sml (.int i) := by
  refine ⟨?_, by simp only [PyData.hasDict], ?_, by simp only [PyData.canLay0]⟩
  · simp only [PyData.showable]
    refine decide_eq_true ?_
    by_cases z : i.natAbs = 0
    · rw [z]; decide
    · have h1 : i.natAbs.log2 < 20 := (Nat.log2_lt z).mpr (by omega)
      omega
  · have h1 := int_text_length_le10 (a := i) (k := 7) (by decide) (by omega)
    simp only [PyData.leavesShort]
    refine decide_eq_true ?_
    show (Str.ofString (toString i)).length ≤ 13
    rw [PySem.ofString_length]; omega
theorem sml_bool (b : Bool) : Sml (.bool b) := ⟨by simp only [PyData.showable], by simp only [PyData.hasDict], by simp only [PyData.leavesShort], by simp only [PyData.canLay0]⟩
theorem sml_none : Sml .none := ⟨by simp only [PyData.showable], by simp only [PyData.hasDict], by simp only [PyData.leavesShort], by simp only [PyData.canLay0]⟩
theorem sml_all : ∀ {ds : List PyData}, (∀ d ∈ ds, Sml d) → PyData.showableAll ds = true ∧ PyData.hasDictAll ds = false ∧ PyData.leavesShortAll 13 ds = true ∧ PyData.canLayAll0 ds = true
  | [], _ => by simp [PyData.showableAll, PyData.hasDictAll, PyData.leavesShortAll, PyData.canLayAll0]
  | d :: ds, h => by
    have h1 := h d List.mem_cons_self
    have h2 := sml_all (ds := ds) fun x hx => h x (List.mem_cons_of_mem _ hx)
    simp [PyData.showableAll, PyData.hasDictAll, PyData.leavesShortAll, PyData.canLayAll0, h1.shw, h1.nod, h1.shrt, h1.lay, h2.1, h2.2.1, h2.2.2.1, h2.2.2.2]
theorem sml_list {ds : List PyData} (h : ∀ d ∈ ds, Sml d) : Sml (.list ds) := by
  have q := sml_all h
  exact ⟨by simp only [PyData.showable]; exact q.1, by simp only [PyData.hasDict]; exact q.2.1, by simp only [PyData.leavesShort]; exact q.2.2.1, by simp only [PyData.canLay0]; exact q.2.2.2⟩
theorem sml_tup {ds : List PyData} (h : ∀ d ∈ ds, Sml d) : Sml (.tuple ds) := by
  have q := sml_all h
  exact ⟨by simp only [PyData.showable]; exact q.1, by simp only [PyData.hasDict]; exact q.2.1, by simp only [PyData.leavesShort]; exact q.2.2.1, by simp only [PyData.canLay0]; exact q.2.2.2⟩
theorem Sml.fits {d : PyData} (S : Sml d) (h : d.bulk ≤ 1000000) : d.shown.length ≤ sizeLine := by
  have h1 := PyData.shown_le_bulk 13 (by decide) d S.shrt
  have h2 := sizeLine_eq
  omega
theorem sml_row {ns : List Int} (h : ∀ x ∈ ns, x.natAbs ≤ 1000000) : Sml (rowT ns) := sml_tup fun d hd => by
  obtain ⟨x, hx, rfl⟩ := List.mem_map.mp hd
  exact sml_int (h x hx)
theorem bulk_ints : ∀ ns : List Int, PyData.bulkAll (ns.map PyData.int) = ns.length
  | [] => by simp [PyData.bulkAll]
  | n :: ns => by simp [PyData.bulkAll, PyData.bulk, bulk_ints ns]; omega
theorem bulk_row (ns : List Int) : (rowT ns).bulk = ns.length := by simp only [rowT, PyData.bulk, bulk_ints]
theorem bulk_rowL (ns : List Int) : (rowL ns).bulk = ns.length := by simp only [rowL, PyData.bulk, bulk_ints]
theorem depth_row (ns : List Int) : (rowT ns).depth = 1 := by simp only [rowT, PyData.depth, depth_ints]
theorem depth_rowL (ns : List Int) : (rowL ns).depth = 1 := by simp only [rowL, PyData.depth, depth_ints]
theorem bulk_rows {m : Nat} : ∀ (B : List (List Int)), (∀ r ∈ B, r.length ≤ m) → PyData.bulkAll (B.map rowT) ≤ B.length * (m + 1)
  | [], _ => by simp [PyData.bulkAll]
  | r :: B, h => by
    have h1 := bulk_rows B fun x hx => h x (List.mem_cons_of_mem _ hx)
    have h2 := h r List.mem_cons_self
    simp only [List.map_cons, PyData.bulkAll, bulk_row, List.length_cons]
    have e : (B.length + 1) * (m + 1) = B.length * (m + 1) + (m + 1) := Nat.succ_mul _ _
    omega
theorem depth_rows : ∀ (B : List (List Int)), PyData.depthAll (B.map rowT) ≤ 1
  | [] => by simp [PyData.depthAll]
  | r :: B => by
    have h1 := depth_rows B
    simp only [List.map_cons, PyData.depthAll, depth_row]
    omega
theorem depth_book (B : List (List Int)) : (bookT B).depth ≤ 2 := by
  have := depth_rows B
  simp only [bookT, PyData.depth]; omega
theorem good_rows {B : List (List Int)} {hi : Nat} (G : GoodB B hi) (h1 : 1 ≤ hi) : ∀ r ∈ B, r.length ≤ hi := by
  intro r hr
  obtain ⟨k, hk, e⟩ := List.getElem_of_mem hr
  have e' : B[k]? = some r := by rw [List.getElem?_eq_getElem hk, e]
  cases k with
  | zero =>
    obtain ⟨n, e2⟩ := G.first
    rw [e'] at e2; cases e2
    exact h1
  | succ k =>
    have hk0 : k < B.length := by omega
    have e3 : B[k]? = some B[k] := List.getElem?_eq_getElem hk0
    have hm : B[k] ∈ B := List.getElem_mem hk0
    cases z : B[k] with
    | nil => exact absurd z (G.full _ hm)
    | cons n ns =>
      rw [z] at e3 hm
      have hw := G.wide k n ns r e3 e'
      have p1 := G.pos _ hm
      have := foldl_max_le ns n (p1 n List.mem_cons_self).2 fun x hx => (p1 x (List.mem_cons_of_mem _ hx)).2
      omega
theorem bulk_book {B : List (List Int)} {hi : Nat} (G : GoodB B hi) (h1 : 1 ≤ hi) (h2 : hi ≤ 100) (h3 : B.length ≤ 100) : (bookT B).bulk ≤ 11000 := by
  have h := bulk_rows B (good_rows G h1)
  simp only [bookT, PyData.bulk]
  have : B.length * (hi + 1) ≤ 100 * 101 := Nat.mul_le_mul h3 (by omega)
  omega
theorem sml_book {B : List (List Int)} {hi : Nat} (G : GoodB B hi) (h2 : hi ≤ 1000) : Sml (bookT B) := sml_tup fun d hd => by
  obtain ⟨r, hr, rfl⟩ := List.mem_map.mp hd
  exact sml_row fun x hx => by have := G.pos r hr x hx; omega
theorem stands_mem {B : List (List Int)} {hi : Int} {R : List Int} (G : GoodB B hi) (S : Stands B R) : ∀ x ∈ R, 1 ≤ x ∧ x ≤ hi := by
  intro x hx
  obtain ⟨c, hc, e⟩ := List.getElem_of_mem hx
  have hc' : c < B.length := by rw [← S.len]; exact hc
  obtain ⟨n, r, e1, e2, r1, r2⟩ := S.all c hc'
  rw [List.getElem?_eq_getElem hc, e] at e2
  cases e2
  obtain ⟨n', e3, _, e4⟩ := len_ex G hc' (fun i hi => S.all i (by omega))
  rw [e1] at e3; cases e3
  exact ⟨r1, by omega⟩
theorem sml_stand {B : List (List Int)} {hi : Int} {R : List Int} (G : GoodB B hi) (h : hi ≤ 1000) (S : Stands B R) : Sml (rowT R) := sml_row fun x hx => by
  have := stands_mem G S x hx; omega
/-- small enough for _law_same, _law_lists -/
structure Sz (d : PyData) : Prop where
  dep : d.depth < 10
  blk : d.bulk ≤ 1000000
/-- small enough for repr -/
structure Fit (d : PyData) : Prop where
  shw : d.showable = true
  nod : d.hasDict = false
  dep : d.depth ≤ 60
  len : d.shown.length ≤ sizeLine
theorem fit_of {d : PyData} (S : Sml d) (z : Sz d) : Fit d := ⟨S.shw, S.nod, by have := z.dep; omega, S.fits z.blk⟩
theorem sz_row {ns : List Int} (h : ns.length ≤ 1000) : Sz (rowT ns) := ⟨by rw [depth_row]; decide, by rw [bulk_row]; omega⟩
theorem sz_rowL {ns : List Int} (h : ns.length ≤ 1000) : Sz (rowL ns) := ⟨by rw [depth_rowL]; decide, by rw [bulk_rowL]; omega⟩
theorem sz_book {B : List (List Int)} {hi : Nat} (G : GoodB B hi) (h1 : 1 ≤ hi) (h2 : hi ≤ 100) (h3 : B.length ≤ 100) : Sz (bookT B) :=
  ⟨by have := depth_book B; omega, by have := bulk_book G h1 h2 h3; omega⟩
end Af
/-! ### enumerate of a tuple -/
namespace Af
open PySem PySem.Spec PyProof.Rows L2
theorem draws_tup {prog : Program} {w : World} {A : Around} (hh : A.handled = none) (it l : Addr) (hne : l ≠ it) (items : Array Value) :
    Draws prog w A it [it, l] items.size (fun i v => items[i]? = some v) (fun i h => h.IsTupleIter it l i ∧ h.IsTuple l items) where
  live := fun _ _ st => let ⟨o, ho, _⟩ := st.1; ⟨o, ho⟩
  frame := fun _ _ _ st hk => by
    obtain ⟨⟨o, ho, r⟩, ⟨o2, ho2, r2⟩⟩ := st
    exact ⟨⟨o, hk it (by simp) o ho, r⟩, ⟨o2, hk l (by simp) o2 ho2, r2⟩⟩
  item := fun i s Q E hi st hQ => RZ.nextOf_tuple_item st.1 st.2 (x := items[i]) (by simp [hi]) fun h' hit' hs' => hQ _ h' s.toks (by simp [hi]) ⟨hit', st.2.extBut hs'.extBut hne⟩ hs'
  done := fun s Q E st hE => RZ.nextOf_tuple_end hh st.1 st.2 (by simp) hE
set_option maxHeartbeats 1000000 in
theorem meets_enum_tup (l : Addr) (items : Array Value) (n : Nat) (dct : Option Addr) (sl : Array (Option Value)) :
    Meets (Builtin.«enumerate.__new__» ⟨[.type "enumerate", .ref l], []⟩) (fun _ R s => s.heap.get? l = some { cls := .type "tuple", dict := dct, data := .seq items n, slots := sl } ∧
      R (.ok (.ret (.ref (s.heap.push { cls := .type "tuple_iterator", data := .fields #[.ref l, .int 0 0] }).objs.size)))
        { s with heap := (s.heap.push { cls := .type "tuple_iterator", data := .fields #[.ref l, .int 0 0] }).push { cls := .type "enumerate", data := .fields #[.none, .bool false, .ref s.heap.objs.size, rawInt 0, .none, .none] } }) :=
  .of_wp fun prog w A R s h => by
    obtain ⟨hp, g, d, tk, os⟩ := s
    obtain ⟨hl, h⟩ := h
    have sbe := sub_enumerate
    have hT : Heap.IsTuple (Shared.heap ⟨hp, g, d, tk, os⟩) l items := ⟨_, hl, rfl, n, rfl⟩
    wp_walk using AutoSeq1.wpAny_loadPart' hl
    refine wpAny_stack_any fun st => wpAny_pure ?_
    split
    · rename_i c _ _ _ _ _
      cases (c == Value.type "enumerate")
      · wp_walk using AutoSeq1.wpAny_loadPart' hl, wpAny_pyIter_tuple hT
        exact ⟨_, rfl, h⟩
      · wp_walk using AutoSeq1.wpAny_loadPart' hl, wpAny_pyIter_tuple hT
        exact ⟨_, rfl, h⟩
    · wp_walk using AutoSeq1.wpAny_loadPart' hl, wpAny_pyIter_tuple hT
      exact ⟨_, rfl, h⟩
theorem call_enum_tup {prog : Program} {w : World} {A : Around} {E : Value → Shared → Prop} {s : Shared} {l : Addr} {items : Array Value} {Q : Value → Shared → Prop} (hL : s.heap.IsTuple l items)
    (h : ∀ h', IsEnum h' (s.heap.objs.size + 1) s.heap.objs.size 0 .none → h'.IsTupleIter s.heap.objs.size l 0 → h'.objs.size = s.heap.objs.size + 2 →
      (∀ b o, s.heap.get? b = some o → h'.get? b = some o) → Q (.ref (s.heap.objs.size + 1)) { s with heap := h' }) :
    wpAny (model prog w) A (call (.type "enumerate") [.ref l]) Q E s := by
  obtain ⟨⟨c, dct, dt, sl⟩, hl, hc, n, hd⟩ := hL
  replace hc : c = .type "tuple" := hc
  replace hd : dt = .seq items n := hd
  subst hc hd
  refine callType_new F.called_enumerate (by decide) (F.typeCall_enumerate_1 _) (F.newCall_enumerate_1 _) (fun obj => F.args_object_init_2 obj _) F.entry_enumerate_new (meets_enum_tup l items n dct sl) ⟨hl, ?_⟩
  have hz : (s.heap.push { cls := .type "tuple_iterator", data := .fields #[.ref l, .int 0 0] }).objs.size = s.heap.objs.size + 1 := Heap.size_push ..
  show _ ∧ _
  rw [hz]
  have he : IsEnum ((s.heap.push { cls := .type "tuple_iterator", data := .fields #[.ref l, .int 0 0] }).push { cls := .type "enumerate", data := .fields #[.none, .bool false, .ref s.heap.objs.size, rawInt 0, .none, .none] }) (s.heap.objs.size + 1) s.heap.objs.size 0 .none := by
    have z := Heap.get?_push_size (s.heap.push { cls := .type "tuple_iterator", data := .fields #[.ref l, .int 0 0] }) (o := { cls := .type "enumerate", data := .fields #[.none, .bool false, .ref s.heap.objs.size, rawInt 0, .none, .none] }) rfl
    rw [hz] at z; exact z
  exact ⟨⟨_, he, rfl⟩, h _ he ⟨_, Heap.get?_push_of_some _ (Heap.get?_push_size _ rfl), rfl, rfl⟩ (by rw [Heap.size_push, hz]) fun b o x => Heap.get?_push_of_some _ (Heap.get?_push_of_some _ x)⟩
/-- the tuple at a, each item in a new pair with its place -/
def ItT (K : PySem.W.Frag) (a : Addr) : It :=
  ⟨fun i H => ∃ (xs : List V) (x : V), SqT K H a xs ∧ xs[i]? = some x, fun i H v H' => ∃ Tq x, v = .ref Tq ∧ H Tq = none ∧ H' = upd H Tq (.tup [.int (i : Nat), x]) ∧ ∀ xs, SqT K H a xs → xs[i]? = some x, fun i H => ∃ xs : List V, SqT K H a xs ∧ xs.length = i⟩
theorem turn_enumT {P : Program} {w : World} {K : PySem.W.Frag} {elts : List Expr} {kk : Nat} {tpos : Pos} (a e it : Addr) (hae : a ≠ e) (hai : a ≠ it) :
    Turn P w K (.Tuple elts kk tpos) (ItT K a) [e, it] e (fun i h => (∃ old, IsEnum h e it ((i : Nat) : Int) old) ∧ h.IsTupleIter it a i ∧ e ≠ it) where
  mem := by simp
  obj := fun i h st b hb => by
    obtain ⟨⟨old, he⟩, ⟨o, ho, hc, hd⟩, _⟩ := st
    rcases (show b = e ∨ b = it by simpa using hb) with z | z
    · rw [z]; exact ⟨_, he, fun v q => nomatch q⟩
    · rw [z]; exact ⟨o, ho, fun v q => by rw [hd] at q; cases q⟩
  keep := fun i h h' st k => by
    obtain ⟨⟨old, he⟩, ⟨o, ho, r⟩, hne⟩ := st
    exact ⟨⟨old, k e (by simp) _ he⟩, ⟨o, k it (by simp) o ho, r⟩, hne⟩
  item := by
    intro X hP hw hK hc i pins s σ H E I hf st hg
    subst hP hw hK
    obtain ⟨⟨old, he⟩, hit, hne⟩ := st
    obtain ⟨xs, x, hq, hx⟩ := hg
    obtain ⟨its, rv, pt, _⟩ := I.tuple hq
    obtain ⟨u, hu, ru⟩ := rv.get hx
    have hel : e < s.heap.objs.size := Heap.lt_size he
    have hil : it < s.heap.objs.size := by obtain ⟨_, q, _⟩ := hit; exact Heap.lt_size q
    have hlt : i < its.toArray.size := by simpa using (List.getElem?_eq_some_iff.mp hu).1
    refine wpAny_pyNext_enum_itemD (draws_tup (A := X.A.in1) (I.ok.hd hc) it a hai its.toArray) he ⟨hit, pt⟩ hlt hne (by simp [hae.symm, hne]) fun x' h' tk hx' ho hst' hT hsz hk => ?_
    have ex : x' = u := by
      have z : its[i]? = some x' := by simpa using hx'
      rw [hu] at z; exact (Option.some.inj z).symm
    subst ex
    refine ⟨_, rfl, wpAny_letOwnedTupleGo_enum (s := { s with heap := h', toks := tk + 1 }) ho fun h2 he' sb => ?_⟩
    have hT2 : h2.get? s.heap.objs.size = some { cls := .type "tuple", data := .seq #[.int i tk, x'] } := (sb.2 _ (Nat.ne_of_gt hel)).trans hT
    have new : ObjOk X.prog X.w (upd H s.heap.objs.size (.tup [.int (i : Nat), x])) h2 s.heap.objs.size (.tup [.int (i : Nat), x]) :=
      ⟨by show 2 ≤ sizeLine; decide, [.int i tk, x'], .cons ⟨_, rfl⟩ (.cons ru .nil), ⟨_, hT2, rfl, _, rfl⟩⟩
    have I1 : Inv X pins σ (upd H s.heap.objs.size (.tup [.int (i : Nat), x])) { s with heap := h2, toks := tk + 1 } :=
      I.turnedNew (ch := [e, it]) (fun b ob hb q => (sb.2 b (fun z => hb (by simp [z]))).trans (hk b ob (fun z => hb (by simp [z])) (fun z => hb (by simp [z])) q)) hf (Nat.le_refl _) new
    refine ⟨.ref s.heap.objs.size, _, I1, rfl, ⟨_, x, rfl, I.hok.fresh (Nat.le_refl _), rfl, fun ys hy => by rw [I.tuple_inj hy hq]; exact hx⟩, ⟨⟨x', ?_⟩, ?_, hne⟩, fun b hb => ?_⟩
    · have e1 : ((i + 1 : Nat) : Int) = (i : Int) + 1 := by omega
      rw [e1]; exact he'
    · obtain ⟨⟨o, ho', r⟩, _⟩ := hst'
      exact ⟨o, (sb.2 it (Ne.symm hne)).trans ho', r⟩
    · have hb' : b < s.heap.objs.size := by
        rcases (show b = e ∨ b = it by simpa using hb) with z | z
        · rw [z]; exact hel
        · rw [z]; exact hil
      rw [upd_ne (Nat.ne_of_lt hb')]
      exact (hf b hb).1
  done := by
    intro X hP hw hK hc i pins s σ H E I hf st hg
    subst hP hw hK
    obtain ⟨⟨old, he⟩, hit, hne⟩ := st
    obtain ⟨xs, hq, hx⟩ := hg
    obtain ⟨its, rv, pt, _⟩ := I.tuple hq
    obtain ⟨f0, f1, f2, f3, f4, f5⟩ := hf it (by simp)
    have hl := rv.length
    have ei : i = its.toArray.size := by simp; omega
    rw [ei] at hit
    exact wpAny_pyNext_enum_endD (draws_tup (A := X.A.in1) (I.ok.hd hc) it a hai its.toArray) he ⟨hit, pt⟩ fun h' eb => ⟨rfl, I.turned (t' := s.toks) (fun b o hb q => eb b o hb q) f0 f1 f3 f4 f5⟩
  self := fun A i s Q E st h => let ⟨⟨_, he⟩, _⟩ := st; wpAny_pyIter_enum he h
def iEnumT (K : PySem.W.Frag) (ta : TA) : TI := fun σ H R => ta σ H fun vs H1 => ∃ a xs, vs = [.ref a] ∧ SqT K H1 a xs ∧ R (ItT K a) H1
theorem pi_enumT {X : Cx} {e : Expr} {ta : TA} {p pos tpos : Pos} {elts : List Expr} {kk : Nat} (hg : Gl X "enumerate") (hm : X.mg "enumerate" = none) (ha : PA X [e] ta) (hs : starEach [e] X.env = [(false, eval e X.env)] := by rfl) :
    PI X (.Tuple elts kk tpos) (.Call (.Name "enumerate" p) [e] [] pos) (iEnumT X.K ta) := by
  refine ⟨fun pins s σ H R I h => Call_ (ld_blt I hg hm boot_enumerate (PyProof.Rows.callWith_type1 (thn (ha.run pos pins s σ H _ I h) fun us s1 ⟨vs, H1, I1, r1, q1⟩ => ?_) hs rfl))⟩
  obtain ⟨a, xs, rfl, hq, q⟩ := q1
  cases r1 with
  | cons r rr =>
    cases rr
    cases r
    obtain ⟨its, rv, pt, _⟩ := I1.tuple hq
    obtain ⟨oa, hoa, _⟩ := id pt
    have hal := Heap.lt_size hoa
    refine call_enum_tup (show s1.heap.IsTuple a its.toArray from pt) fun h' he hit hsz hk => wpAny_pyIter_enum he ?_
    have I2 : Inv X pins σ H1 { s1 with heap := h' } := I1.kept (t' := s1.toks) hk
    refine ⟨s1.heap.objs.size + 1, [s1.heap.objs.size + 1, s1.heap.objs.size], _, _, H1, rfl, I2, turn_enumT a (s1.heap.objs.size + 1) s1.heap.objs.size (Nat.ne_of_lt (Nat.lt_succ_of_lt hal)) (Nat.ne_of_lt hal), ⟨⟨.none, he⟩, hit, Nat.succ_ne_self _⟩, fun b hb => ?_, q⟩
    have hle : s1.heap.objs.size ≤ b := by
      rcases (show b = s1.heap.objs.size + 1 ∨ b = s1.heap.objs.size by simpa using hb) with z | z
      · rw [z]; exact Nat.le_add_right _ _
      · rw [z]; exact Nat.le_refl _
    exact I1.fpOk hle (I1.hok.fresh hle)
theorem walk_enumT {K : PySem.W.Frag} {a : Addr} {xs : List V} : Walk (ItT K a) xs.length (fun H => SqT K H a xs) (YPair (fun i => some (.int (i : Nat))) (fun i => xs[i]?)) := by
  refine ⟨fun i _ hi q => ⟨xs, xs[i], q, by simp [hi]⟩, fun _ q => ⟨xs, q, rfl⟩, fun i H v H' _ q y => ?_⟩
  obtain ⟨Tq, x, h1, h2, h3, h4⟩ := y
  exact ⟨Tq, .int (i : Nat), x, h1, h2, h3, rfl, h4 xs q⟩
end Af
/-! ### states; who is blocked, who goes -/
namespace Af
open PySem PySem.Spec PyProof.Rows L2
def StateD (d : PyData) (R F : List Int) : Prop := ∃ sd fd, SeqD d [sd, fd] ∧ RowD sd R ∧ RowD fd F
def stateT (R F : List Int) : PyData := .tuple [rowT R, rowT F]
def stateL (R F : List Int) : PyData := .list [rowL R, rowL F]
theorem stateT_state (R F : List Int) : StateD (stateT R F) R F := ⟨_, _, .t _, rowT_row R, rowT_row F⟩
theorem stateL_state (R F : List Int) : StateD (stateL R F) R F := ⟨_, _, .l _, rowL_row R, rowL_row F⟩
theorem lsD_state (R F : List Int) : lsD (stateT R F) = stateL R F := by simp only [stateT, stateL, lsD, lsDs, lsD_row]
/-- a, b = a list or a tuple of two -/
def gSeq (K : PySem.W.Frag) (n : Nat) (t : TGs) : TG := fun v σ H Q => ∃ a xs, v = .ref a ∧ Sq K H a xs ∧ xs.length = n ∧ t xs σ H Q
theorem pg_seq {X : Cx} {es : List Expr} {k : Nat} {pos : Pos} {t : TGs} {n : Nat} (hc : X.calm = true) (h : PGs X es t)
    (hn : (assignEach es X.env).length = n := by rfl) (hst : (assignEach es X.env).findIdx? (·.1) = none := by rfl) : PG X (.Tuple es k pos) (gSeq X.K n t) := by
  refine ⟨fun pins s σ H v u Q I r hw => ?_⟩
  obtain ⟨a, xs, e1, hq, hl, hw⟩ := hw
  rcases hq with hq | hq
  · exact (pg_unl hc h hn hst).run pins s σ H v u Q I r ⟨a, xs, e1, hq, hl, hw⟩
  · exact (pg_tup hc h hn hst).run pins s σ H v u Q I r ⟨a, xs, e1, hq, hl, hw⟩
theorem state_at {K : PySem.W.Frag} {H : Hp} {v : V} {d : PyData} {R F : List Int} (h : Dp K H v d) (s : StateD d R F) : ∃ a r f sd fd, v = .ref a ∧ Sq K H a [r, f] ∧ Dp K H r sd ∧ RowD sd R ∧ Dp K H f fd ∧ RowD fd F := by
  obtain ⟨sd, fd, hs, h1, h2⟩ := s
  obtain ⟨a, xs, rfl, hq, ha⟩ := dp_seq h hs
  cases ha with
  | cons p1 ha =>
    cases ha with
    | cons p2 ha =>
      cases ha
      exact ⟨a, _, _, sd, fd, rfl, hq, p1, h1, p2, h2⟩
theorem state_tup {K : PySem.W.Frag} {H : Hp} {v : V} {R F : List Int} (h : Dp K H v (stateT R F)) : ∃ a ra fa, v = .ref a ∧ SqT K H a [.ref ra, .ref fa] ∧ SqT K H ra (R.map V.int) ∧ SqT K H fa (F.map V.int) := by
  cases h with
  | tup h1 h2 =>
    cases h2 with
    | cons p1 h2 =>
      cases h2 with
      | cons p2 h2 =>
        cases h2
        cases p1 with
        | tup g1 g2 =>
          cases p2 with
          | tup k1 k2 =>
            rw [dps_ints_inv g2] at g1
            rw [dps_ints_inv k2] at k1
            exact ⟨_, _, _, rfl, h1, g1, k1⟩
def endR (l f : Int) : Int := if f = 1 then l else 1
def isBl (B : List (List Int)) (R F : List Int) (c : Nat) : Bool := decide (R[c]?.getD 0 = endR ((lenAt B R c).getD 0) (F[c]?.getD 0))
def castL (cs : List Nat) : List Int := cs.map fun c : Nat => (c : Int)
def blockedN (B : List (List Int)) (R F : List Int) (n : Nat) : List Nat := (List.range n).filter (isBl B R F)
def freeN (B : List (List Int)) (R F : List Int) (n : Nat) : List Nat := (List.range n).filter fun c => !isBl B R F c
def moverO (B : List (List Int)) (R F : List Int) : Option Nat := (freeN B R F B.length).getLast?
def movV : Option Nat → V
  | none => .non
  | some c => .int c
def movD : Option Nat → PyData
  | none => .none
  | some c => .int c
theorem mov_dp {K : PySem.W.Frag} {H : Hp} (o : Option Nat) : Dp K H (movV o) (movD o) := by
  cases o with
  | none => exact .non
  | some c => exact .int c
theorem blockedN_succ (B : List (List Int)) (R F : List Int) (n : Nat) : blockedN B R F (n + 1) = blockedN B R F n ++ (if isBl B R F n = true then [n] else []) := by
  unfold blockedN
  rw [List.range_succ, List.filter_append, List.filter_cons, List.filter_nil]
theorem freeN_succ (B : List (List Int)) (R F : List Int) (n : Nat) : freeN B R F (n + 1) = freeN B R F n ++ (if isBl B R F n = true then [] else [n]) := by
  unfold freeN
  rw [List.range_succ, List.filter_append, List.filter_cons, List.filter_nil]
  cases isBl B R F n <;> rfl
theorem blockedN_len (B : List (List Int)) (R F : List Int) (n : Nat) : (blockedN B R F n).length ≤ n := by
  have := List.length_filter_le (isBl B R F) (List.range n)
  rw [List.length_range] at this; exact this
theorem freeN_len (B : List (List Int)) (R F : List Int) (n : Nat) : (freeN B R F n).length ≤ n := by
  have := List.length_filter_le (fun c => !isBl B R F c) (List.range n)
  rw [List.length_range] at this; exact this
theorem mem_blockedN {B : List (List Int)} {R F : List Int} {n c : Nat} : c ∈ blockedN B R F n ↔ c < n ∧ isBl B R F c = true := by
  unfold blockedN; rw [List.mem_filter, List.mem_range]
theorem mem_freeN {B : List (List Int)} {R F : List Int} {n c : Nat} : c ∈ freeN B R F n ↔ c < n ∧ isBl B R F c = false := by
  unfold freeN; rw [List.mem_filter, List.mem_range]; simp
theorem castL_len (cs : List Nat) : (castL cs).length = cs.length := by unfold castL; rw [List.length_map]
theorem castL_app (cs ds : List Nat) : castL (cs ++ ds) = castL cs ++ castL ds := by unfold castL; rw [List.map_append]
theorem inV_cast (cs : List Nat) (c : Nat) : inV (.int c) ((castL cs).map V.int) = decide (c ∈ cs) := by
  unfold inV castL
  rw [List.map_map, Bool.eq_iff_iff, List.any_eq_true, decide_eq_true_iff]
  constructor
  · rintro ⟨x, hx, e⟩
    obtain ⟨d, hd, rfl⟩ := List.mem_map.mp hx
    have e' : ((d : Int) == (c : Int)) = true := e
    have : d = c := by have := beq_iff_eq.mp e'; omega
    exact this ▸ hd
  · intro h
    exact ⟨.int c, List.mem_map.mpr ⟨c, h, rfl⟩, by show ((c : Int) == (c : Int)) = true; exact beq_self_eq_true _⟩
theorem flat_cast (cs : List Nat) : ((castL cs).map V.int).all flatV = true := by
  rw [List.all_eq_true]
  intro x hx
  obtain ⟨i, _, rfl⟩ := List.mem_map.mp hx
  rfl
theorem in_blocked {B : List (List Int)} {R F : List Int} {n c : Nat} (h : c < n) : decide (c ∈ blockedN B R F n) = isBl B R F c := by
  rw [Bool.eq_iff_iff, decide_eq_true_iff, mem_blockedN]
  exact ⟨fun z => z.2, fun z => ⟨h, z⟩⟩
/-- faces -/
def FacesOk (F : List Int) : Prop := ∀ f ∈ F, f = 1 ∨ f = -1
/-- one beat -/
def goB (B : List (List Int)) (F : List Int) : Nat → List Int → List Int
  | 0, R => R
  | n + 1, R => goB B F n (R ++ [endR ((lenAt B R R.length).getD 0) (F[R.length]?.getD 0)])
def beatO (B : List (List Int)) (R F : List Int) : Option Nat → List Int × List Int
  | none => (R, F.map fun f => -f)
  | some g => (goB B F (B.length - (g + 1)) (R.take g ++ [R[g]?.getD 0 + F[g]?.getD 0]), F.take (g + 1) ++ (F.drop (g + 1)).map fun f => -f)
def beatM (B : List (List Int)) (S : List Int × List Int) : List Int × List Int := beatO B S.1 S.2 (moverO B S.1 S.2)
theorem sz_state {R F : List Int} (h1 : R.length ≤ 1000) (h2 : F.length ≤ 1000) : Sz (stateT R F) :=
  ⟨by simp only [PyData.depth, PyData.depthAll, stateT, depth_row]; omega, by simp only [PyData.bulk, PyData.bulkAll, stateT, bulk_row]; omega⟩
theorem sml_faces {F : List Int} (h : FacesOk F) : Sml (rowT F) := sml_row fun x hx => by
  rcases h x hx with rfl | rfl <;> decide
theorem sml_state {B : List (List Int)} {hi : Int} {R F : List Int} (G : GoodB B hi) (h : hi ≤ 1000) (S : Stands B R) (hF : FacesOk F) : Sml (stateT R F) := sml_tup fun d hd => by
  rcases List.mem_cons.mp hd with rfl | hd
  · exact sml_stand G h S
  · obtain rfl : d = rowT F := by simpa using hd
    exact sml_faces hF
theorem fit_pair {B : List (List Int)} {hi : Nat} {R F : List Int} (G : GoodB B hi) (h1 : 1 ≤ hi) (h2 : hi ≤ 100) (h3 : B.length ≤ 100) (S : Stands B R) (hF : FacesOk F) (hl : F.length = B.length) : Fit (.list [bookT B, stateT R F]) := by
  have e := S.len
  refine fit_of (sml_list fun d hd => ?_) ⟨?_, ?_⟩
  · rcases List.mem_cons.mp hd with rfl | hd
    · exact sml_book G (by omega)
    · obtain rfl : d = stateT R F := by simpa using hd
      exact sml_state G (by omega) S hF
  · have := depth_book B
    simp only [PyData.depth, PyData.depthAll, stateT, depth_row]; omega
  · have := bulk_book G h1 h2 h3
    simp only [PyData.bulk, PyData.bulkAll, stateT, bulk_row]; omega
theorem sz_list2 {x y : PyData} (h1 : x.depth ≤ 8) (h2 : y.depth ≤ 8) (h3 : x.bulk ≤ 100000) (h4 : y.bulk ≤ 100000) : Sz (.list [x, y]) :=
  ⟨by simp only [PyData.depth, PyData.depthAll]; omega, by simp only [PyData.bulk, PyData.bulkAll]; omega⟩
theorem sz_list3 {x y z : PyData} (h1 : x.depth ≤ 8) (h2 : y.depth ≤ 8) (g : z.depth ≤ 8) (h3 : x.bulk ≤ 100000) (h4 : y.bulk ≤ 100000) (g2 : z.bulk ≤ 100000) : Sz (.list [x, y, z]) :=
  ⟨by simp only [PyData.depth, PyData.depthAll]; omega, by simp only [PyData.bulk, PyData.bulkAll]; omega⟩
theorem mov_sz (o : Option Nat) : (movD o).depth ≤ 8 ∧ (movD o).bulk ≤ 100000 := by cases o <;> simp [movD, PyData.depth, PyData.bulk]
end Af
/-! ### beats: the mathematics -/
namespace Af
open PySem PySem.Spec PyProof.Rows L2
theorem goB_len (B : List (List Int)) (F : List Int) : ∀ (n : Nat) (R : List Int), (goB B F n R).length = R.length + n
  | 0, R => rfl
  | n + 1, R => by
    show (goB B F n _).length = _
    rw [goB_len B F n, List.length_append, List.length_singleton]; omega
theorem goB_snoc (B : List (List Int)) (F : List Int) : ∀ (n : Nat) (R : List Int), goB B F (n + 1) R = goB B F n R ++ [endR ((lenAt B (goB B F n R) (goB B F n R).length).getD 0) (F[(goB B F n R).length]?.getD 0)]
  | 0, R => rfl
  | n + 1, R => goB_snoc B F n (R ++ [endR ((lenAt B R R.length).getD 0) (F[R.length]?.getD 0)])
theorem goB_pre (B : List (List Int)) (F : List Int) : ∀ (n : Nat) (R : List Int) (i : Nat), i < R.length → (goB B F n R)[i]? = R[i]?
  | 0, R, i, _ => rfl
  | n + 1, R, i, h => by
    show (goB B F n _)[i]? = _
    rw [goB_pre B F n _ i (by rw [List.length_append]; omega), List.getElem?_append_left h]
theorem goB_get (B : List (List Int)) (F : List Int) : ∀ (n : Nat) (R : List Int) (i : Nat), R.length ≤ i → i < R.length + n → (goB B F n R)[i]? = some (endR ((lenAt B (goB B F n R) i).getD 0) (F[i]?.getD 0))
  | 0, R, i, h1, h2 => by omega
  | n + 1, R, i, h1, h2 => by
    rw [goB_snoc]
    have hl := goB_len B F n R
    by_cases h : i < R.length + n
    · rw [List.getElem?_append_left (by omega), goB_get B F n R i h1 h]
      rw [lenAt_pre (R := goB B F n R ++ _) (S := goB B F n R) fun j hj => List.getElem?_append_left (by omega)]
    · have e : i = (goB B F n R).length := by omega
      rw [lenAt_pre (R := goB B F n R ++ _) (S := goB B F n R) fun j hj => List.getElem?_append_left (by omega)]
      rw [e, List.getElem?_append_right (Nat.le_refl _), Nat.sub_self]; rfl
theorem endR_mem {n f : Int} (h : 1 ≤ n) : 1 ≤ endR n f ∧ endR n f ≤ n := by unfold endR; split <;> omega
theorem goB_stands {B : List (List Int)} {hi : Int} {F : List Int} (G : GoodB B hi) : ∀ (n : Nat) (R : List Int), R.length + n ≤ B.length → StandsTo B R R.length → StandsTo B (goB B F n R) (R.length + n)
  | 0, R, _, h => h
  | n + 1, R, hl, h => by
    obtain ⟨m, e, m1, m2⟩ := len_ex G (by omega) h
    have q := stands_snoc (x := endR m (F[R.length]?.getD 0)) h e (endR_mem m1).1 (endR_mem m1).2
    have e2 : goB B F (n + 1) R = goB B F n (R ++ [endR m (F[R.length]?.getD 0)]) := by
      show goB B F n (R ++ [endR ((lenAt B R R.length).getD 0) (F[R.length]?.getD 0)]) = _
      rw [e]; rfl
    have z := goB_stands (F := F) G n (R ++ [endR m (F[R.length]?.getD 0)]) (by rw [List.length_append, List.length_singleton]; omega) (by rw [List.length_append, List.length_singleton]; exact q)
    rw [e2]
    rw [List.length_append, List.length_singleton] at z
    rw [show R.length + (n + 1) = R.length + 1 + n by omega]; exact z
/-! who goes -/
def movN (B : List (List Int)) (R F : List Int) (n : Nat) : Option Nat := (freeN B R F n).getLast?
theorem movN_succ (B : List (List Int)) (R F : List Int) (n : Nat) : movN B R F (n + 1) = if isBl B R F n = true then movN B R F n else some n := by
  unfold movN
  rw [freeN_succ]
  split
  · rw [List.append_nil]
  · rw [List.getLast?_append]; rfl
theorem movN_none {B : List (List Int)} {R F : List Int} : ∀ {n : Nat}, movN B R F n = none → ∀ c, c < n → isBl B R F c = true
  | 0, _, c, h => absurd h (Nat.not_lt_zero c)
  | n + 1, e, c, h => by
    rw [movN_succ] at e
    by_cases hb : isBl B R F n = true
    · rw [if_pos hb] at e
      by_cases hc : c = n
      · rw [hc]; exact hb
      · exact movN_none e c (by omega)
    · rw [if_neg hb] at e; cases e
theorem movN_some {B : List (List Int)} {R F : List Int} : ∀ {n g : Nat}, movN B R F n = some g → g < n ∧ isBl B R F g = false ∧ ∀ c, g < c → c < n → isBl B R F c = true
  | 0, g, e => by cases e
  | n + 1, g, e => by
    rw [movN_succ] at e
    by_cases hb : isBl B R F n = true
    · rw [if_pos hb] at e
      obtain ⟨h1, h2, h3⟩ := movN_some e
      refine ⟨by omega, h2, fun c c1 c2 => ?_⟩
      by_cases hc : c = n
      · rw [hc]; exact hb
      · exact h3 c c1 (by omega)
    · rw [if_neg hb] at e
      cases e
      exact ⟨by omega, by simpa using hb, fun c c1 c2 => by omega⟩
theorem movN_all {B : List (List Int)} {R F : List Int} : ∀ {n : Nat}, (∀ c, c < n → isBl B R F c = true) → movN B R F n = none
  | 0, _ => rfl
  | n + 1, h => by
    rw [movN_succ, if_pos (h n (by omega))]
    exact movN_all fun c hc => h c (by omega)
theorem movN_is {B : List (List Int)} {R F : List Int} {g : Nat} : ∀ {n : Nat}, g < n → isBl B R F g = false → (∀ c, g < c → c < n → isBl B R F c = true) → movN B R F n = some g
  | 0, h, _, _ => absurd h (Nat.not_lt_zero g)
  | n + 1, h1, h2, h3 => by
    rw [movN_succ]
    by_cases hg : g = n
    · subst hg; rw [if_neg (by rw [h2]; exact Bool.false_ne_true)]
    · rw [if_pos (h3 n (by omega) (by omega))]
      exact movN_is (by omega) h2 fun c c1 c2 => h3 c c1 (by omega)
theorem isBl_iff {B : List (List Int)} {R F : List Int} {c : Nat} {n r f : Int} (e1 : lenAt B R c = some n) (e2 : R[c]? = some r) (e3 : F[c]? = some f) : (isBl B R F c = true) ↔ r = endR n f := by
  unfold isBl
  rw [e1, e2, e3, decide_eq_true_iff]; rfl
/-! one beat -/
def negL (F : List Int) : List Int := F.map fun f => -f
theorem negL_len (F : List Int) : (negL F).length = F.length := by unfold negL; rw [List.length_map]
theorem negL_ok {F : List Int} (h : FacesOk F) : FacesOk (negL F) := fun x hx => by
  obtain ⟨f, hf, rfl⟩ := List.mem_map.mp hx
  rcases h f hf with rfl | rfl
  · exact .inr rfl
  · exact .inl rfl
theorem negL_neg (F : List Int) : negL (negL F) = F := by
  unfold negL
  rw [List.map_map]
  have : ((fun f : Int => -f) ∘ fun f : Int => -f) = id := by funext x; simp
  rw [this, List.map_id]
theorem negL_get (F : List Int) (c : Nat) : (negL F)[c]? = (F[c]?).map fun f => -f := by unfold negL; rw [List.getElem?_map]
/-- a good state -/
structure Ok (B : List (List Int)) (S : List Int × List Int) : Prop where
  st : Stands B S.1
  fl : S.2.length = B.length
  fo : FacesOk S.2
def negS (S : List Int × List Int) : List Int × List Int := (S.1, negL S.2)
theorem negS_neg (S : List Int × List Int) : negS (negS S) = S := by unfold negS; rw [negL_neg]
theorem Ok.neg {B : List (List Int)} {S : List Int × List Int} (h : Ok B S) : Ok B (negS S) := ⟨h.st, by show (negL S.2).length = _; rw [negL_len]; exact h.fl, negL_ok h.fo⟩
theorem mover_new {B : List (List Int)} {hi : Int} {R F : List Int} {g : Nat} (G : GoodB B hi) (h : Ok B (R, F)) (hg : moverO B R F = some g) :
    ∃ n r f, g < B.length ∧ lenAt B R g = some n ∧ R[g]? = some r ∧ F[g]? = some f ∧ 1 ≤ r ∧ r ≤ n ∧ r ≠ endR n f ∧ (f = 1 ∨ f = -1) ∧ 1 ≤ r + f ∧ r + f ≤ n := by
  obtain ⟨h1, h2, h3⟩ := movN_some (n := B.length) hg
  obtain ⟨n, r, e1, e2, r1, r2⟩ := h.st.all g h1
  have hgF : g < F.length := by have := h.fl; simp only at this; omega
  have e3 : F[g]? = some F[g] := List.getElem?_eq_getElem hgF
  have hf := h.fo F[g] (List.getElem_mem hgF)
  have hne : r ≠ endR n F[g] := fun e => by
    have z := (isBl_iff (F := F) e1 e2 e3).mpr e
    rw [h2] at z; cases z
  refine ⟨n, r, F[g], h1, e1, e2, e3, r1, r2, hne, hf, ?_, ?_⟩ <;> unfold endR at hne <;> rcases hf with hf | hf <;> rw [hf] at hne ⊢ <;> simp at hne <;> omega
theorem take_stands {B : List (List Int)} {R : List Int} {g : Nat} {n v : Int} (S : Stands B R) (hg : g < B.length) (e : lenAt B R g = some n) (h1 : 1 ≤ v) (h2 : v ≤ n) : StandsTo B (R.take g ++ [v]) (g + 1) ∧ (R.take g ++ [v]).length = g + 1 := by
  have hl : (R.take g).length = g := by rw [List.length_take, S.len]; omega
  have hpre : ∀ i, i < g → (R.take g)[i]? = R[i]? := fun i hi => by rw [List.getElem?_take_of_lt hi]
  have hs : StandsTo B (R.take g) (R.take g).length := fun c hc => by
    rw [hl] at hc
    obtain ⟨m, r, e1, e2, e3⟩ := S.all c (by omega)
    exact ⟨m, r, by rw [lenAt_pre fun i hi => hpre i (by omega)]; exact e1, by rw [hpre c hc]; exact e2, e3⟩
  have z := stands_snoc (x := v) hs (by rw [hl, lenAt_pre hpre]; exact e) h1 h2
  rw [hl] at z
  exact ⟨z, by rw [List.length_append, hl]; rfl⟩
theorem beat_ok {B : List (List Int)} {hi : Int} {S : List Int × List Int} (G : GoodB B hi) (h : Ok B S) : Ok B (beatM B S) := by
  obtain ⟨R, F⟩ := S
  unfold beatM
  cases hm : moverO B R F with
  | none => exact ⟨h.st, by show (F.map _).length = _; rw [List.length_map]; exact h.fl, negL_ok h.fo⟩
  | some g =>
    obtain ⟨n, r, f, hg, e1, e2, e3, r1, r2, hne, hf, v1, v2⟩ := mover_new G h hm
    obtain ⟨s1, s2⟩ := take_stands (v := r + f) h.st hg e1 v1 v2
    have hfl : F.length = B.length := h.fl
    have z := goB_stands (F := F) G (B.length - (g + 1)) (R.take g ++ [r + f]) (by rw [s2]; omega) (by rw [s2]; exact s1)
    have zl := goB_len B F (B.length - (g + 1)) (R.take g ++ [r + f])
    rw [s2] at z zl
    have eb : (beatO B R F (some g)).1 = goB B F (B.length - (g + 1)) (R.take g ++ [r + f]) := by
      show goB B F _ (R.take g ++ [R[g]?.getD 0 + F[g]?.getD 0]) = _
      rw [e2, e3]; rfl
    refine ⟨⟨?_, ?_⟩, ?_, fun x hx => ?_⟩
    · show (beatO B R F (some g)).1.length = _
      rw [eb, zl]; omega
    · show StandsTo B (beatO B R F (some g)).1 _
      rw [eb]
      rw [show g + 1 + (B.length - (g + 1)) = B.length by omega] at z; exact z
    · show (F.take (g + 1) ++ (F.drop (g + 1)).map fun f => -f).length = _
      rw [List.length_append, List.length_map, List.length_take, List.length_drop]; omega
    · rcases List.mem_append.mp (show x ∈ F.take (g + 1) ++ (F.drop (g + 1)).map fun f => -f from hx) with hx | hx
      · exact h.fo x (List.mem_of_mem_take hx)
      · exact negL_ok (F := F.drop (g + 1)) (fun y hy => h.fo y (List.mem_of_mem_drop hy)) x hx
theorem goB_back {B : List (List Int)} {R F : List Int} : ∀ (n k : Nat), k + n ≤ R.length → (∀ c, k ≤ c → c < k + n → R[c]? = some (endR ((lenAt B R c).getD 0) (F[c]?.getD 0))) → goB B F n (R.take k) = R.take (k + n)
  | 0, k, _, _ => rfl
  | n + 1, k, hl, h => by
    have hk : (R.take k).length = k := by rw [List.length_take]; omega
    have e : endR ((lenAt B (R.take k) (R.take k).length).getD 0) (F[(R.take k).length]?.getD 0) = endR ((lenAt B R k).getD 0) (F[k]?.getD 0) := by
      rw [hk, lenAt_pre fun i hi => List.getElem?_take_of_lt hi]
    show goB B F n (R.take k ++ [_]) = _
    rw [e]
    have e2 := h k (Nat.le_refl _) (by omega)
    have e3 : R.take k ++ [endR ((lenAt B R k).getD 0) (F[k]?.getD 0)] = R.take (k + 1) := by
      rw [List.take_add_one, e2]; rfl
    rw [e3, goB_back n (k + 1) (by omega) fun c c1 c2 => h c (by omega) (by omega)]
    rw [show k + 1 + n = k + (n + 1) by omega]
theorem beat_rev {B : List (List Int)} {hi : Int} {S : List Int × List Int} (G : GoodB B hi) (h : Ok B S) : beatM B (negS (beatM B S)) = negS S := by
  obtain ⟨R, F⟩ := S
  have hfl : F.length = B.length := h.fl
  have hRl : R.length = B.length := h.st.len
  cases hm : moverO B R F with
  | none =>
    have e : beatM B (R, F) = (R, negL F) := by unfold beatM; rw [show moverO B (R, F).1 (R, F).2 = none from hm]; rfl
    rw [e, show negS (R, negL F) = (R, F) from by unfold negS; rw [negL_neg], e]; rfl
  | some g =>
    obtain ⟨n, r, f, hg, e1, e2, e3, r1, r2, hne, hf, v1, v2⟩ := mover_new G h hm
    obtain ⟨_, _, hbl⟩ := movN_some (n := B.length) hm
    obtain ⟨s1, s2⟩ := take_stands (v := r + f) h.st hg e1 v1 v2
    let R' := goB B F (B.length - (g + 1)) (R.take g ++ [r + f])
    let F' := F.take (g + 1) ++ (F.drop (g + 1)).map fun f => -f
    have eT : beatM B (R, F) = (R', F') := by
      unfold beatM
      rw [show moverO B (R, F).1 (R, F).2 = some g from hm]
      show (goB B F _ (R.take g ++ [R[g]?.getD 0 + F[g]?.getD 0]), _) = _
      rw [e2, e3]; rfl
    have hR'l : R'.length = B.length := by
      have := goB_len B F (B.length - (g + 1)) (R.take g ++ [r + f])
      rw [s2] at this
      show (goB _ _ _ _).length = _
      omega
    have preR : ∀ i, i < g → R'[i]? = R[i]? := fun i hi => by
      show (goB _ _ _ _)[i]? = _
      rw [goB_pre B F _ _ i (by rw [s2]; omega), List.getElem?_append_left (by rw [List.length_take]; omega), List.getElem?_take_of_lt hi]
    have atR : R'[g]? = some (r + f) := by
      show (goB _ _ _ _)[g]? = _
      rw [goB_pre B F _ _ g (by rw [s2]; omega), List.getElem?_append_right (by rw [List.length_take]; omega), List.length_take]
      rw [show g - min g R.length = 0 by omega]; rfl
    have lenG : lenAt B R' g = some n := by rw [lenAt_pre preR]; exact e1
    have postR : ∀ c, g < c → c < B.length → R'[c]? = some (endR ((lenAt B R' c).getD 0) (F[c]?.getD 0)) := fun c c1 c2 =>
      goB_get B F _ _ c (by rw [s2]; omega) (by rw [s2]; omega)
    have NFpre : ∀ c, c ≤ g → (negL F')[c]? = (F[c]?).map fun f => -f := fun c hc => by
      rw [negL_get]
      show ((F.take (g + 1) ++ _)[c]?).map _ = _
      rw [List.getElem?_append_left (by rw [List.length_take]; omega), List.getElem?_take_of_lt (by omega)]
    have NFpost : ∀ c, g < c → (negL F')[c]? = F[c]? := fun c hc => by
      rw [negL_get]
      show ((F.take (g + 1) ++ (F.drop (g + 1)).map fun f => -f)[c]?).map _ = _
      by_cases hcl : c < F.length
      · rw [List.getElem?_append_right (by rw [List.length_take]; omega), List.length_take, List.getElem?_map, List.getElem?_drop]
        rw [show g + 1 + (c - min (g + 1) F.length) = c by omega, List.getElem?_eq_getElem hcl]
        simp
      · rw [List.getElem?_eq_none (by rw [List.length_append, List.length_map, List.length_take, List.length_drop]; omega), List.getElem?_eq_none (by omega)]; rfl
    have hm2 : moverO B R' (negL F') = some g := by
      refine movN_is (n := B.length) hg ?_ fun c c1 c2 => ?_
      · have z := isBl_iff (F := negL F') lenG atR (by rw [NFpre g (Nat.le_refl _), e3]; rfl)
        cases hb : isBl B R' (negL F') g with
        | false => rfl
        | true =>
          have z2 := z.mp hb
          unfold endR at z2 hne
          rcases hf with hf | hf <;> rw [hf] at z2 hne <;> simp at z2 hne <;> omega
      · unfold isBl
        rw [postR c c1 c2, NFpost c c1]
        exact decide_eq_true rfl
    have back : goB B (negL F') (B.length - (g + 1)) (R.take (g + 1)) = R := by
      rw [goB_back (B.length - (g + 1)) (g + 1) (by omega) fun c c1 c2 => ?_]
      · rw [show g + 1 + (B.length - (g + 1)) = R.length by omega, List.take_length]
      · have hb := hbl c (by omega) (by omega)
        obtain ⟨n2, r3, g1, g2, _, _⟩ := h.st.all c (by omega)
        have g3 : F[c]? = some F[c] := List.getElem?_eq_getElem (by omega)
        have z := (isBl_iff (F := F) g1 g2 g3).mp hb
        have g1' : lenAt B R c = some n2 := g1
        have g2' : R[c]? = some r3 := g2
        rw [NFpost c (by omega), g1', g2', g3, z]; rfl
    rw [eT]
    unfold beatM
    show beatO B R' (negL F') (moverO B R' (negL F')) = _
    rw [hm2]
    show (goB B (negL F') (B.length - (g + 1)) (R'.take g ++ [R'[g]?.getD 0 + (negL F')[g]?.getD 0]), (negL F').take (g + 1) ++ ((negL F').drop (g + 1)).map fun f => -f) = (R, negL F)
    have t1 : R'.take g ++ [R'[g]?.getD 0 + (negL F')[g]?.getD 0] = R.take (g + 1) := by
      rw [atR, NFpre g (Nat.le_refl _), e3, List.take_add_one, e2]
      have t0 : R'.take g = R.take g := by
        apply List.ext_getElem?
        intro i
        by_cases hi : i < g
        · rw [List.getElem?_take_of_lt hi, List.getElem?_take_of_lt hi, preR i hi]
        · rw [List.getElem?_eq_none (by rw [List.length_take]; omega), List.getElem?_eq_none (by rw [List.length_take]; omega)]
      rw [t0]
      show R.take g ++ [(r + f) + (-f)] = R.take g ++ [r]
      rw [show r + f + -f = r by omega]
    rw [t1, back]
    congr 1
    apply List.ext_getElem?
    intro i
    have hNl : (negL F').length = B.length := by
      rw [negL_len]
      show (F.take (g + 1) ++ (F.drop (g + 1)).map fun f => -f).length = _
      rw [List.length_append, List.length_map, List.length_take, List.length_drop]; omega
    by_cases hi : i ≤ g
    · rw [List.getElem?_append_left (by rw [List.length_take]; omega), List.getElem?_take_of_lt (by omega), NFpre i hi, negL_get]
    · rw [List.getElem?_append_right (by rw [List.length_take]; omega), List.length_take, List.getElem?_map, List.getElem?_drop]
      rw [show g + 1 + (i - min (g + 1) (negL F').length) = i by omega, NFpost i (by omega), negL_get F i]
/-! beats along -/
def alongL (B : List (List Int)) : Nat → List Int × List Int → List (List Int × List Int)
  | 0, S => [S]
  | n + 1, S => alongL B n S ++ [beatM B ((alongL B n S).getLast?.getD S)]
def itB (B : List (List Int)) : Nat → List Int × List Int → List Int × List Int
  | 0, S => S
  | n + 1, S => beatM B (itB B n S)
theorem alongL_len (B : List (List Int)) : ∀ (n : Nat) (S : List Int × List Int), (alongL B n S).length = n + 1
  | 0, _ => rfl
  | n + 1, S => by
    show (alongL B n S ++ [_]).length = _
    rw [List.length_append, alongL_len B n S]; rfl
theorem alongL_last (B : List (List Int)) : ∀ (n : Nat) (S : List Int × List Int), (alongL B n S).getLast? = some (itB B n S)
  | 0, _ => rfl
  | n + 1, S => by
    show (alongL B n S ++ [_]).getLast? = _
    rw [List.getLast?_append, alongL_last B n S]; rfl
theorem alongL_succ (B : List (List Int)) (n : Nat) (S : List Int × List Int) : alongL B (n + 1) S = alongL B n S ++ [beatM B (itB B n S)] := by
  show alongL B n S ++ [beatM B ((alongL B n S).getLast?.getD S)] = _
  rw [alongL_last]; rfl
theorem itB_ok {B : List (List Int)} {hi : Int} (G : GoodB B hi) : ∀ (n : Nat) {S : List Int × List Int}, Ok B S → Ok B (itB B n S)
  | 0, _, h => h
  | n + 1, _, h => beat_ok G (itB_ok G n h)
def stD (S : List Int × List Int) : PyData := stateT S.1 S.2
end Af
namespace Af
open PySem PySem.Spec PyProof.Rows L2
theorem st_sz {B : List (List Int)} {S : List Int × List Int} (h : Ok B S) (hl : B.length ≤ 1000) : (stD S).depth ≤ 8 ∧ (stD S).bulk ≤ 100000 := by
  have h1 := h.st.len
  have h2 := h.fl
  refine ⟨?_, ?_⟩
  · simp only [stD, stateT, PyData.depth, PyData.depthAll, depth_row]; omega
  · simp only [stD, stateT, PyData.bulk, PyData.bulkAll, bulk_row]; omega
theorem st_zz {B : List (List Int)} {S : List Int × List Int} (h : Ok B S) (hl : B.length ≤ 1000) : Sz (stD S) := by
  have := st_sz h hl
  exact ⟨by omega, by omega⟩
theorem st_three {B : List (List Int)} {S1 S2 S3 : List Int × List Int} (h1 : Ok B S1) (h2 : Ok B S2) (h3 : Ok B S3) (hl : B.length ≤ 1000) : Sz (.list [stD S1, stD S2, stD S3]) :=
  sz_list3 (st_sz h1 hl).1 (st_sz h2 hl).1 (st_sz h3 hl).1 (st_sz h1 hl).2 (st_sz h2 hl).2 (st_sz h3 hl).2
theorem st_two {B : List (List Int)} {S1 S2 : List Int × List Int} (h1 : Ok B S1) (h2 : Ok B S2) (hl : B.length ≤ 1000) : Sz (.list [stD S1, stD S2]) :=
  sz_list2 (st_sz h1 hl).1 (st_sz h2 hl).1 (st_sz h1 hl).2 (st_sz h2 hl).2
theorem eqv_ints : ∀ ns : List Int, PyData.eqvAll (ns.map PyData.int) (ns.map PyData.int) = true
  | [] => by simp [PyData.eqvAll]
  | n :: ns => by simp [PyData.eqvAll, PyData.eqv, eqv_ints ns]
theorem eqv_state (R F : List Int) : PyData.eqv (stateT R F) (stateT R F) = true := by
  simp [stateT, rowT, PyData.eqv, PyData.eqvAll, eqv_ints]
theorem shaped_state (R F : List Int) : SeqAt.shaped (stateT R F) = true := by
  have h1 : (stateT R F).canLay0 = true := by
    have a : ∀ ns : List Int, PyData.canLayAll0 (ns.map PyData.int) = true := fun ns => by
      induction ns with
      | nil => simp [PyData.canLayAll0]
      | cons n ns ih => simp [PyData.canLayAll0, PyData.canLay0, ih]
    simp [stateT, rowT, PyData.canLay0, PyData.canLayAll0, a]
  have h2 : (stateT R F).depth ≤ 64 := by simp only [stateT, PyData.depth, PyData.depthAll, depth_row]; omega
  show ((stateT R F).canLay0 && decide ((stateT R F).depth ≤ 64)) = true
  rw [h1, decide_eq_true h2]; rfl
end Af
namespace Af
open PySem PySem.Spec PyProof.Rows L2
/-! ### what is written out: new data -/
def tNew (K : PySem.W.Frag) (d : PyData) : TE := fun _ H Q => ∀ v H', Same H H' → NewD K H H' v d → Q v H'
def tNewT (K : PySem.W.Frag) (d : PyData) : TE := fun _ H Q => ∀ p H', Same H H' → H p = none → H' p ≠ none → NewD K H H' (.ref p) d → Q (.ref p) H'
def tNews (K : PySem.W.Frag) (ds : List PyData) : TA := fun _ H Q => ∀ vs H', Same H H' → NewDs K H H' vs ds → Q vs H'
section
variable {X : Cx} {e : Expr} {es : List Expr} {d : PyData} {ds : List PyData}
theorem pe_mono {t t' : TE} (h : PE X e t) (i : ∀ σ H Q, t' σ H Q → t σ H Q) : PE X e t' := ⟨fun pins s σ H Q I q => h.run pins s σ H Q I (i σ H Q q)⟩
theorem pn_int {i j pos} : PE X (.Constant (.int i) j pos) (tNew X.K (.int i)) := pe_mono pe_int fun σ H Q q => q _ H (Same.refl _) (.int i)
theorem pn_non {j pos} : PE X (.Constant .none j pos) (tNew X.K .none) := pe_mono pe_non fun σ H Q q => q _ H (Same.refl _) .non
theorem pn_neg {i j p pos} : PE X (.UnaryOp .USub (.Constant (.int i) j p) pos) (tNew X.K (.int (-i))) := pe_mono (pe_un un_neg pe_int) fun σ H Q q => ⟨i, rfl, q _ H (Same.refl _) (.int (-i))⟩
theorem pn_nil : PA X [] (tNews X.K []) := ⟨fun pos pins s σ H Q I q => pa_nil.run pos pins s σ H Q I (q [] H (Same.refl _) .nil)⟩
theorem pn_cons (ha : PE X e (tNew X.K d)) (hr : PA X es (tNews X.K ds)) (hs : starEach (e :: es) X.env = (false, eval e X.env) :: starEach es X.env := by rfl) : PA X (e :: es) (tNews X.K (d :: ds)) :=
  ⟨fun pos pins s σ H Q I q => (pa_cons ha hr hs).run pos pins s σ H Q I fun v H1 s1 h1 vs H2 s2 h2 => q (v :: vs) H2 (s1.trans s2) (.cons (h1.up s2) (dps_up h2 (fresh_down s1)))⟩
theorem pn_tupT {k pos} (h : PA X es (tNews X.K ds)) (hz : ds.length ≤ 1000 := by decide) : PE X (.Tuple es k pos) (tNewT X.K (.tuple ds)) := pe_mono (pe_tup h) fun σ H Q q vs H' s' hd =>
  ⟨by rw [hd.len]; exact Nat.le_of_lt (small1000 hz), fun p np => q p _ (s'.trans (same_new np)) (s'.free np) (by rw [upd_same]; exact fun z => nomatch z) (new_tup (s'.free np) upd_same (hd.up (same_new np)))⟩
theorem pn_tup {k pos} (h : PA X es (tNews X.K ds)) (hz : ds.length ≤ 1000 := by decide) : PE X (.Tuple es k pos) (tNew X.K (.tuple ds)) := pe_mono (pn_tupT h hz) fun σ H Q q p H' s' _ _ hd => q _ H' s' hd
theorem pn_lst {pos} (h : PA X es (tNews X.K ds)) (hz : ds.length ≤ 1000 := by decide) : PE X (.List es pos) (tNew X.K (.list ds)) := pe_mono (pe_lst h) fun σ H Q q vs H' s' hd =>
  ⟨by rw [hd.len]; exact Nat.le_of_lt (small1000 hz), fun p np => q _ _ (s'.trans (same_new np)) (new_lst (s'.free np) upd_same (hd.up (same_new np)))⟩
end
/-! ### checkers -/
def standsB (B : List (List Int)) (R : List Int) : Bool := R.length == B.length && (List.range B.length).all fun c => match lenAt B R c, R[c]? with
  | some n, some r => decide (1 ≤ r) && decide (r ≤ n)
  | _, _ => false
theorem stands_of {B : List (List Int)} {R : List Int} (h : standsB B R = true) : Stands B R := by
  unfold standsB at h
  rw [Bool.and_eq_true, beq_iff_eq, List.all_eq_true] at h
  refine ⟨h.1, fun c hc => ?_⟩
  have := h.2 c (List.mem_range.mpr hc)
  cases e1 : lenAt B R c with
  | none => rw [e1] at this; cases this
  | some n =>
    cases e2 : R[c]? with
    | none => rw [e1, e2] at this; cases this
    | some r =>
      rw [e1, e2] at this
      have := Bool.and_eq_true_iff.mp this
      exact ⟨n, r, rfl, rfl, of_decide_eq_true this.1, of_decide_eq_true this.2⟩
def okB (B : List (List Int)) (S : List Int × List Int) : Bool := standsB B S.1 && (S.2.length == B.length && S.2.all fun f => f == 1 || f == -1)
theorem ok_of {B : List (List Int)} {S : List Int × List Int} (h : okB B S = true) : Ok B S := by
  unfold okB at h
  rw [Bool.and_eq_true, Bool.and_eq_true, beq_iff_eq, List.all_eq_true] at h
  refine ⟨stands_of h.1, h.2.1, fun f hf => ?_⟩
  have := h.2.2 f hf
  rw [Bool.or_eq_true, beq_iff_eq, beq_iff_eq] at this
  exact this
def goodB (B : List (List Int)) (hi : Int) : Bool := (match B[0]? with | some [_] => true | _ => false) && ((List.range B.length).all fun k => match B[k]?, B[k + 1]? with
  | some (n :: ns), some r => decide ((r.length : Int) = ns.foldl max n)
  | _, _ => true) && (B.all fun r => !r.isEmpty && r.all fun x => decide (1 ≤ x) && decide (x ≤ hi))
theorem good_of {B : List (List Int)} {hi : Int} (h : goodB B hi = true) : GoodB B hi := by
  unfold goodB at h
  rw [Bool.and_eq_true, Bool.and_eq_true, List.all_eq_true, List.all_eq_true] at h
  obtain ⟨⟨h1, h2⟩, h3⟩ := h
  refine ⟨?_, fun k n ns r e1 e2 => ?_, fun r hr x hx => ?_, fun r hr e => ?_⟩
  · match e : B[0]?, h1 with
    | some [n], _ => exact ⟨n, rfl⟩
  · have hk : k < B.length := (List.getElem?_eq_some_iff.mp e1).1
    have := h2 k (List.mem_range.mpr hk)
    rw [e1, e2] at this
    exact of_decide_eq_true this
  · have := h3 r hr
    rw [Bool.and_eq_true, List.all_eq_true] at this
    have := Bool.and_eq_true_iff.mp (this.2 x hx)
    exact ⟨of_decide_eq_true this.1, of_decide_eq_true this.2⟩
  · have := h3 r hr
    rw [e] at this; cases this
theorem st_small {B : List (List Int)} {S : List Int × List Int} (h : Ok B S) (hl : B.length ≤ 100) : (stD S).depth ≤ 4 ∧ (stD S).bulk ≤ 500 := by
  have h1 := h.st.len
  have h2 := h.fl
  refine ⟨?_, ?_⟩
  · simp only [stD, stateT, PyData.depth, PyData.depthAll, depth_row]; omega
  · simp only [stD, stateT, PyData.bulk, PyData.bulkAll, bulk_row]; omega
theorem sts_small {B : List (List Int)} (hl : B.length ≤ 100) : ∀ L : List (List Int × List Int), (∀ S ∈ L, Ok B S) → PyData.depthAll (L.map stD) ≤ 4 ∧ PyData.bulkAll (L.map stD) ≤ 501 * L.length
  | [], _ => by simp [PyData.depthAll, PyData.bulkAll]
  | S :: L, h => by
    have i := sts_small hl L fun x hx => h x (List.mem_cons_of_mem _ hx)
    have j := st_small (h S List.mem_cons_self) hl
    simp only [List.map_cons, PyData.depthAll, PyData.bulkAll, List.length_cons]
    omega
theorem along_ok {B : List (List Int)} {hi : Int} (G : GoodB B hi) : ∀ (n : Nat) {S : List Int × List Int}, Ok B S → ∀ x ∈ alongL B n S, Ok B x
  | 0, S, h => fun x hx => by
    obtain rfl : x = S := by simpa [alongL] using hx
    exact h
  | n + 1, S, h => fun x hx => by
    rw [alongL_succ] at hx
    rcases List.mem_append.mp hx with hx | hx
    · exact along_ok G n h x hx
    · obtain rfl : x = beatM B (itB B n S) := by simpa using hx
      exact beat_ok G (itB_ok G n h)
theorem along_list {B : List (List Int)} {hi : Int} (G : GoodB B hi) (hl : B.length ≤ 100) {n : Nat} (hn : n ≤ 60) {S : List Int × List Int} (h : Ok B S) :
    (PyData.list ((alongL B n S).map stD)).depth ≤ 8 ∧ (PyData.list ((alongL B n S).map stD)).bulk ≤ 100000 := by
  have i := sts_small hl _ (along_ok G n h)
  have j := alongL_len B n S
  simp only [PyData.depth, PyData.bulk]
  omega
theorem last_at {α : Type} {l : List α} {n : Nat} {x : α} (hl : l.length = n + 1) (h : l[n]? = some x) : ∃ k, l = k ++ [x] := by
  refine ⟨l.take n, ?_⟩
  apply List.ext_getElem?
  intro i
  by_cases hi : i < n
  · rw [List.getElem?_append_left (by rw [List.length_take]; omega), List.getElem?_take_of_lt hi]
  · by_cases hi2 : i = n
    · subst hi2
      rw [List.getElem?_append_right (by rw [List.length_take]; omega), List.length_take, h, show i - min i l.length = 0 by omega]; rfl
    · rw [List.getElem?_eq_none (by omega), List.getElem?_eq_none (by simp; omega)]
theorem dps_take1 {K : PySem.W.Frag} {H : Hp} : ∀ {vs : List V} {ds : List PyData}, DpAll K H vs ds → DpAll K H (vs.take 1) (ds.take 1)
  | [], [], _ => .nil
  | [], _ :: _, h => by cases h
  | _ :: _, [], h => by cases h
  | v :: vs, d :: ds, h => by
    cases h with
    | cons a _ => exact .cons a .nil
theorem cut_take1 (xs : List V) : cutV xs none (some 1) = xs.take 1 := by
  unfold cutV
  rw [show (some 1 : Option Int) = some ((1 : Nat) : Int) from rfl, HT.sIx_nat, HT.sIx_none, List.drop_zero, Nat.sub_zero]
  cases xs with
  | nil => rfl
  | cons a l => rw [show min 1 (a :: l).length = 1 by simp only [List.length_cons]; omega]
/-- a state that is written out -/
theorem new_st {K : PySem.W.Frag} {H : Hp} {t1 t2 t3 : Addr} {A F : List Int} (n1 : H t1 = none) (n2 : (upd H t1 (.tup (A.map V.int))) t2 = none) (n3 : (upd (upd H t1 (.tup (A.map V.int))) t2 (.tup (F.map V.int))) t3 = none) :
    NewD K H (upd (upd (upd H t1 (.tup (A.map V.int))) t2 (.tup (F.map V.int))) t3 (.tup [.ref t1, .ref t2])) (.ref t3) (stD (A, F)) := by
  have s1 := same_new (o := .tup (A.map V.int)) n1
  have s2 := same_new (o := .tup (F.map V.int)) n2
  have s3 := same_new (o := .tup [.ref t1, .ref t2]) n3
  refine new_tup ((s1.trans s2).free n3) upd_same (.cons (new_tup n1 ((s2.trans s3) _ _ upd_same) (new_ints A)) (.cons (new_tup (s1.free n2) (s3 _ _ upd_same) (new_ints F)) .nil))
end Af
namespace Af
open PySem PySem.Spec PyProof.Rows L2
/-! ### more that is written out -/
def tNewL (K : PySem.W.Frag) (ds : List PyData) : TE := fun _ H Q => ∀ p vs H', Same H H' → H p = none → H' p = some (.lst vs) → NewDs K H H' vs ds → Q (.ref p) H'
section
variable {X : Cx} {e : Expr} {es : List Expr} {d : PyData} {ds : List PyData}
theorem pn_bl {b j pos} : PE X (.Constant (.bool b) j pos) (tNew X.K (.bool b)) := pe_mono pe_bl fun σ H Q q => q _ H (Same.refl _) (.bl b)
theorem pn_str {x j pos} : PE X (.Constant (.str x) j pos) (tNew X.K (.str x)) := pe_mono pe_str fun σ H Q q => q _ H (Same.refl _) (.str x)
theorem pn_pow {j p k r pos} : PE X (.BinOp (.Constant (.int 10) j p) .Pow (.Constant (.int 30) k r) pos) (tNew X.K (.int (10 ^ 30))) := pe_mono (pe_op op_pow pe_int pe_int) fun σ H Q q => ⟨_, _, rfl, rfl, ⟨by decide, by decide, by decide⟩, q _ H (Same.refl _) (.int _)⟩
theorem pn_lstL {pos} (h : PA X es (tNews X.K ds)) (hz : ds.length ≤ 1000 := by decide) : PE X (.List es pos) (tNewL X.K ds) := pe_mono (pe_lst h) fun σ H Q q vs H' s' hd =>
  ⟨by rw [hd.len]; exact Nat.le_of_lt (small1000 hz), fun p np => q p vs _ (s'.trans (same_new np)) (s'.free np) upd_same (hd.up (same_new np))⟩
end
/-! ### plain data with bounded leaves -/
inductive Pl (M : Nat) : PyData → Prop
  | non : Pl M .none
  | bl (b : Bool) : Pl M (.bool b)
  | int (i : Int) : i.natAbs ≤ M → Pl M (.int i)
  | str (x : Str) : (x.cps.toList.all fun c => decide (c < 16 ^ 8)) = true → Pl M (.str x)
  | lst (ds : List PyData) : (∀ d, d ∈ ds → Pl M d) → Pl M (.list ds)
  | tup (ds : List PyData) : (∀ d, d ∈ ds → Pl M d) → Pl M (.tuple ds)
theorem Pl.mono {M N : Nat} (h : M ≤ N) {d : PyData} (p : Pl M d) : Pl N d := by
  induction p with
  | non => exact .non
  | bl b => exact .bl b
  | int i hi => exact .int i (Nat.le_trans hi h)
  | str x hx => exact .str x hx
  | lst ds _ ih => exact .lst ds ih
  | tup ds _ ih => exact .tup ds ih
structure Shows (d : PyData) : Prop where
  shw : d.showable = true
  nod : d.hasDict = false
  shrt : d.leavesShort 40 = true
theorem shows_all : ∀ {ds : List PyData}, (∀ d, d ∈ ds → Shows d) → PyData.showableAll ds = true ∧ PyData.hasDictAll ds = false ∧ PyData.leavesShortAll 40 ds = true
  | [], _ => by simp [PyData.showableAll, PyData.hasDictAll, PyData.leavesShortAll]
  | d :: ds, h => by
    have h1 := h d List.mem_cons_self
    have h2 := shows_all (ds := ds) fun x hx => h x (List.mem_cons_of_mem _ hx)
    simp [PyData.showableAll, PyData.hasDictAll, PyData.leavesShortAll, h1.shw, h1.nod, h1.shrt, h2.1, h2.2.1, h2.2.2]
theorem Pl.shows {M : Nat} (hM : M ≤ 10 ^ 31) {d : PyData} (p : Pl M d) : Shows d := by
  induction p with
  | non => exact ⟨by simp only [PyData.showable], by simp only [PyData.hasDict], by simp only [PyData.leavesShort]⟩
  | bl b => exact ⟨by simp only [PyData.showable], by simp only [PyData.hasDict], by simp only [PyData.leavesShort]⟩
  | int i hi =>
    refine ⟨?_, by simp only [PyData.hasDict], ?_⟩
    · simp only [PyData.showable]
      refine decide_eq_true ?_
      by_cases z : i.natAbs = 0
      · rw [z]; decide
      · have h1 : i.natAbs.log2 < 120 := (Nat.log2_lt z).mpr (Nat.lt_of_le_of_lt (Nat.le_trans hi hM) (by decide))
        omega
    · have h1 := int_text_length_le10 (a := i) (k := 32) (by decide) (Nat.lt_of_le_of_lt (Nat.le_trans hi hM) (by decide))
      simp only [PyData.leavesShort]
      refine decide_eq_true ?_
      show (Str.ofString (toString i)).length ≤ 40
      rw [PySem.ofString_length]; omega
  | str x hx => exact ⟨by simp only [PyData.showable], by simp only [PyData.hasDict], by simp only [PyData.leavesShort]; exact hx⟩
  | lst ds _ ih =>
    have q := shows_all ih
    exact ⟨by simp only [PyData.showable]; exact q.1, by simp only [PyData.hasDict]; exact q.2.1, by simp only [PyData.leavesShort]; exact q.2.2⟩
  | tup ds _ ih =>
    have q := shows_all ih
    exact ⟨by simp only [PyData.showable]; exact q.1, by simp only [PyData.hasDict]; exact q.2.1, by simp only [PyData.leavesShort]; exact q.2.2⟩
theorem Pl.fit {M : Nat} (hM : M ≤ 10 ^ 31) {d : PyData} (p : Pl M d) (h1 : d.depth ≤ 60) (h2 : d.bulk ≤ 100000) : Fit d := by
  have s := p.shows hM
  refine ⟨s.shw, s.nod, h1, ?_⟩
  have h3 := PyData.shown_le_bulk 40 (by decide) d s.shrt
  have h4 := sizeLine_eq
  omega
mutual
def plB : PyData → Bool
  | .none | .bool _ => true
  | .int i => decide (i.natAbs ≤ 10 ^ 30)
  | .str x => x.cps.toList.all fun c => decide (c < 16 ^ 8)
  | .list ds | .tuple ds => plBs ds
  | .dict _ => false
def plBs : List PyData → Bool
  | [] => true
  | d :: ds => plB d && plBs ds
end
mutual
theorem pl_of : ∀ {d : PyData}, plB d = true → Pl (10 ^ 30) d
  | .none, _ => .non
  | .bool b, _ => .bl b
  | .int i, h => .int i (of_decide_eq_true (by simpa only [plB] using h))
  | .str x, h => .str x (by simpa only [plB] using h)
  | .list ds, h => .lst ds (pl_ofs (by simpa only [plB] using h))
  | .tuple ds, h => .tup ds (pl_ofs (by simpa only [plB] using h))
  | .dict _, h => by simp only [plB] at h; cases h
theorem pl_ofs : ∀ {ds : List PyData}, plBs ds = true → ∀ d, d ∈ ds → Pl (10 ^ 30) d
  | [], _ => fun d hd => by cases hd
  | x :: ds, h => fun d hd => by
    simp only [plBs, Bool.and_eq_true] at h
    have p1 := pl_of (d := x) h.1
    have p2 := pl_ofs (ds := ds) h.2
    rcases List.mem_cons.mp hd with e | hd
    · rw [e]; exact p1
    · exact p2 d hd
end
end Af
namespace Af
open PySem PySem.Spec PyProof.Rows L2
/-! ### what was known in G, and what was made since H -/
def mix (G H H' : Hp) : Hp := fun a => match H a with
  | none => H' a
  | some _ => G a
theorem mix_new {G H H' : Hp} {a : Addr} (h : H a = none) : mix G H H' a = H' a := by unfold mix; rw [h]
theorem mix_old {G H H' : Hp} {a : Addr} (h : H a ≠ none) : mix G H H' a = G a := by
  unfold mix
  cases e : H a with
  | none => exact absurd e h
  | some _ => rfl
theorem fresh_mix {G H H' : Hp} : Same (fresh H H') (mix G H H') := fun a o e => by
  obtain ⟨h1, h2⟩ := fresh_inv e
  rw [mix_new h1]; exact h2
theorem in_mix {G H H' : Hp} (h : ∀ a o, G a = some o → H a ≠ none) : Same G (mix G H H') := fun a o e => by rw [mix_old (h a o e)]; exact e
section
variable {K : PySem.W.Frag} {H : Hp}
theorem dps_take : ∀ {vs : List V} {ds : List PyData} (n : Nat), DpAll K H vs ds → DpAll K H (vs.take n) (ds.take n)
  | [], [], _, _ => by simp; exact .nil
  | [], _ :: _, _, h => by cases h
  | _ :: _, [], _, h => by cases h
  | _ :: _, _ :: _, 0, _ => .nil
  | v :: vs, d :: ds, n + 1, h => by
    cases h with
    | cons a b => exact .cons a (dps_take n b)
theorem dps_drop : ∀ {vs : List V} {ds : List PyData} (n : Nat), DpAll K H vs ds → DpAll K H (vs.drop n) (ds.drop n)
  | [], [], _, _ => by simp; exact .nil
  | [], _ :: _, _, h => by cases h
  | _ :: _, [], _, h => by cases h
  | _ :: _, _ :: _, 0, h => h
  | v :: vs, d :: ds, n + 1, h => by
    cases h with
    | cons a b => exact dps_drop n b
theorem dps_set : ∀ {vs : List V} {ds : List PyData} (n : Nat) {v : V} {d : PyData}, DpAll K H vs ds → Dp K H v d → DpAll K H (vs.set n v) (ds.set n d)
  | [], [], _, _, _, _, _ => by simp; exact .nil
  | [], _ :: _, _, _, _, h, _ => by cases h
  | _ :: _, [], _, _, _, h, _ => by cases h
  | _ :: _, _ :: _, 0, _, _, h, g => by
    cases h with
    | cons a b => exact .cons g b
  | v :: vs, d :: ds, n + 1, _, _, h, g => by
    cases h with
    | cons a b => exact .cons a (dps_set n b g)
end
theorem bulk_app : ∀ (as bs : List PyData), PyData.bulkAll (as ++ bs) = PyData.bulkAll as + PyData.bulkAll bs
  | [], bs => by simp [PyData.bulkAll]
  | a :: as, bs => by simp only [List.cons_append, PyData.bulkAll, bulk_app as bs]; omega
theorem bulk_take : ∀ (ds : List PyData) (n : Nat), PyData.bulkAll (ds.take n) ≤ PyData.bulkAll ds
  | [], _ => by simp
  | _ :: _, 0 => by simp [PyData.bulkAll]
  | d :: ds, n + 1 => by have := bulk_take ds n; simp only [List.take_succ_cons, PyData.bulkAll]; omega
theorem bulk_drop : ∀ (ds : List PyData) (n : Nat), PyData.bulkAll (ds.drop n) ≤ PyData.bulkAll ds
  | [], _ => by simp
  | _ :: _, 0 => by simp
  | d :: ds, n + 1 => by have := bulk_drop ds n; simp only [List.drop_succ_cons, PyData.bulkAll]; omega
theorem bulk_set : ∀ (ds : List PyData) (n : Nat) {x y : PyData}, ds[n]? = some x → PyData.bulkAll (ds.set n y) + x.bulk = PyData.bulkAll ds + y.bulk
  | [], _, _, _, h => by simp at h
  | d :: ds, 0, x, y, h => by
    obtain rfl : d = x := by simpa using h
    simp only [List.set_cons_zero, PyData.bulkAll]; omega
  | d :: ds, n + 1, x, y, h => by
    have := bulk_set ds n (x := x) (y := y) (by simpa using h)
    simp only [List.set_cons_succ, PyData.bulkAll]; omega
theorem depth_all {k : Nat} : ∀ {ds : List PyData}, (∀ d, d ∈ ds → d.depth ≤ k) → PyData.depthAll ds ≤ k
  | [], _ => by simp [PyData.depthAll]
  | d :: ds, h => by
    have h1 := h d List.mem_cons_self
    have h2 := depth_all (ds := ds) fun x hx => h x (List.mem_cons_of_mem _ hx)
    simp only [PyData.depthAll]; omega
theorem dps_rep1 {K : PySem.W.Frag} {H : Hp} {x : V} {d : PyData} (h : Dp K H x d) : ∀ k : Nat, DpAll K H (List.replicate k [x]).flatten (List.replicate k d)
  | 0 => .nil
  | k + 1 => .cons h (dps_rep1 h k)
theorem pn_rep {X : Cx} {e : Expr} {d : PyData} {k : Nat} {j p pos} (h : PE X e (tNewT X.K (.tuple [d]))) (h1 : 2 ≤ k) (h2 : k ≤ 1000) : PE X (.BinOp e .Mult (.Constant (.int (k : Int)) j p) pos) (tNew X.K (.tuple (List.replicate k d))) :=
  pe_mono (pe_op op_repT h pe_int) fun σ H Q q l H' s' hn hs hd => by
    cases hd with
    | tup g1 g2 =>
      rename_i xs
      cases g2 with
      | cons a b =>
        cases b
        rename_i x
        refine ⟨l, (k : Int), [x], rfl, rfl, sqt_mono fresh_le g1, (fun z => nomatch z), by omega, by omega, by show 1 ≤ 1000; decide, fun p2 np2 => ?_⟩
        have kk := same_new (o := .tup (List.replicate (k : Int).toNat [x]).flatten) np2
        refine q _ _ (s'.trans kk) (new_tup (s'.free np2) upd_same ?_)
        rw [Int.toNat_natCast]
        exact dps_up (dps_rep1 a k) (fresh_up (by rw [Int.toNat_natCast] at kk; exact kk))
/-- what a list of the bent data may be -/
structure Bent (M k b : Nat) (ds : List PyData) : Prop where
  pl : ∀ d, d ∈ ds → Pl M d
  dep : ∀ d, d ∈ ds → d.depth ≤ k
  blk : PyData.bulkAll ds ≤ b
theorem mem_cut {ds : List PyData} {a b : Nat} {d : PyData} (h : d ∈ (ds.drop a).take b) : d ∈ ds := List.mem_of_mem_drop (List.mem_of_mem_take h)
theorem bulk_cut (ds : List PyData) (a b : Nat) : PyData.bulkAll ((ds.drop a).take b) ≤ PyData.bulkAll ds := Nat.le_trans (bulk_take _ _) (bulk_drop _ _)
theorem bent_cuts {M k b : Nat} {ds : List PyData} (h : Bent M k b ds) (a1 b1 a2 b2 : Nat) : Bent M k (2 * b) ((ds.drop a1).take b1 ++ (ds.drop a2).take b2) := by
  refine ⟨fun d hd => ?_, fun d hd => ?_, ?_⟩
  · rcases List.mem_append.mp hd with hd | hd <;> exact h.pl d (mem_cut hd)
  · rcases List.mem_append.mp hd with hd | hd <;> exact h.dep d (mem_cut hd)
  · rw [bulk_app]
    have h1 := bulk_cut ds a1 b1
    have h2 := bulk_cut ds a2 b2
    have h3 := h.blk
    omega
theorem bent_set {M k k' b c : Nat} {ds : List PyData} (h : Bent M k b ds) {n : Nat} {x y : PyData} (e : ds[n]? = some x) (p : Pl M y) (hd : y.depth ≤ k') (hk : k ≤ k') (hb : y.bulk ≤ 2 * x.bulk + c) : Bent M k' (2 * b + c) (ds.set n y) := by
  refine ⟨fun d hd => ?_, fun d hd' => ?_, ?_⟩
  · rcases List.mem_or_eq_of_mem_set hd with hd | rfl
    · exact h.pl d hd
    · exact p
  · rcases List.mem_or_eq_of_mem_set hd' with hd' | rfl
    · exact Nat.le_trans (h.dep d hd') hk
    · exact hd
  · have h1 := bulk_set ds n (y := y) e
    have h2 := bulk_mem (List.mem_of_getElem? e)
    have h3 := h.blk
    omega
end Af
namespace Af
open PySem PySem.Spec PyProof.Rows L2
/-- repr of any plain datum -/
theorem call_reprV {X : Cx} (hG : X.A.guards = some []) (hu : X.A.units + 70 < cLine) :
    CallR X (.builtin "repr") (fun xs H Q => ∃ (v : V) (d : PyData), xs = [v] ∧ Dp X.K H v d ∧ d.showable = true ∧ d.hasDict = false ∧ d.depth ≤ 60 ∧ d.shown.length ≤ sizeLine ∧ Q (.str (txt d)) H) := by
  intro pins s σ H xs us Q I r h
  obtain ⟨v, d, rfl, hd, h1, h2, h3, h4, q⟩ := h
  cases hd with
  | lst g1 g2 => exact call_reprD hG hu pins s σ H _ us Q I r ⟨_, _, rfl, .lst g1 g2, h1, h2, h3, h4, q⟩
  | tup g1 g2 => exact call_reprD hG hu pins s σ H _ us Q I r ⟨_, _, rfl, .tup g1 g2, h1, h2, h3, h4, q⟩
  | non =>
    rw [txt_eq] at q
    obtain ⟨u, rfl, rx⟩ := vals1 r
    cases rx
    exact PySem.P.repr_of_none ⟨.str _, H, I.tok _, ⟨_, rfl⟩, q⟩
  | bl b =>
    rw [txt_eq] at q
    obtain ⟨u, rfl, rx⟩ := vals1 r
    cases rx
    exact PySem.P.repr_of_bool ⟨.str _, H, I.tok _, ⟨_, rfl⟩, by simpa only [PyData.shown] using q⟩
  | int i =>
    rw [txt_eq] at q
    obtain ⟨u, rfl, t, rfl⟩ := vals1 r
    exact PySem.P.repr_of_int (of_decide_eq_true (by simpa only [PyData.showable] using h1)) ⟨.str _, H, I.tok _, ⟨_, rfl⟩, by simpa only [PyData.shown] using q⟩
  | str x =>
    rw [txt_eq] at q
    obtain ⟨u, rfl, t, rfl⟩ := vals1 r
    exact PySem.P.repr_of_str ⟨.str _, H, I.tok _, ⟨_, rfl⟩, by simpa only [PyData.shown] using q⟩ (by simpa only [PyData.shown] using h4)
end Af
namespace Af
open PySem PySem.Spec PyProof.Rows L2
def topS (i : Nat) : Stmt := PySem.Challenge.pw_aboutface_k01_standings_and_states_or_no.main.body.getD i (.Pass ⟨0, 0, 0, 0⟩)
abbrev sIsWhole : Stmt := topS 1
theorem scIsWhole : FnScope ["value"] ["value"] (defScope sIsWhole) := ⟨rfl, rfl, rfl, by decide +kernel, rfl, by decide +kernel, by decide +kernel⟩
abbrev sAreFaces : Stmt := topS 2
theorem scAreFaces : FnScope ["value", "many", "item"] ["value", "many"] (defScope sAreFaces) := ⟨rfl, rfl, rfl, by decide +kernel, rfl, by decide +kernel, by decide +kernel⟩
abbrev sLengthOf : Stmt := topS 3
theorem scLengthOf : FnScope ["book", "rungs", "climber"] ["book", "rungs", "climber"] (defScope sLengthOf) := ⟨rfl, rfl, rfl, by decide +kernel, rfl, by decide +kernel, by decide +kernel⟩
abbrev sIsStanding : Stmt := topS 4
theorem scIsStanding : FnScope ["book", "value", "climber", "rung"] ["book", "value"] (defScope sIsStanding) := ⟨rfl, rfl, rfl, by decide +kernel, rfl, by decide +kernel, by decide +kernel⟩
abbrev sIsState : Stmt := topS 5
theorem scIsState : FnScope ["book", "value"] ["book", "value"] (defScope sIsState) := ⟨rfl, rfl, rfl, by decide +kernel, rfl, by decide +kernel, by decide +kernel⟩
abbrev sLawBox : Stmt := topS 7
theorem scLawBox : FnScope ["_law_script", "_law_k", "_law_cell"] ["_law_script", "_law_k"] (defScope sLawBox) := ⟨rfl, rfl, rfl, by decide +kernel, rfl, by decide +kernel, by decide +kernel⟩
abbrev sLawTake : Stmt := topS 8
theorem scLawTake : FnScope ["_law_box_here", "_law_span", "_law_found", "_law_once"] ["_law_box_here", "_law_span"] (defScope sLawTake) := ⟨rfl, rfl, rfl, by decide +kernel, rfl, by decide +kernel, by decide +kernel⟩
abbrev sLawCells : Stmt := topS 9
theorem scLawCells : FnScope ["_law_script", "_law_most", "_law_cells_here", "_law_k", "_law_cell"] ["_law_script", "_law_most"] (defScope sLawCells) := ⟨rfl, rfl, rfl, by decide +kernel, rfl, by decide +kernel, by decide +kernel⟩
abbrev sLawOf : Stmt := topS 10
theorem scLawOf : FnScope ["_law_box_here", "_law_some"] ["_law_box_here", "_law_some"] (defScope sLawOf) := ⟨rfl, rfl, rfl, by decide +kernel, rfl, by decide +kernel, by decide +kernel⟩
abbrev sLawSame : Stmt := topS 11
theorem scLawSame : FnScope ["_law_found", "_law_due", "_law_mine", "_law_its"] ["_law_found", "_law_due"] (defScope sLawSame) := ⟨rfl, rfl, rfl, by decide +kernel, rfl, by decide +kernel, by decide +kernel⟩
abbrev sLawLists : Stmt := topS 12
theorem scLawLists : FnScope ["_law_matter", "_law_bit"] ["_law_matter"] (defScope sLawLists) := ⟨rfl, rfl, rfl, by decide +kernel, rfl, by decide +kernel, by decide +kernel⟩
abbrev sLawLadder : Stmt := topS 13
theorem scLawLadder : FnScope ["_law_shelf", "_law_rungs", "_law_who"] ["_law_shelf", "_law_rungs", "_law_who"] (defScope sLawLadder) := ⟨rfl, rfl, rfl, by decide +kernel, rfl, by decide +kernel, by decide +kernel⟩
abbrev sLawRandomBook : Stmt := topS 14
theorem scLawRandomBook : FnScope ["_law_box_here", "_law_most", "_law_high", "_law_found", "_law_k", "_law_top", "_law_rung"] ["_law_box_here", "_law_most", "_law_high"] (defScope sLawRandomBook) := ⟨rfl, rfl, rfl, by decide +kernel, rfl, by decide +kernel, by decide +kernel⟩
abbrev sLawRandomStanding : Stmt := topS 15
theorem scLawRandomStanding : FnScope ["_law_box_here", "_law_shelf", "_law_found", "_law_who"] ["_law_box_here", "_law_shelf"] (defScope sLawRandomStanding) := ⟨rfl, rfl, rfl, by decide +kernel, rfl, by decide +kernel, by decide +kernel⟩
abbrev sLawRandomFaces : Stmt := topS 16
theorem scLawRandomFaces : FnScope ["_law_box_here", "_law_count", "_law_who"] ["_law_box_here", "_law_count"] (defScope sLawRandomFaces) := ⟨rfl, rfl, rfl, by decide +kernel, rfl, by decide +kernel, by decide +kernel⟩
abbrev sLawRandomState : Stmt := topS 17
theorem scLawRandomState : FnScope ["_law_box_here", "_law_shelf"] ["_law_box_here", "_law_shelf"] (defScope sLawRandomState) := ⟨rfl, rfl, rfl, by decide +kernel, rfl, by decide +kernel, by decide +kernel⟩
abbrev sLawAnything : Stmt := topS 18
theorem scLawAnything : FnScope ["_law_box_here", "_law_some"] ["_law_box_here"] (defScope sLawAnything) := ⟨rfl, rfl, rfl, by decide +kernel, rfl, by decide +kernel, by decide +kernel⟩
abbrev sLawChanged : Stmt := topS 19
theorem scLawChanged : FnScope ["_law_box_here", "_law_matter", "_law_sort", "_law_some", "_law_at"] ["_law_box_here", "_law_matter"] (defScope sLawChanged) := ⟨rfl, rfl, rfl, by decide +kernel, rfl, by decide +kernel, by decide +kernel⟩
abbrev sLawStands : Stmt := topS 20
theorem scLawStands : FnScope ["_law_shelf", "_law_matter", "_law_who", "_law_rung"] ["_law_shelf", "_law_matter"] (defScope sLawStands) := ⟨rfl, rfl, rfl, by decide +kernel, rfl, by decide +kernel, by decide +kernel⟩
abbrev sLawIsDue : Stmt := topS 21
theorem scLawIsDue : FnScope ["_law_shelf", "_law_matter", "_law_look"] ["_law_shelf", "_law_matter"] (defScope sLawIsDue) := ⟨rfl, rfl, rfl, by decide +kernel, rfl, by decide +kernel, by decide +kernel⟩
abbrev sLawRight : Stmt := topS 22
theorem scLawRight : FnScope ["_law_box_here", "_law_shelf", "_law_spot", "_law_listed", "_law_some", "_law_turn", "_law_bent", "_law_matter", "_law_kept", "_law_due", "_law_told"] ["_law_box_here"] (defScope sLawRight) := ⟨rfl, rfl, rfl, by decide +kernel, rfl, by decide +kernel, by decide +kernel⟩
abbrev sLaw : Stmt := topS 23
theorem scLaw : FnScope ["_law_script", "_law_cells_here", "_law_k", "_law_box_here", "_law_turn"] ["_law_script"] (defScope sLaw) := ⟨rfl, rfl, rfl, by decide +kernel, rfl, by decide +kernel, by decide +kernel⟩
end Af
namespace Af
open PySem PySem.Spec PyProof.Rows L2
section
variable {P : Program} {w : World} {K : PySem.W.Frag} {mg : Str → Option Value} {base : Heap}
/-! length_of -/
def spLengthOf (K : PySem.W.Frag) : Sp := fun vs H Q _ => ∃ (b r : V) (c : Nat) (bd rd : PyData) (B : List (List Int)) (R : List Int) (n : Int), vs = [b, r, .int c] ∧ Dp K H b bd ∧ BookD bd B ∧ Dp K H r rd ∧ RowD rd R ∧ lenAt B R c = some n ∧ Q (.int n) H
theorem ok_length_of {f : Addr} {fd : FuncData} {k : Nat} (F : Fun K "length_of" "length_of" sLengthOf f fd) : FnOk P w K mg base CX0 (k + 1) f fd ["book", "rungs", "climber"] (spLengthOf K) := by
  refine F.ok scLengthOf (fun vs H Q E h => ?_) (fun cdv A outer s H vs Q E hr h => ?_)
  · obtain ⟨_, _, _, _, _, _, _, _, rfl, _⟩ := h; rfl
  obtain ⟨b, r, c, bd, rd, B, R, n, rfl, hb, hB, hr', hR, hl, q⟩ := h
  refine ⟨_, pss_cons (ps_if (pt_cmpR op_eq (pv 2) pe_int (nomark _)) (pss_one (ps_ret (pe_ix ix_seq (pe_ix ix_seq (pv 0) pe_int (fun _ _ => rfl)) pe_int (fun _ _ => rfl)))) pss_nil)
    (pss_one (ps_ret (pe_ix ix_seq (pe_ix ix_seq (pv 0) (pv 2) (fun _ _ => rfl)) (pe_op op_sub (pe_ix ix_seq (pv 1) (pe_op op_sub (pv 2) pe_int) (fun _ _ => rfl)) pe_int) (fun _ _ => rfl)))), ?_⟩
  refine ⟨_, rfl, rfl, _, rfl, ?_⟩
  refine ite2 (fun e => ?_) (fun e => ?_)
  · have e0 : c = 0 := by have := V.int.inj (of_decide_eq_true e); omega
    subst e0
    obtain ⟨row, e1, e2⟩ := lenAt_zero hl
    obtain ⟨a, xs, ra, rfl, h1, h2, h3⟩ := book_row hb hB e1
    exact ⟨_, rfl, ix_of h1 (atI_nat (j := 0) h2) (ix_of h3 (atI_nat (j := 0) (by rw [List.getElem?_map, e2]; rfl)) q)⟩
  · cases c with
    | zero => exact absurd (decide_eq_true rfl) e
    | succ c =>
      obtain ⟨row, r1, e1, e2, e3, e4⟩ := lenAt_succ hl
      obtain ⟨a, xs, ra, rfl, h1, h2, h3⟩ := book_row hb hB e1
      obtain ⟨sa, rfl, h4⟩ := row_at hr' hR
      have z1 : ((c + 1 : Nat) : Int) - 1 = (c : Nat) := by omega
      have z2 : r1 - 1 = (((r1 - 1).toNat : Nat) : Int) := by omega
      refine ⟨_, rfl, _, rfl, ix_of h1 (atI_nat (j := c + 1) h2) ?_⟩
      refine ⟨_, rfl, _, rfl, _, _, rfl, rfl, ?_⟩
      show rIx K (V.ref sa) (V.int (((c + 1 : Nat) : Int) - 1)) H _
      rw [z1]
      refine ix_of h4 (atI_nat (j := c) (by rw [List.getElem?_map, e2]; rfl)) ⟨_, _, rfl, rfl, ?_⟩
      show rIx K (V.ref ra) (V.int (r1 - 1)) H _
      rw [z2]
      exact ix_of h3 (atI_nat (by rw [List.getElem?_map, e4]; rfl)) q
/-! _law_ladder -/
theorem ok_ladder {f : Addr} {fd : FuncData} {k : Nat} (F : Fun K "_law_ladder" "_law_ladder" sLawLadder f fd) : FnOk P w K mg base CX0 (k + 1) f fd ["_law_shelf", "_law_rungs", "_law_who"] (spLengthOf K) := by
  refine F.ok scLawLadder (fun vs H Q E h => ?_) (fun cdv A outer s H vs Q E hr h => ?_)
  · obtain ⟨_, _, _, _, _, _, _, _, rfl, _⟩ := h; rfl
  obtain ⟨b, r, c, bd, rd, B, R, n, rfl, hb, hB, hr', hR, hl, q⟩ := h
  refine ⟨_, pss_one (ps_ret (pe_ifExp (pt_cmpR op_eq (pv 2) pe_int (nomark _)) (pe_ix ix_seq (pe_ix ix_seq (pv 0) pe_int (fun _ _ => rfl)) pe_int (fun _ _ => rfl))
    (pe_ix ix_seq (pe_ix ix_seq (pv 0) (pv 2) (fun _ _ => rfl)) (pe_op op_sub (pe_ix ix_seq (pv 1) (pe_op op_sub (pv 2) pe_int) (fun _ _ => rfl)) pe_int) (fun _ _ => rfl)))), ?_⟩
  refine ⟨_, rfl, rfl, _, rfl, ?_⟩
  refine ite2 (fun e => ?_) (fun e => ?_)
  · have e0 : c = 0 := by have := V.int.inj (of_decide_eq_true e); omega
    subst e0
    obtain ⟨row, e1, e2⟩ := lenAt_zero hl
    obtain ⟨a, xs, ra, rfl, h1, h2, h3⟩ := book_row hb hB e1
    exact ⟨_, rfl, ix_of h1 (atI_nat (j := 0) h2) (ix_of h3 (atI_nat (j := 0) (by rw [List.getElem?_map, e2]; rfl)) q)⟩
  · cases c with
    | zero => exact absurd (decide_eq_true rfl) e
    | succ c =>
      obtain ⟨row, r1, e1, e2, e3, e4⟩ := lenAt_succ hl
      obtain ⟨a, xs, ra, rfl, h1, h2, h3⟩ := book_row hb hB e1
      obtain ⟨sa, rfl, h4⟩ := row_at hr' hR
      have z1 : ((c + 1 : Nat) : Int) - 1 = (c : Nat) := by omega
      have z2 : r1 - 1 = (((r1 - 1).toNat : Nat) : Int) := by omega
      refine ⟨_, rfl, _, rfl, ix_of h1 (atI_nat (j := c + 1) h2) ?_⟩
      refine ⟨_, rfl, _, rfl, _, _, rfl, rfl, ?_⟩
      show rIx K (V.ref sa) (V.int (((c + 1 : Nat) : Int) - 1)) H _
      rw [z1]
      refine ix_of h4 (atI_nat (j := c) (by rw [List.getElem?_map, e2]; rfl)) ⟨_, _, rfl, rfl, ?_⟩
      show rIx K (V.ref ra) (V.int (r1 - 1)) H _
      rw [z2]
      exact ix_of h3 (atI_nat (by rw [List.getElem?_map, e4]; rfl)) q
end
end Af
namespace Af
open PySem PySem.Spec PyProof.Rows L2
section
variable {P : Program} {w : World} {K : PySem.W.Frag} {mg : Str → Option Value} {base : Heap}
/-! _law_take: some number below the span -/
def spTake : Sp := fun vs H Q _ => ∃ (bx : Addr) (span : Int) (m : Nat), vs = [.ref bx, .int span] ∧ Box H bx m ∧ m ≤ 1000000000 ∧ 1 ≤ span ∧ span ≤ 10000000 ∧
  ∀ (r : Int) (H' : Hp), 0 ≤ r → r < span → Box H' bx (m + 1) → hid H' bx = hid H bx → Q (.int r) H'
theorem ok_take {f : Addr} {fd : FuncData} {k : Nat} (F : Fun K "_law_take" "_law_take" sLawTake f fd) : FnOk P w K mg base CX0 (k + 1) f fd ["_law_box_here", "_law_span"] spTake := by
  refine F.ok scLawTake (fun vs H Q E h => ?_) (fun cdv A outer s H vs Q E hr h => ?_)
  · obtain ⟨_, _, _, rfl, _⟩ := h; rfl
  obtain ⟨bx, span, m, rfl, hB, hm, s1, s2, q⟩ := h
  refine ⟨_, pss_cons (ps_if (pt_cmpR op_gt (pe_ix ix_list (pv 0) pe_int (fun _ _ => rfl)) pe_int (nomark _))
      (pss_cons (ps_set (i := 2) scLawTake.nd rfl (.inl rfl) (pe_op op_mod (pe_ix ix_list (pv 0) pe_int (fun _ _ => rfl)) (pv 1)))
      (pss_cons (ps_asg (pe_op op_fdiv (pe_ix ix_list (pv 0) pe_int (fun _ _ => rfl)) (pv 1)) (pg_sub (pv 0) pe_int set_list))
      (pss_one (ps_ret (pv 2))))) pss_nil)
    (pss_cons (ps_if (pt_cmpR op_gt (pv 1) (pe_op op_pow pe_int pe_int) (nomark _)) pss_never pss_nil)
    (pss_cons (ps_asg (pe_op op_add (pe_ix ix_list (pv 0) pe_int (fun _ _ => rfl)) pe_int) (pg_sub (pv 0) pe_int set_list))
    (pss_cons (ps_set (i := 3) scLawTake.nd rfl (.inl rfl) (pe_op op_mod (pe_op op_pow (pe_op op_add (pe_ix ix_list (pv 0) pe_int (fun _ _ => rfl)) (pe_op op_mul pe_int (pe_ix ix_list (pv 0) pe_int (fun _ _ => rfl)))) pe_int) pe_int))
    (pss_one (ps_ret (pe_op op_mod (pe_op op_fdiv (pe_op op_mod (pe_op op_add (pe_op op_mul (pv 3) (pe_op op_add (pe_op op_mod (pv 3) pe_int) pe_int)) (pe_op op_mul (pe_ix ix_list (pv 0) pe_int (fun _ _ => rfl)) pe_int)) pe_int) pe_int) (pv 1))))))), ?_⟩
  obtain ⟨a, b, c, hb, a0, b0, b1, c0, c1⟩ := hB
  have hL : SqL K H bx [.int a, .int b, .int c] := SqL.of hb
  refine ⟨_, rfl, bx, _, 0, _, rfl, rfl, hL, atI_nat (j := 0) rfl, _, _, rfl, rfl, _, rfl, ?_⟩
  refine ite2 (fun e => ?_) (fun e => ?_)
  · refine ⟨_, rfl, bx, _, 0, _, rfl, rfl, hL, atI_nat (j := 0) rfl, _, rfl, _, _, rfl, rfl, (show (0 : Int) < span by omega), ?_⟩
    refine ⟨_, rfl, bx, _, 0, _, rfl, rfl, hL, atI_nat (j := 0) rfl, _, rfl, _, _, rfl, rfl, ⟨(show (0 : Int) < span by omega), (show span < 1073741824 by omega)⟩, ?_⟩
    refine ⟨_, rfl, bx, _, 0, 0, rfl, rfl, hb, rfl, ?_⟩
    refine ⟨_, rfl, q (a % span) _ (Int.emod_nonneg _ (by omega)) (Int.emod_lt_of_pos _ (by omega)) ?_ hid_upd⟩
    exact ⟨a / span, b, c, upd_same, Int.ediv_nonneg a0 (by omega), b0, b1, c0, by omega⟩
  · refine ⟨_, rfl, _, _, rfl, rfl, ⟨by decide, by decide, by decide⟩, _, _, rfl, rfl, _, rfl, ?_⟩
    refine ite2 (fun e2 => ?_) (fun _ => ?_)
    · have z : (10 : Int) ^ (7 : Int).toNat < span := of_decide_eq_true e2
      have z2 : (10 : Int) ^ (7 : Int).toNat = 10000000 := by decide
      omega
    · refine ⟨_, rfl, bx, _, 2, _, rfl, rfl, hL, atI_nat (j := 2) rfl, _, _, rfl, rfl, ?_⟩
      refine ⟨_, rfl, bx, _, 2, 2, rfl, rfl, hb, rfl, ?_⟩
      show _
      have hb2 : (upd H bx (.lst [.int a, .int b, .int (c + 1)])) bx = some (.lst [.int a, .int b, .int (c + 1)]) := upd_same
      have hL2 : SqL K (upd H bx (.lst [.int a, .int b, .int (c + 1)])) bx [.int a, .int b, .int (c + 1)] := SqL.of hb2
      refine ⟨_, rfl, bx, _, 1, _, rfl, rfl, hL2, atI_nat (j := 1) rfl, _, rfl, bx, _, 2, _, rfl, rfl, hL2, atI_nat (j := 2) rfl, _, _, rfl, rfl, .inl ⟨by decide, by decide⟩, _, _, rfl, rfl, _, _, rfl, rfl, ⟨by decide, by decide, ?_⟩, _, _, rfl, rfl, (show (0 : Int) < 2147483647 by decide), ?_⟩
      · show (b + 39373 * (c + 1)).natAbs < 2 ^ 64
        have : b < 4611686018427387904 := b1
        have e64 : (2 : Nat) ^ 64 = 18446744073709551616 := by decide
        omega
      · generalize ho : (b + 39373 * (c + 1)) ^ (5 : Int).toNat % 2147483647 = once
        have o1 : 0 ≤ once := by rw [← ho]; exact Int.emod_nonneg _ (by decide)
        have o2 : once < 2147483647 := by rw [← ho]; exact Int.emod_lt_of_pos _ (by decide)
        refine ⟨_, rfl, _, rfl, _, _, rfl, rfl, (show (0 : Int) < 40009 by decide), _, _, rfl, rfl, _, _, rfl, rfl, .inl ⟨by omega, by omega⟩, _, rfl, bx, _, 2, _, rfl, rfl, hL2, atI_nat (j := 2) rfl, _, _, rfl, rfl, .inr ⟨by decide, by decide⟩, _, _, rfl, rfl, _, _, rfl, rfl, (show (0 : Int) < 2147483629 by decide), _, _, rfl, rfl, ⟨by decide, by decide⟩, _, rfl, _, _, rfl, rfl, (show (0 : Int) < span by omega), ?_⟩
        exact q _ _ (Int.emod_nonneg _ (by omega)) (Int.emod_lt_of_pos _ (by omega)) ⟨a, b, c + 1, upd_same, a0, b0, b1, by omega, by omega⟩ hid_upd
end
end Af
namespace Af
open PySem PySem.Spec PyProof.Rows L2
section
variable {P : Program} {w : World} {K : PySem.W.Frag} {mg : Str → Option Value} {base : Heap}
/-! _law_box -/
theorem b01 (b : Bool) : -(2 ^ 64) < (if b = true then (1 : Int) else 0) ∧ (if b = true then (1 : Int) else 0) < 2 ^ 64 := by cases b <;> exact ⟨by decide, by decide⟩
theorem b01n (b : Bool) : 0 ≤ (if b = true then (1 : Int) else 0) := by cases b <;> decide
def spBox (K : PySem.W.Frag) : Sp := fun vs H Q _ => ∃ (a : Addr) (ns : List Int) (k : Nat), vs = [.ref a, .int k] ∧ SqL K H a (ns.map V.int) ∧ k ≤ 1000 ∧
  ∀ (p : Addr) (H' : Hp), H p = none → Same H (hid H' p) → Box H' p 0 → Q (.ref p) H'
theorem ok_box {f : Addr} {fd : FuncData} {k : Nat} (T : Bl mg) (F : Fun K "_law_box" "_law_box" sLawBox f fd) : FnOk P w K mg base CX0 (k + 1) f fd ["_law_script", "_law_k"] (spBox K) := by
  refine F.ok scLawBox (fun vs H Q E h => ?_) (fun cdv A outer s H vs Q E hr h => ?_)
  · obtain ⟨_, _, _, rfl, _⟩ := h; rfl
  obtain ⟨a, ns, k, rfl, hS, hk, q⟩ := h
  refine ⟨_, C8.pss_cut (ps_set (i := 2) scLawBox.nd rfl (.inl rfl) (pe_ifExp (pt_cmpR op_lt (pv 1) (pe_callB call_len_seq rfl T.len bLen (pa_cons (pv 0) pa_nil)) (nomark _)) (pe_ix ix_list (pv 0) (pv 1) (fun _ _ => rfl)) pe_int))
    (pss_one (ps_ret (pe_lst (pa_cons (pe_op op_mul (pe_callB call_abs rfl T.abs bAbs (pa_cons (pv 2) pa_nil)) (pe_callTy call_int1 rfl T.int bInt (pa_cons (pe_cmpR op_ge (pe_callB call_abs rfl T.abs bAbs (pa_cons (pv 2) pa_nil)) (pe_op op_pow pe_int pe_int) (nomark _)) pa_nil)))
      (pa_cons (pe_op op_add (pe_op op_add (pe_op op_mod (pv 2) pe_int) (pe_op op_mul pe_int (pv 1))) pe_int) (pa_cons pe_int pa_nil)))))), ?_⟩
  refine ⟨fun σ H' => ∃ c : Int, σ = [some (.ref a), some (.int k), some (.int c)] ∧ H' = H, ?_, ?_⟩
  · refine ⟨_, rfl, _, rfl, a, _, rfl, .inl hS, _, _, rfl, rfl, _, rfl, ?_⟩
    refine ite2 (fun e => ?_) (fun e => ?_)
    · have hlt : k < ns.length := by
        have z : (k : Int) < (((ns.map V.int).length : Nat) : Int) := of_decide_eq_true e
        rw [List.length_map] at z; omega
      exact ⟨_, rfl, _, rfl, a, _, _, _, rfl, rfl, hS, atI_nat (by rw [List.getElem?_map, List.getElem?_eq_getElem hlt]; rfl), _, rfl, rfl⟩
    · exact ⟨_, rfl, rfl⟩
  · rintro σ H' ⟨c, rfl, rfl⟩
    have hi : ∀ x : Int, 0 ≤ (if x < 0 then -x else x) := fun x => by split <;> omega
    refine ⟨_, rfl, _, rfl, _, rfl, _, rfl, _, _, rfl, rfl, ⟨by decide, by decide, by decide⟩, _, _, rfl, rfl, .inr ⟨_, rfl, _, _, rfl, rfl, .inr ?_, ?_⟩⟩
    · exact b01 _
    · refine ⟨_, rfl, _, _, rfl, rfl, (show (0 : Int) < 2305843009213693951 by decide), _, rfl, _, _, rfl, rfl, .inl ⟨by decide, by decide⟩, _, _, rfl, rfl, _, _, rfl, rfl, (by show 3 ≤ sizeLine; decide), fun p hp => ?_⟩
      have m1 : 0 ≤ c % 2305843009213693951 := Int.emod_nonneg _ (by decide)
      have m2 : c % 2305843009213693951 < 2305843009213693951 := Int.emod_lt_of_pos _ (by decide)
      refine q p _ hp (fun b o e => ?_) ⟨_, _, _, upd_same, ?_, ?_, ?_, by decide, by decide⟩
      · have nb := ne_of_none e hp
        rw [hid_ne nb, upd_ne nb]; exact e
      · exact Int.mul_nonneg (hi c) (b01n _)
      · omega
      · have e62 : (2 : Int) ^ 62 = 4611686018427387904 := by decide
        rw [e62]; omega
end
end Af
namespace Af
open PySem PySem.Spec PyProof.Rows L2
section
variable {P : Program} {w : World} {K : PySem.W.Frag} {mg : Str → Option Value} {base : Heap}
/-! _law_cells -/
theorem cut_ints (ns : List Int) (lo hi : Option Int) : cutV (ns.map V.int) lo hi = ((ns.drop (HT.sIx ns.length 0 lo)).take (HT.sIx ns.length ns.length hi - HT.sIx ns.length 0 lo)).map V.int := by
  unfold cutV
  rw [List.length_map, List.map_take, List.map_drop]
theorem ixN_nat {n j : Nat} (h : j < n) : ixN n (j : Int) = some j := by
  unfold ixN
  rw [if_pos (by omega), if_pos (by omega), Int.toNat_natCast]
theorem shaped_flat {d : PyData} (h1 : d.canLay0 = true) (h2 : d.depth ≤ 64) : SeqAt.shaped d = true := by
  show (d.canLay0 && decide (d.depth ≤ 64)) = true
  rw [h1, decide_eq_true h2]; rfl
theorem lay_ints : ∀ ns : List Int, PyData.canLayAll0 (ns.map PyData.int) = true
  | [] => by simp [PyData.canLayAll0]
  | n :: ns => by simp [PyData.canLayAll0, PyData.canLay0, lay_ints ns]
theorem shaped_ints (ns : List Int) : SeqAt.shaped (.list (ns.map PyData.int)) = true :=
  shaped_flat (by simp only [PyData.canLay0]; exact lay_ints ns) (by simp only [PyData.depth]; rw [depth_ints]; decide)
theorem eqv_ints_nil (ns : List Int) : PyData.eqv (.list (ns.map PyData.int)) (.list []) = ns.isEmpty := by
  cases ns <;> simp [PyData.eqv, PyData.eqvAll]
theorem dp_lst_ints {K : PySem.W.Frag} {H : Hp} {p : Addr} {ns : List Int} (h : H p = some (.lst (ns.map V.int))) : Dp K H (.ref p) (.list (ns.map PyData.int)) := .lst (SqL.of h) (dps_ints ns)
def spCells (K : PySem.W.Frag) : Sp := fun vs H Q _ => ∃ (a : Addr) (ns : List Int) (most : Nat), vs = [.ref a, .int most] ∧ SqL K H a (ns.map V.int) ∧ ns.length ≤ 63 ∧ 1 ≤ most ∧ most ≤ 10 ∧
  ∀ (p : Addr) (H' : Hp) (cs : List Int), H p = none → Same H H' → H' p = some (.lst (cs.map V.int)) → cs.length ≤ most → 1 ≤ cs.length → Q (.ref p) H'
theorem ok_cells {f : Addr} {fd : FuncData} {k : Nat} (T : Bl mg) (F : Fun K "_law_cells" "_law_cells" sLawCells f fd) : FnOk P w K mg base CX0 (k + 1) f fd ["_law_script", "_law_most"] (spCells K) := by
  refine F.ok scLawCells (fun vs H Q E h => ?_) (fun cdv A outer s H vs Q E hr h => ?_)
  · obtain ⟨_, _, _, rfl, _⟩ := h; rfl
  obtain ⟨a, ns, most, rfl, hS, h63, m1, m2, q⟩ := h
  have hu := hr.units
  refine ⟨_, pss_cons (ps_set (i := 2) scLawCells.nd rfl (.inl rfl) (pe_callTy call_list_of rfl T.list bList (pa_cons (pe_slice sl_list (pv 0) po_none (po_some (pv 1))) pa_nil)))
    (pss_cons (ps_for PassesOwn.never rfl (pi_enum rfl T.enum (pa_cons (pe_slice sl_list (pv 0) (po_some (pv 1)) (po_some pe_int)) pa_nil))
        (pg_tup rfl (pgs_cons (pg_name (i := 3) scLawCells.nd rfl (.inl rfl)) (pgs_cons (pg_name (i := 4) scLawCells.nd rfl (.inl rfl)) pgs_nil)))
        (pss_one (ps_asg (pe_op op_add (pe_ix ix_list (pv 2) (pe_op op_mod (pv 3) (pv 1)) (fun _ _ => rfl)) (pe_op op_mul (pv 4) (pe_op op_add (pv 3) pe_int))) (pg_sub (pv 2) (pe_op op_mod (pv 3) (pv 1)) set_list))))
    (pss_one (ps_ret (pe_ifExp (pt_cmpR (op_neD hu) (pv 2) (pe_lst pa_nil) (nomark _)) (pv 2) (pe_lst (pa_cons pe_int pa_nil)))))), ?_⟩
  -- list(script[:most])
  refine ⟨_, rfl, _, rfl, _, rfl, a, _, rfl, hS, fun c nc => ?_⟩
  rw [cut_ints, HT.sIx_nat, HT.sIx_none, List.drop_zero, Nat.sub_zero]
  refine ⟨c, _, rfl, .inl (SqL.of upd_same), fun p np => ?_⟩
  have s1 := same_new (o := .lst ((ns.take (min most ns.length)).map V.int)) nc
  have s2 := same_new (o := .lst ((ns.take (min most ns.length)).map V.int)) np
  have np0 : H p = none := s1.free np
  have hp : (upd (upd H c (.lst ((ns.take (min most ns.length)).map V.int))) p (.lst ((ns.take (min most ns.length)).map V.int))) p = some (.lst ((ns.take (min most ns.length)).map V.int)) := upd_same
  have s12 := s1.trans s2
  generalize upd (upd H c (.lst ((ns.take (min most ns.length)).map V.int))) p (.lst ((ns.take (min most ns.length)).map V.int)) = H1 at hp s12
  -- script[most:63]
  refine ⟨_, rfl, _, rfl, _, rfl, 63, rfl, a, _, rfl, s12.seq hS, fun e ne => ?_⟩
  rw [cut_ints, HT.sIx_nat, show HT.sIx ns.length ns.length (some (63 : Int)) = min 63 ns.length from HT.sIx_nat ns.length ns.length 63]
  generalize hsl : (ns.drop (min most ns.length)).take (min 63 ns.length - min most ns.length) = sl
  refine ⟨e, _, rfl, SqL.of upd_same, ?_⟩
  have nep : e ≠ p := fun z => by rw [z, hp] at ne; cases ne
  have s3 := same_new (o := .lst (sl.map V.int)) ne
  refine for_it (walk_enum (xs := sl.map V.int)) (fun i σ H3 => ∃ (y3 y4 : Option V) (cs : List Int), σ = [some (.ref a), some (.int most), some (.ref p), y3, y4] ∧ cs.length = min most ns.length ∧ H3 p = some (.lst (cs.map V.int)) ∧ Same H H3 ∧ H3 e = some (.lst (sl.map V.int)))
    ⟨none, none, _, rfl, by rw [List.length_take]; omega, (s3 _ _ hp), s12.trans s3, upd_same⟩ (fun i σ H3 _ ⟨_, _, _, _, _, _, _, he⟩ => SqL.of he) (fun i x σ H3 H4 hi hP hy => ?_) (fun σ H3 hP => ?_)
  · obtain ⟨y3, y4, cs, rfl, hc, hp3, sm, he⟩ := hP
    obtain ⟨Tt, x1, x2, rfl, nT, rfl, e1, e2⟩ := hy
    have e1' : x1 = .int (i : Nat) := (Option.some.inj e1).symm
    subst e1'
    obtain ⟨v, e3, rfl⟩ : ∃ v, sl[i]? = some v ∧ V.int v = x2 := by
      have e2' : (sl.map V.int)[i]? = some x2 := e2
      rw [List.getElem?_map] at e2'
      cases z : sl[i]? with
      | none => rw [z] at e2'; cases e2'
      | some v => rw [z] at e2'; exact ⟨v, rfl, Option.some.inj e2'⟩
    have hlen : most < ns.length := by
      have z : i < sl.length := (List.getElem?_eq_some_iff.mp e3).1
      rw [← hsl, List.length_take, List.length_drop] at z
      omega
    have hcl : cs.length = most := by omega
    have hT := same_new (o := .tup [.int (i : Nat), .int v]) nT
    have hpT : (upd H3 Tt (.tup [.int (i : Nat), .int v])) p = some (.lst (cs.map V.int)) := hT _ _ hp3
    have ej : ((i : Nat) : Int) % (most : Int) = ((i % most : Nat) : Int) := rfl
    have jl : i % most < cs.length := by rw [hcl]; exact Nat.mod_lt _ (by omega)
    refine ⟨Tt, _, rfl, .inl (.inl upd_same), rfl, _, _, rfl, _, _, rfl, rfl, ?_⟩
    refine ⟨_, rfl, _, rfl, _, rfl, _, _, rfl, rfl, (show (0 : Int) < most by omega), ?_⟩
    refine ⟨p, _, ((i % most : Nat) : Int), _, rfl, rfl, SqL.of hpT, atI_nat (j := i % most) (by rw [List.getElem?_map, List.getElem?_eq_getElem jl]; rfl), ?_⟩
    refine ⟨_, rfl, _, rfl, _, _, rfl, rfl, _, _, rfl, rfl, .inr ⟨by omega, ?_⟩, _, _, rfl, rfl, ?_⟩
    · have z : i < sl.length := (List.getElem?_eq_some_iff.mp e3).1
      rw [← hsl, List.length_take, List.length_drop] at z
      have : ((i : Nat) : Int) + 2 < 18446744073709551616 := by omega
      exact this
    refine ⟨_, rfl, _, rfl, _, rfl, _, _, rfl, rfl, (show (0 : Int) < most by omega), ?_⟩
    refine ⟨p, _, ((i % most : Nat) : Int), i % most, rfl, rfl, hpT, ixN_nat (by rw [List.length_map]; exact jl), ?_⟩
    refine ⟨_, _, cs.set (i % most) (cs[i % most] + v * ((i : Nat) + 2)), rfl, by rw [List.length_set]; exact hc, ?_, fun b o eb => ?_, ?_⟩
    · rw [upd_same, List.map_set]
    · rw [upd_ne (ne_of_none eb np0)]; exact hT _ _ (sm _ _ eb)
    · rw [upd_ne nep]; exact hT _ _ he
  · obtain ⟨y3, y4, cs, rfl, hc, hp3, sm, he⟩ := hP
    refine ⟨_, rfl, by show 0 ≤ sizeLine; decide, fun z nz => ?_⟩
    have sz := same_new (o := .lst []) nz
    refine ⟨_, _, dp_lst_ints (sz _ _ hp3), .lst (SqL.of upd_same) .nil, shaped_ints cs, shaped_ints [], _, rfl, ?_⟩
    rw [eqv_ints_nil]
    refine ite2 (fun e0 => ?_) (fun e0 => ?_)
    · have h1 : 1 ≤ cs.length := by cases cs with | nil => cases e0 | cons _ _ => simp
      exact ⟨_, rfl, q p _ cs np0 (sm.trans sz) (sz _ _ hp3) (by omega) h1⟩
    · refine ⟨by show 1 ≤ sizeLine; decide, fun r nr => ?_⟩
      have sr := same_new (o := .lst [.int 0]) nr
      exact q r _ [0] (sm.free (sz.free nr)) (sm.trans (sz.trans sr)) upd_same (by simpa using m1) (by simp)
end
end Af
namespace Af
open PySem PySem.Spec PyProof.Rows L2
section
variable {P : Program} {w : World} {K : PySem.W.Frag} {mg : Str → Option Value} {base : Heap}
theorem yesT {σ : L2.St} {H : Hp} {A B : Hp → Prop} (h : A H) : tYes σ H (fun b H3 => if b = true then A H3 else B H3) := by
  show (if true = true then A H else B H)
  exact iteT h
/-! zip of two tuples, walked -/
theorem walk_zipT {K : PySem.W.Frag} {a b : Addr} {xs ys : List V} {n : Nat} (hn : n = min xs.length ys.length) : Walk (RZ.ItzT K a b) n (fun H => SqT K H a xs ∧ SqT K H b ys) (YPair (fun i => xs[i]?) (fun i => ys[i]?)) := by
  subst hn
  refine ⟨fun i _ hi q => ?_, fun _ q => ⟨xs, ys, q.1, q.2, by omega⟩, fun i H v H' _ q y => ?_⟩
  · exact ⟨xs, ys, xs[i]'(by omega), ys[i]'(by omega), q.1, q.2, List.getElem?_eq_getElem (by omega), List.getElem?_eq_getElem (by omega)⟩
  · obtain ⟨T, x, z, h1, h2, h3, h4, h5⟩ := y
    exact ⟨T, x, z, h1, h2, h3, h4 xs q.1, h5 ys q.2⟩
theorem qT {Q : VK} {H : Hp} {b : Bool} (e : b = true) (h : Q (.bl true) H) : Q (.bl b) H := by rw [e]; exact h
/-! _law_same of one datum, twice -/
def spSame (K : PySem.W.Frag) (n : Nat) : Sp := fun vs H Q _ => ∃ (x y : V) (d : PyData), vs = [x, y] ∧ Dp K H x d ∧ Dp K H y d ∧ d.depth < n ∧ d.bulk ≤ 1000000 ∧ ∀ H', Same H H' → Q (.bl true) H'
theorem ok_same1 {f : Addr} {fd : FuncData} {n : Nat} (T : Bl mg) (D : Df K mg "_law_same" sLawSame ["_law_found", "_law_due"] f fd) (G : FnOk P w K mg base CX0 n f fd ["_law_found", "_law_due"] (spSame K n)) :
    FnOk P w K mg base CX0 (n + 1) f fd ["_law_found", "_law_due"] (spSame K (n + 1)) := by
  refine D.F.ok scLawSame (fun vs H Q E h => ?_) (fun cdv A outer s H vs Q E hr h => ?_)
  · obtain ⟨_, _, _, rfl, _⟩ := h; rfl
  obtain ⟨x, y, d, rfl, hx, hy, hd, hb, q⟩ := h
  have nd := scLawSame.nd
  refine ⟨_, pss_cons (ps_if (pt_val (pe_callB call_isD2 rfl T.isi bIsi (pa_cons (pv 1) (pa_cons (pe_tup (pa_cons (pe_bltn (v := .ty "list") rfl T.list bList rfl) (pa_cons (pe_bltn (v := .ty "tuple") rfl T.tuple bTuple rfl) pa_nil))) pa_nil))))
      (pss_cons (ps_if (PW.pt (pw_or (pt_cmpR op_ne (pe_callB call_isD rfl T.isi bIsi (pa_cons (pv 0) (pa_cons (pe_bltn (v := .ty "list") rfl T.list bList rfl) pa_nil))) (pe_callB call_isD rfl T.isi bIsi (pa_cons (pv 1) (pa_cons (pe_bltn (v := .ty "list") rfl T.list bList rfl) pa_nil))) (nomark _))
          (pw_or1 (pt_cmpR op_ne (pe_callB call_isD rfl T.isi bIsi (pa_cons (pv 0) (pa_cons (pe_bltn (v := .ty "tuple") rfl T.tuple bTuple rfl) pa_nil))) (pe_callB call_isD rfl T.isi bIsi (pa_cons (pv 1) (pa_cons (pe_bltn (v := .ty "tuple") rfl T.tuple bTuple rfl) pa_nil))) (nomark _)))))
          pss_never pss_nil)
      (pss_one (ps_ret (pe_and (pe_cmpR op_eq (pe_callB call_len_seq rfl T.len bLen (pa_cons (pv 0) pa_nil)) (pe_callB call_len_seq rfl T.len bLen (pa_cons (pv 1) pa_nil)) (nomark _))
        (pe_one (pe_callB (cr_all rfl) rfl T.all bAll (pa_cons
          (pe_lc (own := [("_law_mine", 2), ("_law_its", 3)]) (g := gTup K 2 (gCons (gName 2) (gCons (gName 3) gNil))) (tt := tYes) rfl nd (RZ.pi_zipA rfl T.zip (pa_cons (pv 0) (pa_cons (pv 1) pa_nil)))
            (blkOk_by (N := ["_law_found", "_law_due", "_law_mine", "_law_its"]) (sc := defScope sLawSame) (by decide +kernel))
            (fun _ _ _ _ _ => pg_tup rfl (pgs_cons (pg_name (i := 2) nd rfl (.inl rfl)) (pgs_cons (pg_name (i := 3) nd rfl (.inl rfl)) pgs_nil)))
            (fun _ _ _ _ _ => pts_nil)
            (fun _ _ _ _ _ => pe_do D G hr rfl (pa_cons (pv 2) (pa_cons (pv 3) pa_nil)))) pa_nil))))))) pss_nil)
    (pss_cons (ps_if (PW.pt (pw_or (pt_cmp (pc_isN (pv 1))) (pw_or1 (pt_val (pe_callB call_isD2 rfl T.isi bIsi (pa_cons (pv 1) (pa_cons (pe_tup (pa_cons (pe_bltn (v := .ty "str") rfl T.str bStr rfl) (pa_cons (pe_bltn (v := .ty "bool") rfl T.bool bBool rfl) pa_nil))) pa_nil)))))))
      (pss_one (ps_ret (pe_and (pe_cmpR op_eq (pv 0) (pv 1) (nomark _)) (pe_and (pe_cmpR op_eq (pe_callB call_isD rfl T.isi bIsi (pa_cons (pv 0) (pa_cons (pe_bltn (v := .ty "bool") rfl T.bool bBool rfl) pa_nil))) (pe_callB call_isD rfl T.isi bIsi (pa_cons (pv 1) (pa_cons (pe_bltn (v := .ty "bool") rfl T.bool bBool rfl) pa_nil))) (nomark _))
        (pe_one (pe_cmpR op_eq (pe_cmp (pc_isN (pv 0))) (pe_cmp (pc_isN (pv 1))) (nomark _))))))) pss_nil)
    (pss_one (ps_ret (pe_and (pe_callB call_isD rfl T.isi bIsi (pa_cons (pv 0) (pa_cons (pe_bltn (v := .ty "int") rfl T.int bInt rfl) pa_nil)))
      (pe_and (pe_not (pe_callB call_isD rfl T.isi bIsi (pa_cons (pv 0) (pa_cons (pe_bltn (v := .ty "bool") rfl T.bool bBool rfl) pa_nil)))) (pe_one (pe_cmpR op_eq (pv 0) (pv 1) (nomark _)))))))), ?_⟩
  refine ⟨_, rfl, by show 2 ≤ sizeLine; decide, fun tp ntp => ?_⟩
  have s1 := same_new (o := .tup [.ty "list", .ty "tuple"]) ntp
  refine ⟨_, tp, "list", "tuple", d, rfl, upd_same, by decide, by decide, dp_up hy s1, _, rfl, ?_⟩
  generalize hH1 : upd H tp (.tup [.ty "list", .ty "tuple"]) = H1
  rw [hH1] at s1
  have hx1 := dp_up hx s1
  have hy1 := dp_up hy s1
  cases d with
  | list ds =>
    obtain ⟨a, xs, rfl, ha, hxa⟩ : ∃ a xs, x = .ref a ∧ SqL K H1 a xs ∧ DpAll K H1 xs ds := by cases hx1 with | lst h1 h2 => exact ⟨_, _, rfl, h1, h2⟩
    obtain ⟨b, ys, rfl, hb', hya⟩ : ∃ b ys, y = .ref b ∧ SqL K H1 b ys ∧ DpAll K H1 ys ds := by cases hy1 with | lst h1 h2 => exact ⟨_, _, rfl, h1, h2⟩
    have lx := dps_len hxa
    have ly := dps_len hya
    simp only [PyData.depth] at hd
    simp only [PyData.bulk] at hb
    refine ite2 (fun _ => ?_) (fun e => (e rfl).elim)
    refine ⟨_, rfl, _, "list", _, rfl, by decide, hx1, _, rfl, _, "list", _, rfl, by decide, hy1, rfl, _, rfl, iteNS rfl ?_⟩
    refine ⟨_, rfl, _, "tuple", _, rfl, by decide, hx1, _, rfl, _, "tuple", _, rfl, by decide, hy1, rfl, _, rfl, iteNS rfl ?_⟩
    refine ⟨_, rfl, a, xs, rfl, .inl ha, _, rfl, b, ys, rfl, .inl hb', rfl, _, rfl, ite2 (fun _ => ?_) (fun e => (e (decide_eq_true (by rw [lx, ly]))).elim)⟩
    refine ⟨_, rfl, _, rfl, a, b, xs, ys, rfl, .inl ⟨ha, hb', fun Dd nD => ?_⟩⟩
    have sD := same_new (o := .lst []) nD
    refine lc_it (walk_zip (xs := xs) (ys := ys) rfl) (fun i H3 => H3 Dd = some (.lst (List.replicate i (.bl true))) ∧ Same H1 H3) ⟨upd_same, sD⟩ (fun i H3 _ hP => ⟨hP.2.seq ha, hP.2.seq hb'⟩) (fun i v H3 H4 hi hP hy => ?_) (fun H3 hP => ?_)
    · obtain ⟨Tt, x1, x2, rfl, nT, rfl, e1, e2⟩ := hy
      obtain ⟨hD, sm⟩ := hP
      have hi2 : i < ds.length := by omega
      have sT := same_new (o := .tup [x1, x2]) nT
      obtain ⟨d1, g1, p1⟩ := dps_get' hxa (show xs[i]? = some x1 from e1)
      obtain ⟨d2, g2, p2⟩ := dps_get' hya (show ys[i]? = some x2 from e2)
      obtain rfl : d1 = d2 := Option.some.inj (g1.symm.trans g2)
      have hm : d1 ∈ ds := List.mem_of_getElem? g1
      have hdep := depth_mem hm
      have hbul := bulk_mem hm
      refine ⟨Tt, _, rfl, .inl (.inl upd_same), rfl, _, _, rfl, _, _, rfl, rfl, rfl, yesT ?_⟩
      refine ⟨_, rfl, _, rfl, x1, x2, d1, rfl, dp_up p1 (sm.trans sT), dp_up p2 (sm.trans sT), by omega, by omega, fun H5 s5 => ?_⟩
      refine ⟨_, s5 _ _ (sT _ _ hD), ?_, ?_, fun c o ec => ?_⟩
      · rw [List.length_replicate]
        have := bulk_len ds
        have := sizeLine_eq
        omega
      · rw [upd_same, List.replicate_succ']
      · rw [upd_ne (ne_of_none ec nD)]; exact s5 _ _ (sT _ _ (sm _ _ ec))
    · obtain ⟨hD, sm⟩ := hP
      refine ⟨Dd, List.replicate (min xs.length ys.length) true, rfl, SqL.of (by rw [List.map_replicate]; exact hD), ?_⟩
      rw [show (List.replicate (min xs.length ys.length) true).all id = true from by rw [List.all_eq_true]; intro z hz; rw [(List.mem_replicate.mp hz).2]; rfl]
      exact q _ (s1.trans sm)
  | tuple ds =>
    obtain ⟨a, xs, rfl, ha, hxa⟩ : ∃ a xs, x = .ref a ∧ SqT K H1 a xs ∧ DpAll K H1 xs ds := by cases hx1 with | tup h1 h2 => exact ⟨_, _, rfl, h1, h2⟩
    obtain ⟨b, ys, rfl, hb', hya⟩ : ∃ b ys, y = .ref b ∧ SqT K H1 b ys ∧ DpAll K H1 ys ds := by cases hy1 with | tup h1 h2 => exact ⟨_, _, rfl, h1, h2⟩
    have lx := dps_len hxa
    have ly := dps_len hya
    simp only [PyData.depth] at hd
    simp only [PyData.bulk] at hb
    refine ite2 (fun _ => ?_) (fun e => (e rfl).elim)
    refine ⟨_, rfl, _, "list", _, rfl, by decide, hx1, _, rfl, _, "list", _, rfl, by decide, hy1, rfl, _, rfl, iteNS rfl ?_⟩
    refine ⟨_, rfl, _, "tuple", _, rfl, by decide, hx1, _, rfl, _, "tuple", _, rfl, by decide, hy1, rfl, _, rfl, iteNS rfl ?_⟩
    refine ⟨_, rfl, a, xs, rfl, .inr ha, _, rfl, b, ys, rfl, .inr hb', rfl, _, rfl, ite2 (fun _ => ?_) (fun e => (e (decide_eq_true (by rw [lx, ly]))).elim)⟩
    refine ⟨_, rfl, _, rfl, a, b, xs, ys, rfl, .inr ⟨ha, hb', fun Dd nD => ?_⟩⟩
    have sD := same_new (o := .lst []) nD
    refine lc_it (walk_zipT (xs := xs) (ys := ys) rfl) (fun i H3 => H3 Dd = some (.lst (List.replicate i (.bl true))) ∧ Same H1 H3) ⟨upd_same, sD⟩ (fun i H3 _ hP => ⟨sqt_mono hP.2 ha, sqt_mono hP.2 hb'⟩) (fun i v H3 H4 hi hP hy => ?_) (fun H3 hP => ?_)
    · obtain ⟨Tt, x1, x2, rfl, nT, rfl, e1, e2⟩ := hy
      obtain ⟨hD, sm⟩ := hP
      have hi2 : i < ds.length := by omega
      have sT := same_new (o := .tup [x1, x2]) nT
      obtain ⟨d1, g1, p1⟩ := dps_get' hxa (show xs[i]? = some x1 from e1)
      obtain ⟨d2, g2, p2⟩ := dps_get' hya (show ys[i]? = some x2 from e2)
      obtain rfl : d1 = d2 := Option.some.inj (g1.symm.trans g2)
      have hm : d1 ∈ ds := List.mem_of_getElem? g1
      have hdep := depth_mem hm
      have hbul := bulk_mem hm
      refine ⟨Tt, _, rfl, .inl (.inl upd_same), rfl, _, _, rfl, _, _, rfl, rfl, rfl, yesT ?_⟩
      refine ⟨_, rfl, _, rfl, x1, x2, d1, rfl, dp_up p1 (sm.trans sT), dp_up p2 (sm.trans sT), by omega, by omega, fun H5 s5 => ?_⟩
      refine ⟨_, s5 _ _ (sT _ _ hD), ?_, ?_, fun c o ec => ?_⟩
      · rw [List.length_replicate]
        have := bulk_len ds
        have := sizeLine_eq
        omega
      · rw [upd_same, List.replicate_succ']
      · rw [upd_ne (ne_of_none ec nD)]; exact s5 _ _ (sT _ _ (sm _ _ ec))
    · obtain ⟨hD, sm⟩ := hP
      refine ⟨Dd, List.replicate (min xs.length ys.length) true, rfl, SqL.of (by rw [List.map_replicate]; exact hD), ?_⟩
      rw [show (List.replicate (min xs.length ys.length) true).all id = true from by rw [List.all_eq_true]; intro z hz; rw [(List.mem_replicate.mp hz).2]; rfl]
      exact q _ (s1.trans sm)
  | none =>
    cases hx1; cases hy1
    refine ite2 (fun e => nomatch e) (fun _ => ?_)
    refine ⟨_, rfl, _, rfl, ite2 (fun _ => ?_) (fun e => (e rfl).elim)⟩
    refine iteT ?_
    refine ⟨_, rfl, _, rfl, rfl, _, rfl, ite2 (fun _ => ?_) (fun e => (e (decide_eq_true rfl)).elim)⟩
    refine ⟨_, rfl, _, "bool", _, rfl, by decide, .non, _, rfl, _, "bool", _, rfl, by decide, .non, rfl, _, rfl, ite2 (fun _ => ?_) (fun e => (e (decide_eq_true rfl)).elim)⟩
    refine ⟨_, rfl, _, rfl, rfl, ?_⟩
    exact qT (decide_eq_true rfl) (q _ s1)
  | bool z =>
    cases hx1; cases hy1
    refine ite2 (fun e => nomatch e) (fun _ => ?_)
    refine ⟨_, rfl, _, rfl, ite2 (fun e => nomatch e) (fun _ => ?_)⟩
    refine ⟨_, rfl, by show 2 ≤ sizeLine; decide, fun t2 nt2 => ?_⟩
    have s2 := same_new (o := .tup [.ty "str", .ty "bool"]) nt2
    refine ⟨_, t2, "str", "bool", _, rfl, upd_same, by decide, by decide, .bl z, _, rfl, ?_⟩
    refine ite2 (fun _ => ?_) (fun e => (e rfl).elim)
    refine ⟨_, rfl, _, rfl, rfl, _, rfl, ite2 (fun _ => ?_) (fun e => (e (decide_eq_true rfl)).elim)⟩
    refine ⟨_, rfl, _, "bool", _, rfl, by decide, .bl z, _, rfl, _, "bool", _, rfl, by decide, .bl z, rfl, _, rfl, ite2 (fun _ => ?_) (fun e => (e (decide_eq_true rfl)).elim)⟩
    refine ⟨_, rfl, _, rfl, rfl, ?_⟩
    exact qT (decide_eq_true rfl) (q _ (s1.trans s2))
  | str z =>
    cases hx1; cases hy1
    refine ite2 (fun e => nomatch e) (fun _ => ?_)
    refine ⟨_, rfl, _, rfl, ite2 (fun e => nomatch e) (fun _ => ?_)⟩
    refine ⟨_, rfl, by show 2 ≤ sizeLine; decide, fun t2 nt2 => ?_⟩
    have s2 := same_new (o := .tup [.ty "str", .ty "bool"]) nt2
    refine ⟨_, t2, "str", "bool", _, rfl, upd_same, by decide, by decide, .str z, _, rfl, ?_⟩
    refine ite2 (fun _ => ?_) (fun e => (e rfl).elim)
    refine ⟨_, rfl, _, rfl, rfl, _, rfl, ite2 (fun _ => ?_) (fun e => (e (decide_eq_true rfl)).elim)⟩
    refine ⟨_, rfl, _, "bool", _, rfl, by decide, .str z, _, rfl, _, "bool", _, rfl, by decide, .str z, rfl, _, rfl, ite2 (fun _ => ?_) (fun e => (e (decide_eq_true rfl)).elim)⟩
    refine ⟨_, rfl, _, rfl, rfl, ?_⟩
    exact qT (decide_eq_true rfl) (q _ (s1.trans s2))
  | int z =>
    cases hx1; cases hy1
    refine ite2 (fun e => nomatch e) (fun _ => ?_)
    refine ⟨_, rfl, _, rfl, ite2 (fun e => nomatch e) (fun _ => ?_)⟩
    refine ⟨_, rfl, by show 2 ≤ sizeLine; decide, fun t2 nt2 => ?_⟩
    have s2 := same_new (o := .tup [.ty "str", .ty "bool"]) nt2
    refine ⟨_, t2, "str", "bool", _, rfl, upd_same, by decide, by decide, .int z, _, rfl, ?_⟩
    refine ite2 (fun e => nomatch e) (fun _ => ?_)
    refine ⟨_, rfl, _, "int", _, rfl, by decide, .int z, _, rfl, ite2 (fun _ => ?_) (fun e => (e rfl).elim)⟩
    refine ⟨_, rfl, _, "bool", _, rfl, by decide, .int z, _, rfl, _, rfl, ite2 (fun _ => ?_) (fun e => (e rfl).elim)⟩
    refine ⟨_, rfl, _, rfl, rfl, ?_⟩
    exact qT (decide_eq_true rfl) (q _ (s1.trans s2))
  | dict kvs => cases hx1
theorem ok_same {f : Addr} {fd : FuncData} (T : Bl mg) (D : Df K mg "_law_same" sLawSame ["_law_found", "_law_due"] f fd) : ∀ n : Nat, FnOk P w K mg base CX0 n f fd ["_law_found", "_law_due"] (spSame K n)
  | 0 => ⟨fun vs H Q E h => by obtain ⟨_, _, _, _, _, _, z, _⟩ := h; omega, fun A fr s H ar us vs Q E _ _ _ _ h => by obtain ⟨_, _, _, _, _, _, z, _⟩ := h; omega⟩
  | n + 1 => ok_same1 T D (ok_same T D n)
end
end Af
namespace Af
open PySem PySem.Spec PyProof.Rows L2
section
variable {P : Program} {w : World} {K : PySem.W.Frag} {mg : Str → Option Value} {base : Heap}
/-! _law_lists -/
def spLists (K : PySem.W.Frag) (n : Nat) : Sp := fun vs H Q _ => ∃ (x : V) (d : PyData), vs = [x] ∧ Dp K H x d ∧ d.depth < n ∧ d.bulk ≤ 1000000 ∧ ∀ (r : V) (H' : Hp), Same H H' → NewD K H H' r (lsD d) → Q r H'
theorem ok_lists1 {f : Addr} {fd : FuncData} {n : Nat} (T : Bl mg) (D : Df K mg "_law_lists" sLawLists ["_law_matter"] f fd) (G : FnOk P w K mg base CX0 n f fd ["_law_matter"] (spLists K n)) :
    FnOk P w K mg base CX0 (n + 1) f fd ["_law_matter"] (spLists K (n + 1)) := by
  refine D.F.ok scLawLists (fun vs H Q E h => ?_) (fun cdv A outer s H vs Q E hr h => ?_)
  · obtain ⟨_, _, rfl, _⟩ := h; rfl
  obtain ⟨x, d, rfl, hx, hd, hb, q⟩ := h
  have nd := scLawLists.nd
  refine ⟨_, pss_one (ps_ret (pe_ifExp (pt_val (pe_callB call_isD2 rfl T.isi bIsi (pa_cons (pv 0) (pa_cons (pe_tup (pa_cons (pe_bltn (v := .ty "list") rfl T.list bList rfl) (pa_cons (pe_bltn (v := .ty "tuple") rfl T.tuple bTuple rfl) pa_nil))) pa_nil))))
    (pe_lc (own := [("_law_bit", 1)]) (g := gName 1) (tt := tYes) rfl nd (pi_seq (pv 0)) (blkOk_by (N := ["_law_matter", "_law_bit"]) (sc := defScope sLawLists) (by decide +kernel))
      (fun _ _ _ _ _ => pg_name (i := 1) nd rfl (.inl rfl)) (fun _ _ _ _ _ => pts_nil) (fun _ _ _ _ _ => pe_do D G hr rfl (pa_cons (pv 1) pa_nil)))
    (pv 0))), ?_⟩
  refine ⟨_, rfl, by show 2 ≤ sizeLine; decide, fun tp ntp => ?_⟩
  have s1 := same_new (o := .tup [.ty "list", .ty "tuple"]) ntp
  refine ⟨_, tp, "list", "tuple", d, rfl, upd_same, by decide, by decide, dp_up hx s1, _, rfl, ?_⟩
  generalize hH1 : upd H tp (.tup [.ty "list", .ty "tuple"]) = H1
  rw [hH1] at s1
  have hx1 := dp_up hx s1
  have seq : ∀ ds, SeqD d ds → lsD d = .list (lsDs ds) → tLc (iSeq K (tVar 0)) (gName 1) tYes (tCall (spLists K n) [] E0 (tCons (tVar 1) tNil)) [1] [some x, none] H1 Q := by
    intro ds hs el
    obtain ⟨a, xs, rfl, ha, hxa⟩ := dp_seq hx1 hs
    obtain ⟨bb, hbb⟩ := ha.kind
    have lx := dps_len hxa
    have dd : PyData.depthAll ds < n ∧ PyData.bulkAll ds ≤ 1000000 := by
      cases hs <;> simp only [PyData.depth, PyData.bulk] at hd hb <;> exact ⟨by omega, hb⟩
    refine ⟨_, rfl, a, xs, bb, rfl, hbb, fun J wJ => fun Dd nD => ?_⟩
    have sD := same_new (o := .lst []) nD
    have nDH : H Dd = none := s1.free nD
    refine lc_it wJ (fun i H3 => ∃ vs, H3 Dd = some (.lst vs) ∧ DpAll K (hid (fresh H H3) Dd) vs ((lsDs ds).take i) ∧ Same H1 H3) ⟨[], upd_same, by rw [List.take_zero]; exact .nil, sD⟩ (fun i H3 _ hP => ?_) (fun i v H3 H4 hi hP hy => ?_) (fun H3 hP => ?_)
    · obtain ⟨_, _, _, sm⟩ := hP
      exact hbb.up sm
    · obtain ⟨rfl, e1⟩ := hy
      obtain ⟨vs, hD, hN, sm⟩ := hP
      obtain ⟨d1, g1, p1⟩ := dps_get' hxa e1
      have hm : d1 ∈ ds := List.mem_of_getElem? g1
      have h1 := depth_mem hm
      have h2 := bulk_mem hm
      have h3 := bulk_len ds
      have h4 := dps_len hN
      refine ⟨rfl, yesT ?_⟩
      refine ⟨_, rfl, v, d1, rfl, dp_up p1 sm, by omega, by omega, fun r H5 s5 hr5 => ?_⟩
      have s35 : Same H1 H5 := sm.trans s5
      have sU : Same H1 (upd H5 Dd (.lst (vs ++ [r]))) := fun c o ec => by
        rw [upd_ne (ne_of_none ec nD)]; exact s35 _ _ ec
      refine ⟨_, s5 _ _ hD, ?_, vs ++ [r], upd_same, ?_, sU⟩
      · rw [h4, List.length_take]
        have := sizeLine_eq
        omega
      · rw [lsDs_take ds i d1 g1]
        exact acc_step hN (by rw [hD]; exact fun z => nomatch z) (s1.trans sm) s5 hr5
    · obtain ⟨vs, hD, hN, sm⟩ := hP
      rw [lx, ← lsDs_len ds, List.take_length] at hN
      exact q _ _ (s1.trans sm) (by rw [el]; exact new_lst nDH hD (acc_done hN))
  cases d with
  | list ds => exact ite2 (fun _ => seq ds (.l ds) (by simp only [lsD])) (fun e => (e rfl).elim)
  | tuple ds => exact ite2 (fun _ => seq ds (.t ds) (by simp only [lsD])) (fun e => (e rfl).elim)
  | none => cases hx; exact ite2 (fun e => nomatch e) (fun _ => ⟨_, rfl, q _ _ s1 .non⟩)
  | bool b => cases hx; exact ite2 (fun e => nomatch e) (fun _ => ⟨_, rfl, q _ _ s1 (.bl b)⟩)
  | str z => cases hx; exact ite2 (fun e => nomatch e) (fun _ => ⟨_, rfl, q _ _ s1 (.str z)⟩)
  | int i => cases hx; exact ite2 (fun e => nomatch e) (fun _ => ⟨_, rfl, q _ _ s1 (.int i)⟩)
  | dict kvs => cases hx
theorem ok_lists {f : Addr} {fd : FuncData} (T : Bl mg) (D : Df K mg "_law_lists" sLawLists ["_law_matter"] f fd) : ∀ n : Nat, FnOk P w K mg base CX0 n f fd ["_law_matter"] (spLists K n)
  | 0 => ⟨fun vs H Q E h => by obtain ⟨_, _, _, _, z, _⟩ := h; omega, fun A fr s H ar us vs Q E _ _ _ _ h => by obtain ⟨_, _, _, _, z, _⟩ := h; omega⟩
  | n + 1 => ok_lists1 T D (ok_lists T D n)
end
end Af
namespace Af
open PySem PySem.Spec PyProof.Rows L2
section
variable {P : Program} {w : World} {K : PySem.W.Frag} {mg : Str → Option Value} {base : Heap}
/-! _law_random_standing -/
def spRStand (K : PySem.W.Frag) : Sp := fun vs H Q _ => ∃ (bx : Addr) (sh : V) (B : List (List Int)) (hi : Int) (m : Nat), vs = [.ref bx, sh] ∧ Box H bx m ∧ m ≤ 500000000 ∧ Dp K (hid H bx) sh (bookT B) ∧ GoodB B hi ∧ hi ≤ 1000 ∧ B.length ≤ 1000 ∧
  ∀ (p : Addr) (H' : Hp) (R : List Int), Stands B R → Box H' bx (m + B.length) → Same (hid H bx) (hid H' bx) → H p = none → H' p = some (.tup (R.map V.int)) → Q (.ref p) H'
theorem ok_rstand {f fT fL : Addr} {fd fdT fdL : FuncData} {k : Nat} (T : Bl mg) (F : Fun K "_law_random_standing" "_law_random_standing" sLawRandomStanding f fd)
    (DT : Df K mg "_law_take" sLawTake ["_law_box_here", "_law_span"] fT fdT) (GT : FnOk P w K mg base CX0 k fT fdT ["_law_box_here", "_law_span"] spTake)
    (DL : Df K mg "_law_ladder" sLawLadder ["_law_shelf", "_law_rungs", "_law_who"] fL fdL) (GL : FnOk P w K mg base CX0 k fL fdL ["_law_shelf", "_law_rungs", "_law_who"] (spLengthOf K)) :
    FnOk P w K mg base CX0 (k + 1) f fd ["_law_box_here", "_law_shelf"] (spRStand K) := by
  refine F.ok scLawRandomStanding (fun vs H Q E h => ?_) (fun cdv A outer s H vs Q E hr h => ?_)
  · obtain ⟨_, _, _, _, _, rfl, _⟩ := h; rfl
  obtain ⟨bx, sh, B, hi, m, rfl, hbox, hm, hsh, hG, hhi, hlen, q⟩ := h
  have nd := scLawRandomStanding.nd
  refine ⟨_, pss_cons (ps_set (i := 2) nd rfl (.inl rfl) (pe_lst pa_nil))
    (pss_cons (ps_for PassesOwn.never rfl (pi_range1 rfl T.range (pa_cons (pe_callB call_len_seq rfl T.len bLen (pa_cons (pv 1) pa_nil)) pa_nil)) (pg_name (i := 3) nd rfl (.inl rfl))
      (pss_one (ps_expr (pe_bm PySem.F.plainAttrs_list PySem.F.slot_list_append PySem.F.type_list_append mt_append (pv 2) (pa_cons (pe_op op_add pe_int (pe_do DT GT hr rfl (pa_cons (pv 0) (pa_cons (pe_do DL GL hr rfl (pa_cons (pv 1) (pa_cons (pv 2) (pa_cons (pv 3) pa_nil)))) pa_nil)))) pa_nil)))))
    (pss_one (ps_ret (pe_callTy call_tuple_of rfl T.tuple bTuple (pa_cons (pv 2) pa_nil))))), ?_⟩
  refine ⟨by show 0 ≤ sizeLine; decide, fun fo nf => ?_⟩
  have s1 := same_new (o := .lst []) nf
  have nfb : fo ≠ bx := hbox.ne nf
  obtain ⟨a, xs, rfl, ha, hxl⟩ := book_len (dp_up hsh (hid_le.trans s1)) (bookT_book B)
  refine ⟨_, rfl, a, xs, rfl, ha, _, rfl, by omega, by omega, ?_⟩
  have en : ((xs.length : Nat) : Int).toNat = B.length := by omega
  rw [en]
  refine for_range (lo := 0) (n := B.length) (fun i σ H3 => ∃ (y3 : Option V) (R : List Int), σ = [some (.ref bx), some (.ref a), some (.ref fo), y3] ∧ R.length = i ∧ StandsTo B R i ∧ H3 fo = some (.lst (R.map V.int)) ∧ Box H3 bx (m + i) ∧ Same (hid H bx) (hid H3 bx))
    ⟨none, [], rfl, rfl, fun c hc => absurd hc (Nat.not_lt_zero c), upd_same, hbox.new nf, hid_mono s1⟩ (fun i σ H3 hi3 hP => ?_) (fun σ H3 hP => ?_)
  · obtain ⟨y3, R, rfl, hRl, hS, hfo, hB3, sm⟩ := hP
    subst hRl
    obtain ⟨n, en1, en2, en3⟩ := len_ex hG hi3 hS
    have hbook : Dp K H3 (.ref a) (bookT B) := dp_up hsh (sm.trans hid_le)
    refine ⟨_, rfl, .inl ⟨rfl, _, SqL.of hfo⟩, ?_⟩
    refine ⟨_, rfl, _, rfl, _, rfl, _, rfl, _, _, R.length, bookT B, rowL R, B, R, n, ?_, hbook, bookT_book B, dp_lst_ints hfo, rowL_row R, en1, ?_⟩
    · show [V.ref a, V.ref fo, V.int (0 + (R.length : Int))] = _
      rw [Int.zero_add]
    refine ⟨bx, n, m + R.length, rfl, hB3, by omega, en2, by omega, fun r H5 r0 r1 hB5 hh5 => ?_⟩
    have hfo5 : H5 fo = some (.lst (R.map V.int)) := by rw [hid_eq hh5 nfb]; exact hfo
    refine ⟨_, _, rfl, rfl, fo, _, _, rfl, rfl, hfo5, ?_, _, R ++ [1 + r], rfl, by simp, stands_snoc hS en1 (by omega) (by omega), ?_, ?_, ?_⟩
    · rw [List.length_map]; exact small1000 (by omega)
    · rw [upd_same, List.map_append]; rfl
    · obtain ⟨x1, x2, x3, g1, g2⟩ := hB5
      exact ⟨x1, x2, x3, by rw [upd_ne nfb.symm]; exact g1, g2⟩
    · intro c o ec
      have nc : c ≠ bx := (hid_some ec).1
      have ncf : c ≠ fo := ne_of_none (hid_some ec).2 nf
      rw [hid_ne nc, upd_ne ncf, hid_eq hh5 nc]
      have := sm _ _ ec
      rwa [hid_ne nc] at this
  · obtain ⟨y3, R, rfl, hRl, hS, hfo, hB3, sm⟩ := hP
    refine ⟨_, rfl, fo, _, rfl, .inl ⟨SqL.of hfo, fun p np => ?_⟩⟩
    have npb : p ≠ bx := hB3.ne np
    have nph : H p = none := by
      cases e : H p with
      | none => rfl
      | some o =>
        have z := sm p o (by rw [hid_ne npb]; exact e)
        rw [hid_ne npb, np] at z; cases z
    exact q p _ R ⟨hRl, hS⟩ (hB3.new np) (sm.trans (hid_mono (same_new np))) nph upd_same
end
end Af
namespace Af
open PySem PySem.Spec PyProof.Rows L2
section
variable {P : Program} {w : World} {K : PySem.W.Frag} {mg : Str → Option Value} {base : Heap}
/-! _law_random_book -/
def spRBook (K : PySem.W.Frag) : Sp := fun vs H Q _ => ∃ (bx : Addr) (most high : Nat) (m : Nat), vs = [.ref bx, .int most, .int high] ∧ Box H bx m ∧ m ≤ 500000000 ∧ 1 ≤ most ∧ most ≤ 100 ∧ 1 ≤ high ∧ high ≤ 100 ∧
  ∀ (p : Addr) (H' : Hp) (B : List (List Int)), GoodB B high → B.length ≤ most → 1 ≤ B.length → Box H' bx (m + 20000) → Same (hid H bx) (hid H' bx) → Dp K (hid H' bx) (.ref p) (bookT B) → Q (.ref p) H'
theorem ok_rbook {f fT : Addr} {fd fdT : FuncData} {k : Nat} (T : Bl mg) (F : Fun K "_law_random_book" "_law_random_book" sLawRandomBook f fd)
    (DT : Df K mg "_law_take" sLawTake ["_law_box_here", "_law_span"] fT fdT) (GT : FnOk P w K mg base CX0 k fT fdT ["_law_box_here", "_law_span"] spTake) :
    FnOk P w K mg base CX0 (k + 1) f fd ["_law_box_here", "_law_most", "_law_high"] (spRBook K) := by
  refine F.ok scLawRandomBook (fun vs H Q E h => ?_) (fun cdv A outer s H vs Q E hr h => ?_)
  · obtain ⟨_, _, _, _, rfl, _⟩ := h; rfl
  obtain ⟨bx, most, high, m, rfl, hbox, hm, m1, m2, h1, h2, q⟩ := h
  have nd := scLawRandomBook.nd
  have hu := hr.units
  refine ⟨_, pss_cons (ps_set (i := 3) nd rfl (.inl rfl) (pe_lst (pa_cons (pe_tup (pa_cons (pe_op op_add pe_int (pe_do DT GT hr rfl (pa_cons (pv 0) (pa_cons (pv 2) pa_nil)))) pa_nil)) pa_nil)))
    (pss_cons (ps_for PassesOwn.never rfl (pi_range1 rfl T.range (pa_cons (pe_do DT GT hr rfl (pa_cons (pv 0) (pa_cons (pv 1) pa_nil))) pa_nil)) (pg_name (i := 4) nd rfl (.inl rfl))
      (pss_cons (ps_set (i := 5) nd rfl (.inr rfl) (pe_op op_add pe_int (pe_do DT GT hr rfl (pa_cons (pv 0) (pa_cons (pv 2) pa_nil)))))
      (pss_one (ps_expr (pe_bm PySem.F.plainAttrs_list PySem.F.slot_list_append PySem.F.type_list_append mt_append (pv 3) (pa_cons (pe_callTy call_tuple_of rfl T.tuple bTuple (pa_cons
        (pe_lc (own := [("_law_rung", 6)]) (g := gName 6) (tt := tYes) rfl nd (pi_range1 rfl T.range (pa_cons (pe_callB (cr_maxT rfl hu) rfl T.max bMax (pa_cons (pe_ix ix_list (pv 3) (pe_un un_neg pe_int) (fun _ _ => rfl)) pa_nil)) pa_nil))
          (blkOk_by (N := ["_law_box_here", "_law_most", "_law_high", "_law_found", "_law_k", "_law_top", "_law_rung"]) (sc := defScope sLawRandomBook) (by decide +kernel))
          (fun _ _ _ _ _ => pg_name (i := 6) nd rfl (.inl rfl)) (fun _ _ _ _ _ => pts_nil) (fun _ _ _ _ _ => pe_op op_add pe_int (pe_do DT GT hr rfl (pa_cons (pv 0) (pa_cons (pv 5) pa_nil))))) pa_nil)) pa_nil))))))
    (pss_one (ps_ret (pe_callTy call_tuple_of rfl T.tuple bTuple (pa_cons (pv 3) pa_nil))))), ?_⟩
  -- found = [(1 + take,)]
  refine ⟨_, rfl, _, rfl, bx, _, m, rfl, hbox, by omega, by omega, by omega, fun r0 Ha r01 r02 hBa hha => ?_⟩
  refine ⟨_, _, rfl, rfl, by show 1 ≤ sizeLine; decide, fun t nt => ?_⟩
  refine ⟨by show 1 ≤ sizeLine; decide, fun fo nf => ?_⟩
  have st := same_new (o := .tup [.int (1 + r0)]) nt
  have sf := same_new (o := .lst [.ref t]) nf
  have ntb : t ≠ bx := hBa.ne nt
  have nfb : fo ≠ bx := (hBa.new nt).ne nf
  have ntf : t ≠ fo := fun e => by rw [← e, upd_same] at nf; cases nf
  have hBb : Box (upd (upd Ha t (.tup [.int (1 + r0)])) fo (.lst [.ref t])) bx (m + 1) := (hBa.new nt).new nf
  -- range(take(box, most))
  refine ⟨_, rfl, _, rfl, bx, _, m + 1, rfl, hBb, by omega, by omega, by omega, fun r1 Hb r11 r12 hBc hhb => ?_⟩
  refine ⟨_, rfl, by omega, by omega, ?_⟩
  have nfH : H fo = none := by
    have z : Ha fo = none := st.free nf
    rw [← hid_eq hha nfb]; exact z
  have hsame0 : Same (hid H bx) (hid Hb bx) := by
    rw [hhb, ← hha]; exact hid_mono (st.trans sf)
  have hfo0 : Hb fo = some (.lst [.ref t]) := by rw [hid_eq hhb nfb, upd_same]
  have ht0 : Hb t = some (.tup [.int (1 + r0)]) := by rw [hid_eq hhb ntb, upd_ne ntf, upd_same]
  refine for_range (lo := 0) (n := r1.toNat) (fun i σ H3 => ∃ (y4 y5 : Option V) (B : List (List Int)) (n : Int) (ns : List Int) (vs : List V), σ = [some (.ref bx), some (.int most), some (.int high), some (.ref fo), y4, y5, none] ∧ B.length = i ∧ GoodB (B ++ [n :: ns]) high ∧
      H3 fo = some (.lst vs) ∧ DpAll K (hid (hid H3 bx) fo) vs ((B ++ [n :: ns]).map rowT) ∧ Box H3 bx (m + 2 + 101 * i) ∧ Same (hid H bx) (hid H3 bx))
    ⟨none, none, [], 1 + r0, [], [.ref t], rfl, rfl, good_one (by omega) (by omega), hfo0, .cons (.tup (.inl (.inl (by rw [hid_ne ntf, hid_ne ntb]; exact ht0))) (.cons (.int _) .nil)) .nil, hBc, hsame0⟩ (fun i σ H3 hi3 hP => ?_) (fun σ H3 hP => ?_)
  · obtain ⟨y4, y5, B, n, ns, vs, rfl, hBl, hG, hfo, hvs, hB3, sm⟩ := hP
    -- top = 1 + take
    refine ⟨_, rfl, _, rfl, bx, _, m + 2 + 101 * i, rfl, hB3, by omega, by omega, by omega, fun r5 H5 r50 r51 hB5 hh5 => ?_⟩
    refine ⟨_, _, rfl, rfl, ?_⟩
    have hfo5 : H5 fo = some (.lst vs) := by rw [hid_eq hh5 nfb]; exact hfo
    have hvs5 : DpAll K (hid (hid H5 bx) fo) vs ((B ++ [n :: ns]).map rowT) := by rw [hh5]; exact hvs
    -- found.append
    refine ⟨_, rfl, .inl ⟨rfl, _, SqL.of hfo5⟩, ?_⟩
    -- max(found[-1])
    obtain ⟨vs0, vl, rfl, hvl⟩ : ∃ vs0 vl, vs = vs0 ++ [vl] ∧ Dp K (hid (hid H5 bx) fo) vl (rowT (n :: ns)) := by
      have hl := dps_len hvs5
      rw [List.length_map, List.length_append] at hl
      have hne : vs ≠ [] := fun z => by rw [z] at hl; simp at hl
      refine ⟨vs.dropLast, vs.getLast hne, (List.dropLast_concat_getLast hne).symm, ?_⟩
      obtain ⟨v, e1, e2⟩ := dps_get (i := B.length) hvs5 (d := rowT (n :: ns)) (by rw [List.getElem?_map]; simp)
      have e3 : vs.getLast hne = v := by
        have : vs[vs.length - 1]? = some (vs.getLast hne) := by rw [← List.getLast?_eq_getElem?]; exact List.getLast?_eq_getLast hne
        rw [show vs.length - 1 = B.length by simp at hl; omega, e1] at this
        exact (Option.some.inj this).symm
      rw [e3]; exact e2
    have hvl5 : Dp K H5 vl (rowT (n :: ns)) := dp_up hvl (hid_le.trans hid_le)
    obtain ⟨la, rfl, hla⟩ : ∃ la, vl = .ref la ∧ SqT K H5 la ((n :: ns).map V.int) := by
      cases hvl5 with
      | tup h g => rw [dps_ints_inv (ns := n :: ns) g] at h; exact ⟨_, rfl, h⟩
    have p1 := hG.pos (n :: ns) (by simp)
    have mx1 := (foldl_max_ge ns n).1
    have mx2 : ns.foldl max n ≤ high := foldl_max_le ns n (p1 n List.mem_cons_self).2 fun x hx => (p1 x (List.mem_cons_of_mem _ hx)).2
    have n1 := (p1 n List.mem_cons_self).1
    refine ⟨_, rfl, 1, rfl, fo, _, -1, _, rfl, rfl, SqL.of hfo5, atI_last _ _, la, n, ns, rfl, hla, _, rfl, by omega, by omega, fun D nD => ?_⟩
    have sD := same_new (o := .lst []) nD
    have nDb : D ≠ bx := hB5.ne nD
    have nDf : D ≠ fo := fun e => by rw [e, hfo5] at nD; cases nD
    have nDH : H D = none := by
      cases e : H D with
      | none => rfl
      | some o =>
        have z := sm D o (by rw [hid_ne nDb]; exact e)
        rw [← hh5, hid_ne nDb, nD] at z; cases z
    refine lc_range (lo := 0) (n := (ns.foldl max n).toNat) (fun j H6 => ∃ row : List Int, row.length = j ∧ (∀ x ∈ row, 1 ≤ x ∧ x ≤ high) ∧ H6 D = some (.lst (row.map V.int)) ∧ Box H6 bx (m + 2 + 101 * i + 1 + j) ∧ hid (hid H6 bx) D = hid (hid H5 bx) D)
      ⟨[], rfl, fun x hx => (by cases hx), upd_same, hB5.new nD, ?_⟩ (fun j H6 hj hP6 => ?_) (fun H6 hP6 => ?_)
    · rw [hid_new nDb, hid_upd]
    · obtain ⟨row, hrl, hrp, hD6, hB6, hh6⟩ := hP6
      refine ⟨rfl, yesT ?_⟩
      refine ⟨_, rfl, _, rfl, bx, _, m + 2 + 101 * i + 1 + j, rfl, hB6, ?_, ?_, ?_, fun r7 H7 r70 r71 hB7 hh7 => ?_⟩
      · have : i < 100 := by omega
        omega
      · omega
      · omega
      refine ⟨_, _, rfl, rfl, row.map V.int, ?_, ?_, row ++ [1 + r7], by simp [hrl], fun x hx => ?_, ?_, ?_, ?_⟩
      · rw [hid_eq hh7 nDb]; exact hD6
      · rw [List.length_map]; exact small1000 (by omega)
      · rcases List.mem_append.mp hx with hx | hx
        · exact hrp x hx
        · obtain rfl : x = 1 + r7 := by simpa using hx
          exact ⟨by omega, by omega⟩
      · rw [upd_same, List.map_append]; rfl
      · obtain ⟨x1, x2, x3, g1, g2⟩ := hB7
        exact ⟨x1, x2, x3, by rw [upd_ne nDb.symm]; exact g1, g2⟩
      · rw [hid_new nDb, hid_upd, hh7, hh6]
    · obtain ⟨row, hrl, hrp, hD6, hB6, hh6⟩ := hP6
      refine ⟨D, _, rfl, .inl ⟨SqL.of hD6, fun l nl => ?_⟩⟩
      have sl := same_new (o := .tup (row.map V.int)) nl
      have nlb : l ≠ bx := hB6.ne nl
      have hfo6 : H6 fo = some (.lst (vs0 ++ [.ref la])) := by
        have := congrFun hh6 fo
        rw [hid_ne nDf.symm, hid_ne nDf.symm, hid_ne nfb, hid_ne nfb] at this
        rw [this]; exact hfo5
      have nlf : l ≠ fo := fun e => by rw [e, hfo6] at nl; cases nl
      have s56 : Same (hid (hid H5 bx) fo) (hid (hid (upd H6 l (.tup (row.map V.int))) bx) fo) := fun c o ec => by
        obtain ⟨c1, ec1⟩ := hid_some ec
        obtain ⟨c2, ec2⟩ := hid_some ec1
        have c3 : c ≠ D := fun e => by rw [e, nD] at ec2; cases ec2
        have c4 := congrFun hh6 c
        rw [hid_ne c3, hid_ne c3, hid_ne c2, hid_ne c2] at c4
        rw [hid_ne c1, hid_ne c2]
        exact sl _ _ (by rw [c4]; exact ec2)
      refine ⟨fo, _, _, rfl, rfl, sl _ _ hfo6, ?_, ?_⟩
      · have hl := dps_len hvs5
        rw [List.length_map, List.length_append (as := B)] at hl
        rw [hl, List.length_singleton]
        exact small1000 (by omega)
      · cases hrow : row with
        | nil => rw [hrow] at hrl; simp at hrl; omega
        | cons x xs =>
          rw [hrow] at hrl hrp s56 sl hD6
          refine ⟨_, _, B ++ [n :: ns], x, xs, vs0 ++ [.ref la] ++ [.ref l], rfl, by rw [List.length_append, hBl]; rfl, good_snoc hG (by rw [hrl]; omega) hrp, upd_same, ?_, ?_, ?_⟩
          · rw [List.map_append, show hid (hid (upd (upd H6 l (.tup ((x :: xs).map V.int))) fo (.lst (vs0 ++ [.ref la] ++ [.ref l]))) bx) fo = hid (hid (upd H6 l (.tup ((x :: xs).map V.int))) bx) fo from by rw [hid_new nfb, hid_upd]]
            refine dps_app (dps_up hvs5 s56) (.cons (.tup (.inl (.inl (by rw [hid_ne nlf, hid_ne nlb, upd_same]))) (dps_ints (x :: xs))) .nil)
          · obtain ⟨x1, x2, x3, g1, g2, g3, g4, g5, g6⟩ := hB6.new (o := .tup ((x :: xs).map V.int)) nl
            exact ⟨x1, x2, x3, by rw [upd_ne nfb.symm]; exact g1, g2, g3, g4, g5, by omega⟩
          · intro c o ec
            have nc : c ≠ bx := (hid_some ec).1
            have ncf : c ≠ fo := ne_of_none (hid_some ec).2 nfH
            have ncD : c ≠ D := ne_of_none (hid_some ec).2 nDH
            have z := sm _ _ ec
            rw [← hh5, hid_ne nc] at z
            have c4 := congrFun hh6 c
            rw [hid_ne ncD, hid_ne ncD, hid_ne nc, hid_ne nc] at c4
            rw [hid_ne nc, upd_ne ncf]
            exact sl _ _ (by rw [c4]; exact z)
  · obtain ⟨y4, y5, B, n, ns, vs, rfl, hBl, hG, hfo, hvs, hB3, sm⟩ := hP
    refine ⟨_, rfl, fo, _, rfl, .inl ⟨SqL.of hfo, fun p np => ?_⟩⟩
    have npb : p ≠ bx := hB3.ne np
    have sp := same_new (o := .tup vs) np
    refine q p _ (B ++ [n :: ns]) hG ?_ ?_ ((hB3.new np).le ?_) (sm.trans (hid_mono sp)) (.tup (.inl (.inl (by rw [hid_ne npb, upd_same]))) (dps_up hvs (hid_le.trans (hid_mono sp))))
    · rw [List.length_append]
      simp only [List.length_cons, List.length_nil]
      omega
    · simp
    · omega
end
end Af
namespace Af
open PySem PySem.Spec PyProof.Rows L2
section
variable {P : Program} {w : World} {K : PySem.W.Frag} {mg : Str → Option Value} {base : Heap}
/-! _law_random_faces -/
def spRFaces : Sp := fun vs H Q _ => ∃ (bx : Addr) (n m : Nat), vs = [.ref bx, .int n] ∧ Box H bx m ∧ m ≤ 500000000 ∧ n ≤ 1000 ∧
  ∀ (p : Addr) (H' : Hp) (F : List Int), F.length = n → FacesOk F → Box H' bx (m + n) → Same (hid H bx) (hid H' bx) → H p = none → H' p = some (.tup (F.map V.int)) → Q (.ref p) H'
theorem ok_rfaces {f fT : Addr} {fd fdT : FuncData} {k : Nat} (T : Bl mg) (F : Fun K "_law_random_faces" "_law_random_faces" sLawRandomFaces f fd)
    (DT : Df K mg "_law_take" sLawTake ["_law_box_here", "_law_span"] fT fdT) (GT : FnOk P w K mg base CX0 k fT fdT ["_law_box_here", "_law_span"] spTake) :
    FnOk P w K mg base CX0 (k + 1) f fd ["_law_box_here", "_law_count"] spRFaces := by
  refine F.ok scLawRandomFaces (fun vs H Q E h => ?_) (fun cdv A outer s H vs Q E hr h => ?_)
  · obtain ⟨_, _, _, rfl, _⟩ := h; rfl
  obtain ⟨bx, n, m, rfl, hbox, hm, hn, q⟩ := h
  have nd := scLawRandomFaces.nd
  refine ⟨_, pss_one (ps_ret (pe_callTy call_tuple_of rfl T.tuple bTuple (pa_cons
    (pe_lc (own := [("_law_who", 2)]) (g := gName 2) (tt := tYes) rfl nd (pi_range1 rfl T.range (pa_cons (pv 1) pa_nil))
      (blkOk_by (N := ["_law_box_here", "_law_count", "_law_who"]) (sc := defScope sLawRandomFaces) (by decide +kernel))
      (fun _ _ _ _ _ => pg_name (i := 2) nd rfl (.inl rfl)) (fun _ _ _ _ _ => pts_nil)
      (fun _ _ _ _ _ => pe_op op_sub pe_int (pe_op op_mul pe_int (pe_do DT GT hr rfl (pa_cons (pv 0) (pa_cons pe_int pa_nil)))))) pa_nil))), ?_⟩
  refine ⟨_, rfl, _, rfl, by omega, by omega, fun D nD => ?_⟩
  have nDb : D ≠ bx := hbox.ne nD
  have en : ((n : Nat) : Int).toNat = n := by omega
  rw [en]
  refine lc_range (lo := 0) (n := n) (fun i H3 => ∃ Fc : List Int, Fc.length = i ∧ FacesOk Fc ∧ H3 D = some (.lst (Fc.map V.int)) ∧ Box H3 bx (m + i) ∧ hid (hid H3 bx) D = hid (hid H bx) D)
    ⟨[], rfl, fun x hx => (by cases hx), upd_same, hbox.new nD, by rw [hid_new nDb, hid_upd]⟩ (fun i H3 hi hP => ?_) (fun H3 hP => ?_)
  · obtain ⟨Fc, hl, hF, hD, hB, hh⟩ := hP
    refine ⟨rfl, yesT ?_⟩
    refine ⟨_, rfl, bx, _, m + i, rfl, hB, by omega, by decide, by decide, fun r H5 r0 r1 hB5 hh5 => ?_⟩
    refine ⟨_, _, rfl, rfl, .inl ⟨by decide, by decide⟩, _, _, rfl, rfl, Fc.map V.int, ?_, ?_, Fc ++ [1 - 2 * r], by simp [hl], fun x hx => ?_, ?_, ?_, ?_⟩
    · rw [hid_eq hh5 nDb]; exact hD
    · rw [List.length_map]; exact small1000 (by omega)
    · rcases List.mem_append.mp hx with hx | hx
      · exact hF x hx
      · obtain rfl : x = 1 - 2 * r := by simpa using hx
        omega
    · rw [upd_same, List.map_append]; rfl
    · obtain ⟨x1, x2, x3, g1, g2⟩ := hB5
      exact ⟨x1, x2, x3, by rw [upd_ne nDb.symm]; exact g1, g2⟩
    · rw [hid_new nDb, hid_upd, hh5, hh]
  · obtain ⟨Fc, hl, hF, hD, hB, hh⟩ := hP
    refine ⟨D, _, rfl, .inl ⟨SqL.of hD, fun p np => ?_⟩⟩
    have s1 : Same (hid H bx) (hid H3 bx) := fun c o ec => by
      have c1 := (hid_some ec).1
      have c3 : c ≠ D := ne_of_none (hid_some ec).2 nD
      have := congrFun hh c
      rw [hid_ne c3, hid_ne c3] at this
      rw [this]; exact ec
    have npb : p ≠ bx := hB.ne np
    have nph : H p = none := by
      cases e : H p with
      | none => rfl
      | some o =>
        have z := s1 p o (by rw [hid_ne npb]; exact e)
        rw [hid_ne npb, np] at z; cases z
    exact q p _ Fc hl hF (hB.new np) (s1.trans (hid_mono (same_new np))) nph upd_same
/-! _law_random_state -/
def spRState (K : PySem.W.Frag) : Sp := fun vs H Q _ => ∃ (bx : Addr) (sh : V) (B : List (List Int)) (hi : Int) (m : Nat), vs = [.ref bx, sh] ∧ Box H bx m ∧ m ≤ 400000000 ∧ Dp K (hid H bx) sh (bookT B) ∧ GoodB B hi ∧ hi ≤ 1000 ∧ B.length ≤ 1000 ∧
  ∀ (p : Addr) (H' : Hp) (R F : List Int), Stands B R → F.length = B.length → FacesOk F → Box H' bx (m + 2 * B.length) → Same (hid H bx) (hid H' bx) → Dp K (hid H' bx) (.ref p) (stateT R F) → Q (.ref p) H'
theorem ok_rstate {f fS fF : Addr} {fd fdS fdF : FuncData} {k : Nat} (T : Bl mg) (F : Fun K "_law_random_state" "_law_random_state" sLawRandomState f fd)
    (DS : Df K mg "_law_random_standing" sLawRandomStanding ["_law_box_here", "_law_shelf"] fS fdS) (GS : FnOk P w K mg base CX0 k fS fdS ["_law_box_here", "_law_shelf"] (spRStand K))
    (DF : Df K mg "_law_random_faces" sLawRandomFaces ["_law_box_here", "_law_count"] fF fdF) (GF : FnOk P w K mg base CX0 k fF fdF ["_law_box_here", "_law_count"] spRFaces) :
    FnOk P w K mg base CX0 (k + 1) f fd ["_law_box_here", "_law_shelf"] (spRState K) := by
  refine F.ok scLawRandomState (fun vs H Q E h => ?_) (fun cdv A outer s H vs Q E hr h => ?_)
  · obtain ⟨_, _, _, _, _, rfl, _⟩ := h; rfl
  obtain ⟨bx, sh, B, hi, m, rfl, hbox, hm, hsh, hG, hhi, hlen, q⟩ := h
  refine ⟨_, pss_one (ps_ret (pe_tup (pa_cons (pe_do DS GS hr rfl (pa_cons (pv 0) (pa_cons (pv 1) pa_nil))) (pa_cons (pe_do DF GF hr rfl (pa_cons (pv 0) (pa_cons (pe_callB call_len_seq rfl T.len bLen (pa_cons (pv 1) pa_nil)) pa_nil))) pa_nil)))), ?_⟩
  refine ⟨_, rfl, _, rfl, bx, sh, B, hi, m, rfl, hbox, by omega, hsh, hG, hhi, hlen, fun sp H1 R hS hB1 s1 nsp esp => ?_⟩
  obtain ⟨a, xs, rfl, ha, hxl⟩ := book_len (dp_up hsh (s1.trans hid_le)) (bookT_book B)
  refine ⟨_, rfl, _, rfl, a, xs, rfl, ha, bx, B.length, m + B.length, ?_, hB1, by omega, hlen, fun fp H2 Fc hFl hF hB2 s2 nfp efp => ?_⟩
  · rw [hxl]; rfl
  refine ⟨by show 2 ≤ sizeLine; decide, fun p np => ?_⟩
  have npb : p ≠ bx := hB2.ne np
  have s3 := same_new (o := .tup [.ref sp, .ref fp]) np
  have nspb : sp ≠ bx := hB1.neT esp
  have nfpb : fp ≠ bx := hB2.neT efp
  have s23 := s2.trans (hid_mono s3)
  refine q p _ R Fc hS hFl hF ((hB2.new np).le (by omega)) (s1.trans s23) (.tup (.inl (.inl (by rw [hid_ne npb, upd_same]))) (.cons (.tup (.inl (.inl (s23 _ _ (by rw [hid_ne nspb]; exact esp)))) (dps_ints R))
    (.cons (.tup (.inl (.inl (hid_mono s3 _ _ (by rw [hid_ne nfpb]; exact efp)))) (dps_ints Fc)) .nil)))
end
end Af
namespace Af
open PySem PySem.Spec PyProof.Rows L2
section
variable {P : Program} {w : World} {K : PySem.W.Frag} {mg : Str → Option Value} {base : Heap}
/-! _law_of -/
def spOf : Sp := fun vs H Q _ => ∃ (bx l : Addr) (xs : List V) (m : Nat), vs = [.ref bx, .ref l] ∧ Box H bx m ∧ m ≤ 500000000 ∧ H l = some (.lst xs) ∧ l ≠ bx ∧ 1 ≤ xs.length ∧ xs.length ≤ 1000 ∧
  ∀ (i : Nat) (x : V) (H' : Hp), xs[i]? = some x → Box H' bx (m + 1) → hid H' bx = hid H bx → Q x H'
theorem ok_of_ {f fT : Addr} {fd fdT : FuncData} {k : Nat} (T : Bl mg) (F : Fun K "_law_of" "_law_of" sLawOf f fd)
    (DT : Df K mg "_law_take" sLawTake ["_law_box_here", "_law_span"] fT fdT) (GT : FnOk P w K mg base CX0 k fT fdT ["_law_box_here", "_law_span"] spTake) : FnOk P w K mg base CX0 (k + 1) f fd ["_law_box_here", "_law_some"] spOf := by
  refine F.ok scLawOf (fun vs H Q E h => ?_) (fun cdv A outer s H vs Q E hr h => ?_)
  · obtain ⟨_, _, _, _, rfl, _⟩ := h; rfl
  obtain ⟨bx, l, xs, m, rfl, hB, hm, hl, nl, h1, h2, q⟩ := h
  have nd := scLawOf.nd
  refine ⟨_, pss_one (ps_ret (pe_ix ix_list (pv 1) (pe_do DT GT hr rfl (pa_cons (pv 0) (pa_cons (pe_callB call_len_seq rfl T.len bLen (pa_cons (pv 1) pa_nil)) pa_nil))) (fun _ _ => rfl))), ?_⟩
  refine ⟨_, rfl, _, rfl, _, rfl, l, xs, rfl, .inl (SqL.of hl), bx, (xs.length : Int), m, rfl, hB, by omega, by omega, by omega, fun r H1 r0 r1 hB1 hh1 => ?_⟩
  obtain ⟨n, rfl⟩ : ∃ n : Nat, r = (n : Int) := ⟨r.toNat, by omega⟩
  have hl1 : H1 l = some (.lst xs) := by rw [hid_eq hh1 nl]; exact hl
  have hn : n < xs.length := by omega
  exact ⟨l, xs, _, xs[n], rfl, rfl, SqL.of hl1, atI_nat (List.getElem?_eq_getElem hn), q n _ H1 (List.getElem?_eq_getElem hn) hB1 hh1⟩
/-! _law_anything -/
def any1 : List PyData := [.none, .bool true, .bool false, .int 0, .int 1, .int (-1), .int (10 ^ 30), .str "", .str "2 / 1 3", .tuple [], .list [], .tuple [.tuple []], .tuple [.tuple [.int 0]], .tuple [.tuple [.int 1]], .list [.tuple [.int 1]], .tuple [.list [.int 1]]]
def any2 : List PyData := [.tuple [.tuple [.int 2], .tuple [.int 1, .int 3]], .tuple [.tuple [.int 2], .tuple [.int 1]], .tuple [.tuple [.int 2], .tuple [.int 1, .bool true]], .tuple [.int 1, .int 1], .tuple [.tuple [.int 1, .int 1], .tuple [.int 1, .int 1]], .tuple [.tuple [.int 1, .int 1], .tuple [.int 1, .int 0]]]
def any3 : List PyData := [.tuple [.bool true, .int 1], .tuple [.tuple [.int 1, .int 1], .list [.int 1, .int 1]], .tuple [.tuple [.int 1, .int 2], .tuple [.int 1, .int 1]], .tuple [.tuple [.int 1], .tuple [.int 1]], .tuple [.int 1, .int (-1)], .tuple [.int 1], .tuple [.int 0, .int 1], .tuple [.int 2, .int 1], .tuple [.str "1", .int 1]]
def any4 : List PyData := [.tuple [.tuple [.int 1, .int 1], .tuple [.int 1, .int 1], .tuple []]]
def anyDs : List PyData := any1 ++ any2 ++ any3 ++ any4
theorem any_pl : plBs anyDs = true := by decide +kernel
theorem any_sz : ∀ d ∈ anyDs, d.depth ≤ 4 ∧ d.bulk ≤ 100 := by
  have h : anyDs.all (fun d => decide (d.depth ≤ 4) && decide (d.bulk ≤ 100)) = true := by decide +kernel
  intro d hd
  have := Bool.and_eq_true_iff.mp (List.all_eq_true.mp h d hd)
  exact ⟨of_decide_eq_true this.1, of_decide_eq_true this.2⟩
def spAny (K : PySem.W.Frag) : Sp := fun vs H Q _ => ∃ (bx : Addr) (m : Nat), vs = [.ref bx] ∧ Box H bx m ∧ m ≤ 400000000 ∧
  ∀ (v : V) (d : PyData) (H' : Hp), d ∈ anyDs → Box H' bx (m + 1) → Same (hid H bx) (hid H' bx) → NewD K H H' v d → Q v H'
set_option maxHeartbeats 1600000 in
theorem ok_any {f fO : Addr} {fd fdO : FuncData} {k : Nat} (T : Bl mg) (F : Fun K "_law_anything" "_law_anything" sLawAnything f fd)
    (DO : Df K mg "_law_of" sLawOf ["_law_box_here", "_law_some"] fO fdO) (GO : FnOk P w K mg base CX0 k fO fdO ["_law_box_here", "_law_some"] spOf) : FnOk P w K mg base CX0 (k + 1) f fd ["_law_box_here"] (spAny K) := by
  refine F.ok scLawAnything (fun vs H Q E h => ?_) (fun cdv A outer s H vs Q E hr h => ?_)
  · obtain ⟨_, _, rfl, _⟩ := h; rfl
  obtain ⟨bx, m, rfl, hB, hm, q⟩ := h
  have nd := scLawAnything.nd
  refine ⟨_, pss_cons (ps_set (i := 1) nd rfl (.inl rfl) (pn_lstL (ds := any1) (pn_cons pn_non (pn_cons pn_bl (pn_cons pn_bl (pn_cons pn_int (pn_cons pn_int (pn_cons pn_neg (pn_cons pn_pow (pn_cons pn_str (pn_cons pn_str (pn_cons (pn_tup pn_nil) (pn_cons (pn_lst pn_nil) (pn_cons (pn_tup (pn_cons (pn_tup pn_nil) pn_nil)) (pn_cons (pn_tup (pn_cons (pn_tup (pn_cons pn_int pn_nil)) pn_nil)) (pn_cons (pn_tup (pn_cons (pn_tup (pn_cons pn_int pn_nil)) pn_nil)) (pn_cons (pn_lst (pn_cons (pn_tup (pn_cons pn_int pn_nil)) pn_nil)) (pn_cons (pn_tup (pn_cons (pn_lst (pn_cons pn_int pn_nil)) pn_nil)) pn_nil))))))))))))))))))
    (pss_cons (ps_set (i := 1) nd rfl (.inl rfl) (pe_op op_cat (pv 1) (pn_lstL (ds := any2) (pn_cons (pn_tup (pn_cons (pn_tup (pn_cons pn_int pn_nil)) (pn_cons (pn_tup (pn_cons pn_int (pn_cons pn_int pn_nil))) pn_nil))) (pn_cons (pn_tup (pn_cons (pn_tup (pn_cons pn_int pn_nil)) (pn_cons (pn_tup (pn_cons pn_int pn_nil)) pn_nil))) (pn_cons (pn_tup (pn_cons (pn_tup (pn_cons pn_int pn_nil)) (pn_cons (pn_tup (pn_cons pn_int (pn_cons pn_bl pn_nil))) pn_nil))) (pn_cons (pn_tup (pn_cons pn_int (pn_cons pn_int pn_nil))) (pn_cons (pn_tup (pn_cons (pn_tup (pn_cons pn_int (pn_cons pn_int pn_nil))) (pn_cons (pn_tup (pn_cons pn_int (pn_cons pn_int pn_nil))) pn_nil))) (pn_cons (pn_tup (pn_cons (pn_tup (pn_cons pn_int (pn_cons pn_int pn_nil))) (pn_cons (pn_tup (pn_cons pn_int (pn_cons pn_int pn_nil))) pn_nil))) pn_nil)))))))))
    (pss_cons (ps_set (i := 1) nd rfl (.inl rfl) (pe_op op_cat (pv 1) (pn_lstL (ds := any3) (pn_cons (pn_tup (pn_cons pn_bl (pn_cons pn_int pn_nil))) (pn_cons (pn_tup (pn_cons (pn_tup (pn_cons pn_int (pn_cons pn_int pn_nil))) (pn_cons (pn_lst (pn_cons pn_int (pn_cons pn_int pn_nil))) pn_nil))) (pn_cons (pn_tup (pn_cons (pn_tup (pn_cons pn_int (pn_cons pn_int pn_nil))) (pn_cons (pn_tup (pn_cons pn_int (pn_cons pn_int pn_nil))) pn_nil))) (pn_cons (pn_tup (pn_cons (pn_tup (pn_cons pn_int pn_nil)) (pn_cons (pn_tup (pn_cons pn_int pn_nil)) pn_nil))) (pn_cons (pn_tup (pn_cons pn_int (pn_cons pn_neg pn_nil))) (pn_cons (pn_tup (pn_cons pn_int pn_nil)) (pn_cons (pn_tup (pn_cons pn_int (pn_cons pn_int pn_nil))) (pn_cons (pn_tup (pn_cons pn_int (pn_cons pn_int pn_nil))) (pn_cons (pn_tup (pn_cons pn_str (pn_cons pn_int pn_nil))) pn_nil))))))))))))
    (pss_one (ps_ret (pe_do DO GO hr rfl (pa_cons (pv 0) (pa_cons (pe_op op_cat (pv 1) (pn_lstL (ds := any4) (pn_cons (pn_tup (pn_cons (pn_tup (pn_cons pn_int (pn_cons pn_int pn_nil))) (pn_cons (pn_tup (pn_cons pn_int (pn_cons pn_int pn_nil))) (pn_cons (pn_tup pn_nil) pn_nil)))) pn_nil))) pa_nil))))))), ?_⟩
  refine fun p1 v1 H1 s1 n1 e1 d1 => ?_
  refine ⟨_, rfl, fun p2 v2 H2 s2 n2 e2 d2 => ?_⟩
  have L1 := d1.len
  have L2 := d2.len
  refine ⟨p1, p2, v1, v2, rfl, rfl, s2 _ _ e1, e2, by rw [L1, L2]; decide, fun q2 m2 => ?_⟩
  have k2 := same_new (o := .lst (v1 ++ v2)) m2
  refine ⟨_, rfl, fun p3 v3 H3 s3 n3 e3 d3 => ?_⟩
  have L3 := d3.len
  refine ⟨q2, p3, v1 ++ v2, v3, rfl, rfl, s3 _ _ upd_same, e3, by rw [List.length_append, L1, L2, L3]; decide, fun q3 m3 => ?_⟩
  have k3 := same_new (o := .lst (v1 ++ v2 ++ v3)) m3
  refine ⟨_, rfl, _, rfl, fun p4 v4 H4 s4 n4 e4 d4 => ?_⟩
  have L4 := d4.len
  refine ⟨q3, p4, v1 ++ v2 ++ v3, v4, rfl, rfl, s4 _ _ upd_same, e4, by rw [List.length_append, List.length_append, L1, L2, L3, L4]; decide, fun q4 m4 => ?_⟩
  have k4 := same_new (o := .lst (v1 ++ v2 ++ v3 ++ v4)) m4
  have hb : H bx ≠ none := by obtain ⟨_, _, _, z, _⟩ := hB; rw [z]; exact fun z => nomatch z
  have c1 := s1
  have c2 := c1.trans (s2.trans k2)
  have c3 := c2.trans (s3.trans k3)
  have c4 := c3.trans (s4.trans k4)
  have all : NewDs K H (upd H4 q4 (.lst (v1 ++ v2 ++ v3 ++ v4))) (v1 ++ v2 ++ v3 ++ v4) anyDs :=
    dps_app (dps_app (dps_app (dps_up d1 (fresh_up ((s2.trans k2).trans ((s3.trans k3).trans (s4.trans k4))))) (dps_up (dps_up d2 (fresh_up (k2.trans ((s3.trans k3).trans (s4.trans k4))))) (fresh_down c1)))
      (dps_up (dps_up d3 (fresh_up (k3.trans (s4.trans k4)))) (fresh_down c2))) (dps_up (dps_up d4 (fresh_up k4)) (fresh_down c3))
  have nq : q4 ≠ bx := fun e => hb ((c3.trans s4).free (e ▸ m4))
  have hB4 := hB.up c4
  have La := all.len
  refine ⟨bx, q4, _, m, rfl, hB4, by omega, upd_same, nq, by rw [La]; decide, by rw [La]; decide, fun i x H5 ex hB5 hh5 => ?_⟩
  obtain ⟨d, g, p⟩ := dps_get' all ex
  refine q x d H5 (List.mem_of_getElem? g) hB5 (by rw [hh5]; exact hid_mono c4) ?_
  refine dp_up p fun a o e => ?_
  obtain ⟨h1, h2⟩ := fresh_inv e
  have na : a ≠ bx := fun e => hb (e ▸ h1)
  rw [fresh_at h1, hid_eq hh5 na]; exact h2
end
end Af
namespace Af
open PySem PySem.Spec PyProof.Rows L2
section
variable {P : Program} {w : World} {K : PySem.W.Frag} {mg : Str → Option Value} {base : Heap}
theorem str_small (s : String) : ((Str.ofString s).cps.toList.all fun c => decide (c < 16 ^ 8)) = true := by
  rw [List.all_eq_true, PyProof.Rows.signs_ofString]
  intro c hc
  obtain ⟨ch, _, rfl⟩ := List.mem_map.mp hc
  exact decide_eq_true ch.val.toNat_lt
/-! _law_changed -/
def spChanged (K : PySem.W.Frag) (M n : Nat) : Sp := fun vs H Q _ => ∃ (bx : Addr) (v : V) (d : PyData) (G : Hp) (m : Nat), vs = [.ref bx, v] ∧ Box H bx m ∧ m + 10 * n ≤ 300000000 ∧ n ≤ 1000 ∧ Same G (hid H bx) ∧ Dp K G v d ∧ Pl M d ∧ d.depth < n ∧ d.bulk ≤ 10000 ∧
  ∀ (v' : V) (d' : PyData) (H' : Hp), Pl (M + 1) d' → d'.depth ≤ d.depth + 4 → d'.bulk ≤ 2 * d.bulk + 200 → Box H' bx (m + 10 * n) → Same (hid H bx) (hid H' bx) → Dp K (mix G H H') v' d' → Q v' H'
theorem box_here {H : Hp} {bx : Addr} {m : Nat} (h : Box H bx m) : H bx ≠ none := by obtain ⟨_, _, _, z, _⟩ := h; rw [z]; exact fun z => nomatch z
set_option maxHeartbeats 1600000 in
theorem ok_changed1 {f fT fA : Addr} {fd fdT fdA : FuncData} {k M n : Nat} (hM1 : 10 ^ 30 ≤ M + 1) (hM2 : M < 10 ^ 31) (T : Bl mg)
    (D : Df K mg "_law_changed" sLawChanged ["_law_box_here", "_law_matter"] f fd) (G : FnOk P w K mg base CX0 k f fd ["_law_box_here", "_law_matter"] (spChanged K M n))
    (DT : Df K mg "_law_take" sLawTake ["_law_box_here", "_law_span"] fT fdT) (GT : FnOk P w K mg base CX0 k fT fdT ["_law_box_here", "_law_span"] spTake)
    (DA : Df K mg "_law_anything" sLawAnything ["_law_box_here"] fA fdA) (GA : FnOk P w K mg base CX0 k fA fdA ["_law_box_here"] (spAny K)) :
    FnOk P w K mg base CX0 (k + 1) f fd ["_law_box_here", "_law_matter"] (spChanged K M (n + 1)) := by
  refine D.F.ok scLawChanged (fun vs H Q E h => ?_) (fun cdv A outer s H vs Q E hr h => ?_)
  · obtain ⟨_, _, _, _, _, rfl, _⟩ := h; rfl
  obtain ⟨bx, v, d, G0, m, rfl, hB, hm, hn, hG0, hd, hpl, hdep, hblk, q⟩ := h
  have nd := scLawChanged.nd
  refine ⟨_, pss_cons (ps_set (i := 2) nd rfl (.inl rfl) (pe_do DT GT hr rfl (pa_cons (pv 0) (pa_cons pe_int pa_nil))))
    (pss_cons (ps_if (PW.pt (pw_and (pt_val (pe_callB call_isD rfl T.isi bIsi (pa_cons (pv 1) (pa_cons (pe_bltn (v := .ty "int") rfl T.int bInt rfl) pa_nil))))
        (pw_and (pt_not (pt_val (pe_callB call_isD rfl T.isi bIsi (pa_cons (pv 1) (pa_cons (pe_bltn (v := .ty "bool") rfl T.bool bBool rfl) pa_nil)))))
        (pw_and1 (pt_cmpR op_lt (pv 2) pe_int (nomark _))))))
      (pss_one (ps_ret (pe_ix ix_list (pe_lst (pa_cons (pe_op op_add (pv 1) pe_int) (pa_cons (pe_op op_sub (pv 1) pe_int) (pa_cons (pe_op op_sub pe_int (pv 1)) (pa_cons (pe_cmpR op_eq (pv 1) pe_int (nomark _)) (pa_cons (pe_callTy call_str_int rfl T.str bStr (pa_cons (pv 1) pa_nil)) pa_nil)))))) (pv 2) (fun _ _ => rfl)))) pss_nil)
    (pss_cons (ps_if (PW.pt (pw_or (pt_not (pt_val (pe_callB call_isD2 rfl T.isi bIsi (pa_cons (pv 1) (pa_cons (pe_tup (pa_cons (pe_bltn (v := .ty "list") rfl T.list bList rfl) (pa_cons (pe_bltn (v := .ty "tuple") rfl T.tuple bTuple rfl) pa_nil))) pa_nil)))))
        (pw_or (pt_cmpR op_eq (pe_callB call_len_seq rfl T.len bLen (pa_cons (pv 1) pa_nil)) pe_int (nomark _)) (pw_or1 (pt_cmpR op_eq (pv 2) pe_int (nomark _))))))
      (pss_one (ps_ret (pe_do DA GA hr rfl (pa_cons (pv 0) pa_nil)))) pss_nil)
    (pss_cons (ps_par (i := 3) (j := 4) (by rfl) nd rfl rfl (by decide) rfl rfl (pa_cons (pe_callTy call_list_of rfl T.list bList (pa_cons (pv 1) pa_nil)) (pa_cons (pe_do DT GT hr rfl (pa_cons (pv 0) (pa_cons (pe_callB call_len_seq rfl T.len bLen (pa_cons (pv 1) pa_nil)) pa_nil))) pa_nil)) (by rfl))
    (pss_cons (ps_if (pt_cmpR op_eq (pv 2) pe_int (nomark _))
      (pss_one (ps_ret (pe_ifExp (pt_val (pe_callB call_isD rfl T.isi bIsi (pa_cons (pv 1) (pa_cons (pe_bltn (v := .ty "list") rfl T.list bList rfl) pa_nil)))) (pe_callTy call_tuple_of rfl T.tuple bTuple (pa_cons (pv 3) pa_nil)) (pv 3)))) pss_nil)
    (C8.pss_cut (ps_if (pt_cmpR op_eq (pv 2) pe_int (nomark _))
        (pss_one (ps_set (i := 3) nd rfl (.inl rfl) (pe_op op_cat (pe_slice sl_list (pv 3) po_none (po_some (pv 4))) (pe_slice sl_list (pv 3) (po_some (pe_op op_add (pv 4) pe_int)) po_none))))
        (pss_one (ps_if (pt_cmpR op_eq (pv 2) pe_int (nomark _))
          (pss_one (ps_set (i := 3) nd rfl (.inl rfl) (pe_op op_cat (pe_slice sl_list (pv 3) po_none (po_some (pe_op op_add (pv 4) pe_int))) (pe_slice sl_list (pv 3) (po_some (pv 4)) po_none))))
          (pss_one (ps_asg (pe_do D G hr rfl (pa_cons (pv 0) (pa_cons (pe_ix ix_list (pv 3) (pv 4) (fun _ _ => rfl)) pa_nil))) (pg_sub (pv 3) (pv 4) set_list))))))
    (pss_one (ps_ret (pe_ifExp (pt_val (pe_callB call_isD rfl T.isi bIsi (pa_cons (pv 1) (pa_cons (pe_bltn (v := .ty "tuple") rfl T.tuple bTuple rfl) pa_nil)))) (pe_callTy call_tuple_of rfl T.tuple bTuple (pa_cons (pv 3) pa_nil)) (pv 3))))))))), ?_⟩
  refine ⟨_, rfl, bx, 8, m, rfl, hB, by omega, by decide, by decide, fun r H1 r0 r1 hB1 hh1 => ?_⟩
  have hb := box_here hB
  have g01 : Same G0 (hid H1 bx) := by rw [hh1]; exact hG0
  have free1 : ∀ {a : Addr}, H1 a = none → H a = none := fun {a} e => by
    by_cases z : a = bx
    · exact absurd (z ▸ e) (box_here hB1)
    · rw [← hid_eq hh1 z]; exact e
  have hd1 : ∀ {Hx : Hp}, Same H1 Hx → Dp K Hx v d := fun c => dp_up hd (g01.trans (hid_le.trans c))
  have hbG : ∀ {Hx : Hp}, Same H1 Hx → Same (hid H bx) (hid Hx bx) := fun c => by rw [← hh1]; exact hid_mono c
  have anyQ : ∀ {Hx : Hp}, Same H1 Hx → ∀ (v' : V) (d' : PyData) (H' : Hp), d' ∈ anyDs → Box H' bx (m + 1 + 1) → Same (hid Hx bx) (hid H' bx) → NewD K Hx H' v' d' → Q v' H' := fun {Hx} c v' d' H' hmem hB' s' hnew => by
    have z := any_sz d' hmem
    refine q v' d' H' ((pl_ofs any_pl d' hmem).mono hM1) (by omega) (by omega) (hB'.le (by omega)) ((hbG c).trans s') (dp_up hnew fun a o e => ?_)
    obtain ⟨h1, h2⟩ := fresh_inv e
    rw [mix_new (free1 (c.free h1))]; exact h2
  refine ⟨_, rfl, v, "int", d, rfl, by decide, hd1 (Same.refl _), _, rfl, ?_⟩
  have leaf : isD d "list" = false → isD d "tuple" = false → ∀ {A : Hp → Prop} {B : Prop}, True := fun _ _ _ _ => trivial
  rcases (show (∃ a xs ds, v = .ref a ∧ Sq K G0 a xs ∧ DpAll K G0 xs ds ∧ (d = .list ds ∨ d = .tuple ds)) ∨ ((isD d "list" || isD d "tuple") = false) from by
    cases hd with
    | lst h1 h2 => exact .inl ⟨_, _, _, rfl, .inl h1, h2, .inl rfl⟩
    | tup h1 h2 => exact .inl ⟨_, _, _, rfl, .inr h1, h2, .inr rfl⟩
    | _ => exact .inr rfl) with ⟨a, xs, ds, rfl, hq, hds, hdv⟩ | hleaf
  · -- a list or a tuple
    have e1 : isD d "int" = false := by rcases hdv with rfl | rfl <;> rfl
    have e2 : (isD d "list" || isD d "tuple") = true := by rcases hdv with rfl | rfl <;> rfl
    rw [e1]
    refine iteF (iteF ?_)
    refine ⟨_, rfl, by show 2 ≤ sizeLine; decide, fun tp ntp => ?_⟩
    have k2 := same_new (o := .tup [.ty "list", .ty "tuple"]) ntp
    refine ⟨_, tp, "list", "tuple", d, rfl, upd_same, by decide, by decide, hd1 k2, _, rfl, ?_⟩
    rw [e2]
    refine iteF ?_
    have hl := dps_len hds
    refine ⟨_, rfl, a, xs, rfl, sq_mono (g01.trans (hid_le.trans k2)) hq, rfl, _, rfl, ite2 (fun _ => iteT ?_) (fun hne => ?_)⟩
    · exact ⟨_, rfl, bx, m + 1, rfl, hB1.up k2, by omega, anyQ k2⟩
    refine ⟨_, rfl, rfl, _, rfl, ite2 (fun _ => ?_) (fun _ => ?_)⟩
    · exact ⟨_, rfl, bx, m + 1, rfl, hB1.up k2, by omega, anyQ k2⟩
    have hx1 : 1 ≤ xs.length := by
      rcases Nat.eq_zero_or_pos xs.length with z | z
      · exact (hne (by rw [z]; rfl)).elim
      · exact z
    have hbd : d.bulk = PyData.bulkAll ds := by rcases hdv with rfl | rfl <;> simp only [PyData.bulk]
    have hdd : d.depth = 1 + PyData.depthAll ds ∨ d.depth = PyData.depthAll ds + 1 := by rcases hdv with rfl | rfl <;> simp only [PyData.depth] <;> omega
    have hbl := bulk_len ds
    have hbent : Bent M (PyData.depthAll ds) (PyData.bulkAll ds) ds := ⟨fun x hx => by
      rcases hdv with rfl | rfl
      · cases hpl with | lst _ h => exact h x hx
      · cases hpl with | tup _ h => exact h x hx, fun x hx => depth_mem hx, Nat.le_refl _⟩
    generalize hbb : PyData.bulkAll ds = b at hbd hbl hbent
    generalize hkk : PyData.depthAll ds = dk at hdd hbent
    -- some, at
    refine ⟨_, rfl, a, xs, rfl, ?_, fun D1 nD1 => ?_⟩
    · exact sq_mono (g01.trans (hid_le.trans k2)) hq
    have k3 := same_new (o := .lst xs) nD1
    have c3 := k2.trans k3
    have sq3 := sq_mono (g01.trans (hid_le.trans c3)) hq
    refine ⟨_, rfl, _, rfl, a, xs, rfl, sq3, bx, (xs.length : Int), m + 1, rfl, hB1.up c3, by omega, by omega, by omega, fun at_ H5 a0 a1 hB5 hh5 => ?_⟩
    obtain ⟨an, rfl⟩ : ∃ x : Nat, at_ = (x : Int) := ⟨at_.toNat, by omega⟩
    have han : an < xs.length := by omega
    refine ⟨_, _, rfl, ?_⟩
    have nDb : D1 ≠ bx := fun e => box_here (hB1.up k2) (e ▸ nD1)
    have hDH : H D1 = none := free1 (k2.free nD1)
    have h5D : H5 D1 = some (.lst xs) := by rw [hid_eq hh5 nDb]; exact upd_same
    have b5 : Same (hid H bx) (hid H5 bx) := by rw [hh5]; exact hbG c3
    have g5 : Same G0 (hid H5 bx) := hG0.trans b5
    have d5 : ∀ {Hx : Hp}, Same H5 Hx → Dp K Hx (.ref a) d := fun c => dp_up hd (g5.trans (hid_le.trans c))
    have inm : ∀ {Hx : Hp}, Same G0 (mix G0 H Hx) := fun {Hx} => in_mix fun x o e => by
      have := (hid_some (hG0 x o e)).2
      rw [this]; exact fun z => nomatch z
    have free5 : ∀ {x : Addr}, H5 x = none → H x = none := fun {x} e => by
      by_cases z : x = bx
      · exact absurd (z ▸ e) (box_here hB5)
      · rw [hid_eq hh5 z] at e
        exact free1 (c3.free e)
    have bup : ∀ {ds' : List PyData}, Bent M dk b ds' → Bent (M + 1) (dk + 4) (2 * b + 200) ds' := fun h => ⟨fun x hx => (h.pl x hx).mono (by omega), fun x hx => by have := h.dep x hx; omega, by have := h.blk; omega⟩
    have finD : ∀ {ds' : List PyData}, Bent (M + 1) (dk + 4) (2 * b + 200) ds' → PyData.depthAll ds' + 1 ≤ d.depth + 4 ∧ PyData.bulkAll ds' ≤ 2 * d.bulk + 200 := fun {ds'} h => by
      have h1 := depth_all h.dep
      have h2 := h.blk
      exact ⟨by omega, by omega⟩
    have finL : ∀ {Hx : Hp} {D' : Addr} {vs' : List V} {ds' : List PyData}, H D' = none → Hx D' = some (.lst vs') → Bent (M + 1) (dk + 4) (2 * b + 200) ds' → DpAll K (mix G0 H Hx) vs' ds' → Box Hx bx (m + 10 * (n + 1)) → Same (hid H bx) (hid Hx bx) → Q (.ref D') Hx := fun {Hx D' vs' ds'} h1 h2 h3 h4 h5 h6 => by
      have z := finD h3
      exact q (.ref D') (.list ds') Hx (.lst ds' h3.pl) (by simp only [PyData.depth]; omega) (by simp only [PyData.bulk]; exact z.2) h5 h6 (.lst (SqL.of (by rw [mix_new h1]; exact h2)) h4)
    have finT : ∀ {Hx : Hp} {t : Addr} {vs' : List V} {ds' : List PyData}, H t = none → Hx t = none → Bent (M + 1) (dk + 4) (2 * b + 200) ds' → DpAll K (mix G0 H Hx) vs' ds' → Box Hx bx (m + 10 * (n + 1)) → Same (hid H bx) (hid Hx bx) → Q (.ref t) (upd Hx t (.tup vs')) := fun {Hx t vs' ds'} h0 h1 h3 h4 h5 h6 => by
      have z := finD h3
      have kk := same_new (o := .tup vs') h1
      have km : Same (mix G0 H Hx) (mix G0 H (upd Hx t (.tup vs'))) := fun x o e => by
        cases hx : H x with
        | none => rw [mix_new hx] at e ⊢; exact kk _ _ e
        | some y =>
          have hy : H x ≠ none := by rw [hx]; exact fun z => nomatch z
          rw [mix_old hy] at e ⊢; exact e
      exact q (.ref t) (.tuple ds') _ (.tup ds' h3.pl) (by simp only [PyData.depth]; omega) (by simp only [PyData.bulk]; exact z.2) (h5.up kk) (h6.trans (hid_mono kk)) (.tup (.inl (.inl (by rw [mix_new h0]; exact upd_same))) (dps_up h4 km))
    -- sort 1
    refine ⟨_, rfl, rfl, _, rfl, ite2 (fun _ => ?_) (fun _ => ?_)⟩
    · refine ⟨_, rfl, .ref a, "list", d, rfl, by decide, d5 (Same.refl _), _, rfl, ?_⟩
      rcases hdv with rfl | rfl
      · refine iteT ⟨_, rfl, D1, xs, rfl, .inl ⟨SqL.of h5D, fun t nt => ?_⟩⟩
        exact finT (free5 nt) nt (bup hbent) (dps_up hds inm) (hB5.le (by omega)) b5
      · refine iteF ⟨_, rfl, ?_⟩
        exact finL hDH h5D (bup hbent) (dps_up hds inm) (hB5.le (by omega)) b5
    refine ⟨fun σ' H' => ∃ (D' : Addr) (vs' : List V) (ds' : List PyData), σ' = [some (.ref bx), some (.ref a), some (.int r), some (.ref D'), some (.int (an : Int))] ∧ H D' = none ∧ H' D' = some (.lst vs') ∧ Bent (M + 1) (dk + 4) (2 * b + 200) ds' ∧ DpAll K (mix G0 H H') vs' ds' ∧ Box H' bx (m + 10 * (n + 1)) ∧ Same (hid H bx) (hid H' bx) ∧ Dp K H' (.ref a) d, ?_, ?_⟩
    · have cat : ∀ {l1 l2 l3 : Addr} {lo1 hi1 lo2 hi2 : Option Int}, True := trivial
      refine ⟨_, rfl, rfl, _, rfl, ite2 (fun _ => ?_) (fun _ => ?_)⟩
      · refine ⟨_, rfl, _, rfl, _, rfl, D1, xs, rfl, SqL.of h5D, fun l1 nl1 => ?_⟩
        have j1 := same_new (o := .lst (cutV xs none (some (an : Int)))) nl1
        refine ⟨_, rfl, _, rfl, _, _, rfl, rfl, _, rfl, D1, xs, rfl, SqL.of (j1 _ _ h5D), fun l2 nl2 => ?_⟩
        have j2 := same_new (o := .lst (cutV xs (some ((an : Int) + 1)) none)) nl2
        refine ⟨l1, l2, _, _, rfl, rfl, j2 _ _ upd_same, upd_same, ?_, fun l3 nl3 => ?_⟩
        · have z1 := cutV_length xs none (some (an : Int))
          have z2 := cutV_length xs (some ((an : Int) + 1)) none
          have := sizeLine_eq
          omega
        have j3 := same_new (o := .lst (cutV xs none (some (an : Int)) ++ cutV xs (some ((an : Int) + 1)) none)) nl3
        have jj := (j1.trans j2).trans j3
        refine ⟨l3, _, _, rfl, free5 ((j1.trans j2).free nl3), upd_same, ?_, dps_up (dps_app (dps_take _ (dps_drop _ hds)) (dps_take _ (dps_drop _ hds))) inm, (hB5.up jj).le (by omega), b5.trans (hid_mono jj), d5 jj⟩
        have z := bent_cuts hbent (HT.sIx xs.length 0 none) (HT.sIx xs.length xs.length (some (an : Int)) - HT.sIx xs.length 0 none) (HT.sIx xs.length 0 (some ((an : Int) + 1))) (HT.sIx xs.length xs.length none - HT.sIx xs.length 0 (some ((an : Int) + 1)))
        exact ⟨fun x hx => (z.pl x hx).mono (by omega), fun x hx => by have := z.dep x hx; omega, by have := z.blk; omega⟩
      refine ⟨_, rfl, rfl, _, rfl, ite2 (fun _ => ?_) (fun _ => ?_)⟩
      · refine ⟨_, rfl, _, rfl, _, _, rfl, rfl, _, rfl, D1, xs, rfl, SqL.of h5D, fun l1 nl1 => ?_⟩
        have j1 := same_new (o := .lst (cutV xs none (some ((an : Int) + 1)))) nl1
        refine ⟨_, rfl, _, rfl, _, rfl, D1, xs, rfl, SqL.of (j1 _ _ h5D), fun l2 nl2 => ?_⟩
        have j2 := same_new (o := .lst (cutV xs (some (an : Int)) none)) nl2
        refine ⟨l1, l2, _, _, rfl, rfl, j2 _ _ upd_same, upd_same, ?_, fun l3 nl3 => ?_⟩
        · have z1 := cutV_length xs none (some ((an : Int) + 1))
          have z2 := cutV_length xs (some (an : Int)) none
          have := sizeLine_eq
          omega
        have j3 := same_new (o := .lst (cutV xs none (some ((an : Int) + 1)) ++ cutV xs (some (an : Int)) none)) nl3
        have jj := (j1.trans j2).trans j3
        refine ⟨l3, _, _, rfl, free5 ((j1.trans j2).free nl3), upd_same, ?_, dps_up (dps_app (dps_take _ (dps_drop _ hds)) (dps_take _ (dps_drop _ hds))) inm, (hB5.up jj).le (by omega), b5.trans (hid_mono jj), d5 jj⟩
        have z := bent_cuts hbent (HT.sIx xs.length 0 none) (HT.sIx xs.length xs.length (some ((an : Int) + 1)) - HT.sIx xs.length 0 none) (HT.sIx xs.length 0 (some (an : Int))) (HT.sIx xs.length xs.length none - HT.sIx xs.length 0 (some (an : Int)))
        exact ⟨fun x hx => (z.pl x hx).mono (by omega), fun x hx => by have := z.dep x hx; omega, by have := z.blk; omega⟩
      · obtain ⟨dx, gx, px⟩ := dps_get' hds (List.getElem?_eq_getElem han)
        have hmx := List.mem_of_getElem? gx
        have bx1 := bulk_mem hmx
        have dx1 := hbent.dep dx hmx
        rw [hbb] at bx1
        refine ⟨_, rfl, _, rfl, _, rfl, D1, xs, _, xs[an], rfl, rfl, SqL.of h5D, atI_nat (List.getElem?_eq_getElem han), bx, xs[an], dx, G0, m + 1 + 1, rfl, hB5, by omega, by omega, g5, px, hbent.pl dx hmx, by omega, by omega, fun v' d' H6 p6 e6 k6 B6 s6 dp6 => ?_⟩
        have h6D : H6 D1 = some (.lst xs) := by
          have := s6 D1 (.lst xs) (by rw [hid_ne nDb]; exact h5D)
          rwa [hid_ne nDb] at this
        refine ⟨_, rfl, _, rfl, D1, xs, (an : Int), an, rfl, rfl, h6D, ixN_nat han, ?_⟩
        have km : Same (mix G0 H5 H6) (mix G0 H (upd H6 D1 (.lst (xs.set an v')))) := fun x o e => by
          cases hx : H5 x with
          | none =>
            have nx : x ≠ D1 := fun z => by rw [z, h5D] at hx; cases hx
            rw [mix_new hx] at e
            rw [mix_new (free5 hx), upd_ne nx]; exact e
          | some y =>
            rw [mix_old (by rw [hx]; exact fun z => nomatch z)] at e
            exact inm _ _ e
        have hs6 : ∀ x o, hid H bx x = some o → hid (upd H6 D1 (.lst (xs.set an v'))) bx x = some o := fun x o e => by
          obtain ⟨n1, n2⟩ := hid_some e
          have nx : x ≠ D1 := fun z => by rw [z, hDH] at n2; cases n2
          have := (b5.trans s6) _ _ e
          rw [hid_ne n1] at this ⊢
          rw [upd_ne nx]; exact this
        refine ⟨D1, xs.set an v', ds.set an d', rfl, hDH, upd_same, bent_set (M := M + 1) (k := dk) (k' := dk + 4) ⟨fun x hx => (hbent.pl x hx).mono (by omega), hbent.dep, hbent.blk⟩ gx p6 (by omega) (by omega) k6, dps_set an (dps_up hds inm) (dp_up dp6 km), ?_, hs6, dp_up hd (hG0.trans (Same.trans hs6 hid_le))⟩
        obtain ⟨y1, y2, y3, w1, w2, w3, w4, w5, w6⟩ := B6
        exact ⟨y1, y2, y3, by rw [upd_ne nDb.symm]; exact w1, w2, w3, w4, w5, by omega⟩
    · rintro σ' H' ⟨D', vs', ds', rfl, h1, h2, h3, h4, h5, h6, h7⟩
      refine ⟨_, rfl, .ref a, "tuple", d, rfl, by decide, h7, _, rfl, ?_⟩
      rcases hdv with rfl | rfl
      · refine iteF ⟨_, rfl, ?_⟩
        exact finL h1 h2 h3 h4 h5 h6
      · refine iteT ⟨_, rfl, D', vs', rfl, .inl ⟨SqL.of h2, fun t nt => ?_⟩⟩
        have ntb : t ≠ bx := fun e => box_here h5 (e ▸ nt)
        have ht : H t = none := by
          have := h6.free (show hid H' bx t = none by rw [hid_ne ntb]; exact nt)
          rwa [hid_ne ntb] at this
        exact finT ht nt h3 h4 h5 h6
  · cases hd with
    | lst h1 h2 => exact nomatch hleaf
    | tup h1 h2 => exact nomatch hleaf
    | non =>
      refine iteF (iteF ⟨_, rfl, by show 2 ≤ sizeLine; decide, fun tp ntp => ?_⟩)
      have k2 := same_new (o := .tup [.ty "list", .ty "tuple"]) ntp
      exact ⟨_, tp, "list", "tuple", _, rfl, upd_same, by decide, by decide, .non, _, rfl, iteT (iteT ⟨_, rfl, bx, m + 1, rfl, hB1.up k2, by omega, anyQ k2⟩)⟩
    | str x =>
      refine iteF (iteF ⟨_, rfl, by show 2 ≤ sizeLine; decide, fun tp ntp => ?_⟩)
      have k2 := same_new (o := .tup [.ty "list", .ty "tuple"]) ntp
      exact ⟨_, tp, "list", "tuple", _, rfl, upd_same, by decide, by decide, .str x, _, rfl, iteT (iteT ⟨_, rfl, bx, m + 1, rfl, hB1.up k2, by omega, anyQ k2⟩)⟩
    | bl b =>
      refine iteT ⟨_, rfl, _, "bool", _, rfl, by decide, .bl b, _, rfl, iteF (iteF ⟨_, rfl, by show 2 ≤ sizeLine; decide, fun tp ntp => ?_⟩)⟩
      have k2 := same_new (o := .tup [.ty "list", .ty "tuple"]) ntp
      exact ⟨_, tp, "list", "tuple", _, rfl, upd_same, by decide, by decide, .bl b, _, rfl, iteT (iteT ⟨_, rfl, bx, m + 1, rfl, hB1.up k2, by omega, anyQ k2⟩)⟩
    | int i =>
      have hi : i.natAbs ≤ M := by cases hpl with | int _ h => exact h
      refine iteT ⟨_, rfl, _, "bool", _, rfl, by decide, .int i, _, rfl, iteT ⟨_, rfl, _, _, rfl, rfl, _, rfl, ite2 (fun hr5 => ?_) (fun _ => ⟨_, rfl, by show 2 ≤ sizeLine; decide, fun tp ntp => ?_⟩)⟩⟩
      · have hlog : i.natAbs.log2 < 1920 := by
          by_cases z : i.natAbs = 0
          · rw [z]; decide
          · have h1 : i.natAbs.log2 < 120 := (Nat.log2_lt z).mpr (Nat.lt_trans (Nat.lt_of_le_of_lt hi hM2) (by decide))
            omega
        refine ⟨_, rfl, _, _, rfl, rfl, _, rfl, _, _, rfl, rfl, _, rfl, _, _, rfl, rfl, _, rfl, rfl, _, rfl, i, rfl, hlog, by show 5 ≤ sizeLine; decide, fun l1 nl1 => ?_⟩
        have k2 := same_new (o := .lst [.int (i + 1), .int (i - 1), .int (0 - i), .bl (decide (V.int i = V.int 1)), .str (toString i)]) nl1
        have fin : ∀ {v' : V} {d' : PyData}, (∀ {Hx : Hp}, Dp K Hx v' d') → Pl (M + 1) d' → d'.depth = 0 → d'.bulk ≤ 200 → Q v' (upd H1 l1 (.lst [.int (i + 1), .int (i - 1), .int (0 - i), .bl (decide (V.int i = V.int 1)), .str (toString i)])) := fun {v' d'} h1 h2 h3 h4 =>
          q v' d' _ h2 (by omega) (by omega) ((hB1.up k2).le (by omega)) (hbG k2) h1
        have hr5' : r < 5 := of_decide_eq_true hr5
        rcases (show r = 0 ∨ r = 1 ∨ r = 2 ∨ r = 3 ∨ r = 4 by omega) with rfl | rfl | rfl | rfl | rfl
        · exact ⟨_, rfl, l1, _, 0, _, rfl, rfl, SqL.of upd_same, atI_nat (j := 0) rfl, fin (.int _) (.int _ (by omega)) (by simp [PyData.depth]) (by simp [PyData.bulk])⟩
        · exact ⟨_, rfl, l1, _, 1, _, rfl, rfl, SqL.of upd_same, atI_nat (j := 1) rfl, fin (.int _) (.int _ (by omega)) (by simp [PyData.depth]) (by simp [PyData.bulk])⟩
        · exact ⟨_, rfl, l1, _, 2, _, rfl, rfl, SqL.of upd_same, atI_nat (j := 2) rfl, fin (.int _) (.int _ (by omega)) (by simp [PyData.depth]) (by simp [PyData.bulk])⟩
        · exact ⟨_, rfl, l1, _, 3, _, rfl, rfl, SqL.of upd_same, atI_nat (j := 3) rfl, fin (.bl _) (.bl _) (by simp [PyData.depth]) (by simp [PyData.bulk])⟩
        · refine ⟨_, rfl, l1, _, 4, _, rfl, rfl, SqL.of upd_same, atI_nat (j := 4) rfl, fin (.str _) (.str _ (str_small _)) (by simp [PyData.depth]) ?_⟩
          have h1 := int_text_length_le10 (a := i) (k := 32) (by decide) (Nat.lt_trans (Nat.lt_of_le_of_lt hi hM2) (by decide))
          have h2 := PySem.ofString_length (toString i)
          simp only [PyData.bulk]
          have h3 : (Str.ofString (toString i)).cps.size = (Str.ofString (toString i)).length := rfl
          rw [h3, h2]; omega
      · have k2 := same_new (o := .tup [.ty "list", .ty "tuple"]) ntp
        exact ⟨_, tp, "list", "tuple", _, rfl, upd_same, by decide, by decide, .int i, _, rfl, iteT (iteT ⟨_, rfl, bx, m + 1, rfl, hB1.up k2, by omega, anyQ k2⟩)⟩
theorem ok_changed {f fT fA : Addr} {fd fdT fdA : FuncData} {M : Nat} (hM1 : 10 ^ 30 ≤ M + 1) (hM2 : M < 10 ^ 31) (T : Bl mg)
    (D : Df K mg "_law_changed" sLawChanged ["_law_box_here", "_law_matter"] f fd)
    (DT : Df K mg "_law_take" sLawTake ["_law_box_here", "_law_span"] fT fdT) (GT : ∀ k, FnOk P w K mg base CX0 (k + 1) fT fdT ["_law_box_here", "_law_span"] spTake)
    (DA : Df K mg "_law_anything" sLawAnything ["_law_box_here"] fA fdA) (GA : ∀ k, FnOk P w K mg base CX0 (k + 3) fA fdA ["_law_box_here"] (spAny K)) : ∀ n : Nat, FnOk P w K mg base CX0 (n + 3) f fd ["_law_box_here", "_law_matter"] (spChanged K M n)
  | 0 => ⟨fun vs H Q E h => by obtain ⟨_, _, _, _, _, _, _, _, _, _, _, _, z, _⟩ := h; omega, fun A fr s H ar us vs Q E _ _ _ _ h => by obtain ⟨_, _, _, _, _, _, _, _, _, _, _, _, z, _⟩ := h; omega⟩
  | n + 1 => ok_changed1 (k := n + 3) hM1 hM2 T D (ok_changed hM1 hM2 T D DT GT DA GA n) DT (GT (n + 2)) DA (GA n)
end
end Af
namespace Af
open PySem PySem.Spec PyProof.Rows L2
section
variable {P : Program} {w : World} {K : PySem.W.Frag} {mg : Str → Option Value} {base : Heap}
/-! length_of -/
def spLenV (K : PySem.W.Frag) : Sp := fun vs H Q _ => ∃ (b r : V) (c : Nat) (bd : PyData) (ds : List PyData) (B : List (List Int)) (R : List Int) (n : Int), vs = [b, r, .int c] ∧ Dp K H b bd ∧ BookD bd B ∧ Dp K H r (.tuple ds) ∧ (∀ (j : Nat) (x : Int), R[j]? = some x → ds[j]? = some (PyData.int x)) ∧ lenAt B R c = some n ∧ Q (.int n) H
theorem ok_length_ofV {f : Addr} {fd : FuncData} {k : Nat} (F : Fun K "length_of" "length_of" sLengthOf f fd) : FnOk P w K mg base CX0 (k + 1) f fd ["book", "rungs", "climber"] (spLenV K) := by
  refine F.ok scLengthOf (fun vs H Q E h => ?_) (fun cdv A outer s H vs Q E hr h => ?_)
  · obtain ⟨_, _, _, _, _, _, _, _, rfl, _⟩ := h; rfl
  obtain ⟨b, r, c, bd, ds, B, R, n, rfl, hb, hB, hr', hR, hl, q⟩ := h
  refine ⟨_, pss_cons (ps_if (pt_cmpR op_eq (pv 2) pe_int (nomark _)) (pss_one (ps_ret (pe_ix ix_seq (pe_ix ix_seq (pv 0) pe_int (fun _ _ => rfl)) pe_int (fun _ _ => rfl)))) pss_nil)
    (pss_one (ps_ret (pe_ix ix_seq (pe_ix ix_seq (pv 0) (pv 2) (fun _ _ => rfl)) (pe_op op_sub (pe_ix ix_seq (pv 1) (pe_op op_sub (pv 2) pe_int) (fun _ _ => rfl)) pe_int) (fun _ _ => rfl)))), ?_⟩
  refine ⟨_, rfl, rfl, _, rfl, ?_⟩
  refine ite2 (fun e => ?_) (fun e => ?_)
  · have e0 : c = 0 := by have := V.int.inj (of_decide_eq_true e); omega
    subst e0
    obtain ⟨row, e1, e2⟩ := lenAt_zero hl
    obtain ⟨a, xs, ra, rfl, h1, h2, h3⟩ := book_row hb hB e1
    exact ⟨_, rfl, ix_of h1 (atI_nat (j := 0) h2) (ix_of h3 (atI_nat (j := 0) (by rw [List.getElem?_map, e2]; rfl)) q)⟩
  · cases c with
    | zero => exact absurd (decide_eq_true rfl) e
    | succ c =>
      obtain ⟨row, r1, e1, e2, e3, e4⟩ := lenAt_succ hl
      obtain ⟨a, xs, ra, rfl, h1, h2, h3⟩ := book_row hb hB e1
      obtain ⟨sa, ys, rfl, h4, h5⟩ : ∃ sa ys, r = .ref sa ∧ SqT K H sa ys ∧ DpAll K H ys ds := by cases hr' with | tup g1 g2 => exact ⟨_, _, rfl, g1, g2⟩
      obtain ⟨y, ey, py⟩ := dps_get h5 (hR c r1 e2)
      cases py
      have z1 : ((c + 1 : Nat) : Int) - 1 = (c : Nat) := by omega
      have z2 : r1 - 1 = (((r1 - 1).toNat : Nat) : Int) := by omega
      refine ⟨_, rfl, _, rfl, ix_of h1 (atI_nat (j := c + 1) h2) ?_⟩
      refine ⟨_, rfl, _, rfl, _, _, rfl, rfl, ?_⟩
      show rIx K (V.ref sa) (V.int (((c + 1 : Nat) : Int) - 1)) H _
      rw [z1]
      refine ix_of (.inr h4) (atI_nat (j := c) ey) ⟨_, _, rfl, rfl, ?_⟩
      show rIx K (V.ref ra) (V.int (r1 - 1)) H _
      rw [z2]
      exact ix_of h3 (atI_nat (by rw [List.getElem?_map, e4]; rfl)) q
/-! _law_ladder -/
theorem ok_ladderV {f : Addr} {fd : FuncData} {k : Nat} (F : Fun K "_law_ladder" "_law_ladder" sLawLadder f fd) : FnOk P w K mg base CX0 (k + 1) f fd ["_law_shelf", "_law_rungs", "_law_who"] (spLenV K) := by
  refine F.ok scLawLadder (fun vs H Q E h => ?_) (fun cdv A outer s H vs Q E hr h => ?_)
  · obtain ⟨_, _, _, _, _, _, _, _, rfl, _⟩ := h; rfl
  obtain ⟨b, r, c, bd, ds, B, R, n, rfl, hb, hB, hr', hR, hl, q⟩ := h
  refine ⟨_, pss_one (ps_ret (pe_ifExp (pt_cmpR op_eq (pv 2) pe_int (nomark _)) (pe_ix ix_seq (pe_ix ix_seq (pv 0) pe_int (fun _ _ => rfl)) pe_int (fun _ _ => rfl))
    (pe_ix ix_seq (pe_ix ix_seq (pv 0) (pv 2) (fun _ _ => rfl)) (pe_op op_sub (pe_ix ix_seq (pv 1) (pe_op op_sub (pv 2) pe_int) (fun _ _ => rfl)) pe_int) (fun _ _ => rfl)))), ?_⟩
  refine ⟨_, rfl, rfl, _, rfl, ?_⟩
  refine ite2 (fun e => ?_) (fun e => ?_)
  · have e0 : c = 0 := by have := V.int.inj (of_decide_eq_true e); omega
    subst e0
    obtain ⟨row, e1, e2⟩ := lenAt_zero hl
    obtain ⟨a, xs, ra, rfl, h1, h2, h3⟩ := book_row hb hB e1
    exact ⟨_, rfl, ix_of h1 (atI_nat (j := 0) h2) (ix_of h3 (atI_nat (j := 0) (by rw [List.getElem?_map, e2]; rfl)) q)⟩
  · cases c with
    | zero => exact absurd (decide_eq_true rfl) e
    | succ c =>
      obtain ⟨row, r1, e1, e2, e3, e4⟩ := lenAt_succ hl
      obtain ⟨a, xs, ra, rfl, h1, h2, h3⟩ := book_row hb hB e1
      obtain ⟨sa, ys, rfl, h4, h5⟩ : ∃ sa ys, r = .ref sa ∧ SqT K H sa ys ∧ DpAll K H ys ds := by cases hr' with | tup g1 g2 => exact ⟨_, _, rfl, g1, g2⟩
      obtain ⟨y, ey, py⟩ := dps_get h5 (hR c r1 e2)
      cases py
      have z1 : ((c + 1 : Nat) : Int) - 1 = (c : Nat) := by omega
      have z2 : r1 - 1 = (((r1 - 1).toNat : Nat) : Int) := by omega
      refine ⟨_, rfl, _, rfl, ix_of h1 (atI_nat (j := c + 1) h2) ?_⟩
      refine ⟨_, rfl, _, rfl, _, _, rfl, rfl, ?_⟩
      show rIx K (V.ref sa) (V.int (((c + 1 : Nat) : Int) - 1)) H _
      rw [z1]
      refine ix_of (.inr h4) (atI_nat (j := c) ey) ⟨_, _, rfl, rfl, ?_⟩
      show rIx K (V.ref ra) (V.int (r1 - 1)) H _
      rw [z2]
      exact ix_of h3 (atI_nat (by rw [List.getElem?_map, e4]; rfl)) q
end
end Af
namespace Af
open PySem PySem.Spec PyProof.Rows L2
section
variable {P : Program} {w : World} {K : PySem.W.Frag} {mg : Str → Option Value} {base : Heap}
/-! is_whole, is_table, is_book, of any data -/
def wholeD : PyData → Bool
  | .int _ => true
  | _ => false
theorem is_int {v : V} {H : Hp} {d : PyData} (h : Dp K H v d) : (isD d "int" && !isD d "bool") = wholeD d := by
  cases h <;> (simp only [isD, tyN, wholeD]; decide)
def spWhole (K : PySem.W.Frag) : Sp := fun vs H Q _ => ∃ (v : V) (d : PyData), vs = [v] ∧ Dp K H v d ∧ Q (.bl (wholeD d)) H
theorem ok_whole {f : Addr} {fd : FuncData} {k : Nat} (T : Bl mg) (F : Fun K "is_whole" "is_whole" sIsWhole f fd) : FnOk P w K mg base CX0 (k + 1) f fd ["value"] (spWhole K) := by
  refine F.ok scIsWhole (fun vs H Q E h => ?_) (fun cdv A outer s H vs Q E hr h => ?_)
  · obtain ⟨_, _, rfl, _⟩ := h; rfl
  obtain ⟨v, d, rfl, hd, q⟩ := h
  have nd := scIsWhole.nd
  refine ⟨_, pss_one (ps_ret (pe_and (pe_callB call_isD rfl T.isi bIsi (pa_cons (pv 0) (pa_cons (pe_bltn (v := .ty "int") rfl T.int bInt rfl) pa_nil)))
    (pe_one (pe_not (pe_callB call_isD rfl T.isi bIsi (pa_cons (pv 0) (pa_cons (pe_bltn (v := .ty "bool") rfl T.bool bBool rfl) pa_nil))))))), ?_⟩
  refine ⟨_, rfl, v, "int", d, rfl, by decide, hd, _, rfl, ?_⟩
  have e := is_int hd
  cases h1 : isD d "int" with
  | false =>
    rw [h1] at e
    refine iteNS Bool.false_ne_true ?_
    rw [← e] at q
    exact q
  | true =>
    rw [h1] at e
    refine iteT ⟨_, rfl, v, "bool", d, rfl, by decide, hd, _, rfl, ?_⟩
    rw [← e] at q
    exact q
end
end Af
namespace Af
open PySem PySem.Spec PyProof.Rows L2
section
variable {P : Program} {w : World} {K : PySem.W.Frag} {mg : Str → Option Value} {base : Heap}
/-! is_standing of any data -/
def rungD (B : List (List Int)) (R : List Int) (x : Int) : Bool := decide (1 ≤ x) && decide (x ≤ (lenAt B R R.length).getD 0)
def standGo (B : List (List Int)) : List PyData → List Int → Bool
  | [], _ => true
  | .int x :: ds, R => rungD B R x && standGo B ds (R ++ [x])
  | _ :: _, _ => false
def standD (B : List (List Int)) : PyData → Bool
  | .tuple ds => decide (ds.length = B.length) && standGo B ds []
  | _ => false
def spStand (K : PySem.W.Frag) : Sp := fun vs H Q _ => ∃ (b v : V) (bd d : PyData) (B : List (List Int)) (hi : Int), vs = [b, v] ∧ Dp K H b bd ∧ BookD bd B ∧ GoodB B hi ∧ B.length ≤ 1000 ∧ Dp K H v d ∧ ∀ H', Same H H' → Q (.bl (standD B d)) H'
set_option maxHeartbeats 1600000 in
theorem ok_standing {f fW fL : Addr} {fd fdW fdL : FuncData} {k : Nat} (T : Bl mg) (F : Fun K "is_standing" "is_standing" sIsStanding f fd)
    (DW : Df K mg "is_whole" sIsWhole ["value"] fW fdW) (GW : FnOk P w K mg base CX0 k fW fdW ["value"] (spWhole K))
    (DL : Df K mg "length_of" sLengthOf ["book", "rungs", "climber"] fL fdL) (GL : FnOk P w K mg base CX0 k fL fdL ["book", "rungs", "climber"] (spLenV K)) : FnOk P w K mg base CX0 (k + 1) f fd ["book", "value"] (spStand K) := by
  refine F.ok scIsStanding (fun vs H Q E h => ?_) (fun cdv A outer s H vs Q E hr h => ?_)
  · obtain ⟨_, _, _, _, _, _, rfl, _⟩ := h; rfl
  obtain ⟨b, v, bd, d, B, hi, rfl, hb, hB, hG, hBl, hd, q⟩ := h
  have nd := scIsStanding.nd
  refine ⟨_, pss_cons (ps_if (PW.pt (pw_or (pt_not (pt_val (pe_callB call_isD rfl T.isi bIsi (pa_cons (pv 1) (pa_cons (pe_bltn (v := .ty "tuple") rfl T.tuple bTuple rfl) pa_nil)))))
        (pw_or1 (pt_cmpR op_ne (pe_callB call_len_seq rfl T.len bLen (pa_cons (pv 1) pa_nil)) (pe_callB call_len_seq rfl T.len bLen (pa_cons (pv 0) pa_nil)) (nomark _))))) (pss_one (ps_ret pe_bl)) pss_nil)
    (pss_cons (ps_for PassesOwn.never rfl (pi_enumT rfl T.enum (pa_cons (pv 1) pa_nil)) (pg_tup rfl (pgs_cons (pg_name (i := 2) nd rfl (.inl rfl)) (pgs_cons (pg_name (i := 3) nd rfl (.inl rfl)) pgs_nil)))
      (pss_one (ps_if (PW.pt (pw_or (pt_not (pt_val (pe_do DW GW hr rfl (pa_cons (pv 3) pa_nil))))
          (pw_or (pt_cmpR op_lt (pv 3) pe_int (nomark _)) (pw_or1 (pt_cmpR op_gt (pv 3) (pe_do DL GL hr rfl (pa_cons (pv 0) (pa_cons (pv 1) (pa_cons (pv 2) pa_nil)))) (nomark _)))))) (pss_one (ps_ret pe_bl)) pss_nil)))
    (pss_one (ps_ret pe_bl))), ?_⟩
  refine ⟨_, rfl, v, "tuple", d, rfl, by decide, hd, _, rfl, ?_⟩
  cases hd with
  | non => exact iteT (iteT (q _ (Same.refl _)))
  | bl b => exact iteT (iteT (q _ (Same.refl _)))
  | int i => exact iteT (iteT (q _ (Same.refl _)))
  | str x => exact iteT (iteT (q _ (Same.refl _)))
  | lst h1 h2 => exact iteT (iteT (q _ (Same.refl _)))
  | tup h1 h2 =>
    rename_i a xs ds
    refine ite2 (fun e => nomatch e) (fun _ => ?_)
    have hl := dps_len h2
    obtain ⟨ba, ys, rfl, hba, hyl⟩ := book_len hb hB
    refine ⟨_, rfl, a, xs, rfl, .inr h1, _, rfl, ba, ys, rfl, hba, rfl, _, rfl, ?_⟩
    by_cases hlen : ds.length = B.length
    · refine ite2 (fun e => ?_) (fun _ => ?_)
      · rw [decide_eq_true (show V.int ((xs.length : Nat) : Int) = V.int ((ys.length : Nat) : Int) by rw [hl, hyl, hlen])] at e
        cases e
      have eD : standD B (.tuple ds) = standGo B ds [] := by show (decide _ && _) = _; rw [decide_eq_true hlen, Bool.true_and]
      rw [eD] at q
      refine ⟨_, rfl, a, _, rfl, h1, ?_⟩
      refine for_it (walk_enumT (xs := xs)) (fun i σ H3 => ∃ (y2 y3 : Option V) (R : List Int), σ = [some (.ref ba), some (.ref a), y2, y3] ∧ R.length = i ∧ StandsTo B R i ∧ (∀ (j : Nat) (x : Int), R[j]? = some x → ds[j]? = some (PyData.int x)) ∧ standGo B ds [] = standGo B (ds.drop i) R ∧ Same H H3)
        ⟨none, none, [], rfl, rfl, (fun c hc => absurd hc (Nat.not_lt_zero c)), (fun j x h => by simp at h), rfl, Same.refl _⟩ (fun i σ H3 _ ⟨_, _, _, _, _, _, _, _, sm⟩ => sqt_mono sm h1) (fun i x σ H3 H4 hi3 hP hy => ?_) (fun σ H3 hP => ?_)
      · obtain ⟨y2, y3, R, rfl, hRl, hS, hR, hrec, sm⟩ := hP
        obtain ⟨Tt, x1, x2, rfl, nT, rfl, e1, e2⟩ := hy
        have e1' : x1 = .int (i : Nat) := (Option.some.inj e1).symm
        subst e1'
        have e2' : xs[i]? = some x2 := e2
        obtain ⟨t, g1, p1⟩ := dps_get' h2 e2'
        have hi : i < ds.length := (List.getElem?_eq_some_iff.mp g1).1
        have ed : ds.drop i = t :: ds.drop (i + 1) := by
          rw [List.drop_eq_getElem_cons hi]
          rw [List.getElem?_eq_getElem hi] at g1
          rw [Option.some.inj g1]
        rw [ed] at hrec
        have sT := same_new (o := .tup [.int (i : Nat), x2]) nT
        have c4 := sm.trans sT
        refine ⟨Tt, _, rfl, .inl (.inl upd_same), rfl, _, _, rfl, _, _, rfl, rfl, ?_⟩
        refine ⟨_, rfl, x2, t, rfl, dp_up p1 c4, _, rfl, ?_⟩
        have no : ∀ {u : Bool}, standGo B ds [] = false → u = false → True := fun _ _ => trivial
        cases p1 with
        | non => rw [hrec] at q; exact iteT (iteT (q _ c4))
        | bl b => rw [hrec] at q; exact iteT (iteT (q _ c4))
        | str z => rw [hrec] at q; exact iteT (iteT (q _ c4))
        | lst k1 k2 => rw [hrec] at q; exact iteT (iteT (q _ c4))
        | tup k1 k2 => rw [hrec] at q; exact iteT (iteT (q _ c4))
        | int z =>
          have hrec2 : standGo B ds [] = (rungD B R z && standGo B (ds.drop (i + 1)) (R ++ [z])) := hrec
          subst hRl
          obtain ⟨n, g2, g3, g4⟩ := len_ex hG (show R.length < B.length by omega) hS
          have eR : rungD B R z = (decide (1 ≤ z) && decide (z ≤ n)) := by unfold rungD; rw [g2]; rfl
          refine iteF ⟨_, rfl, _, _, rfl, rfl, _, rfl, ite2 (fun hz => iteT ?_) (fun hz => ?_)⟩
          · have hz' : z < 1 := of_decide_eq_true hz
            rw [hrec2, eR, decide_eq_false (by omega), Bool.false_and, Bool.false_and] at q
            exact q _ c4
          have hz1 : 1 ≤ z := by
            by_cases h : z < 1
            · exact (hz (decide_eq_true h)).elim
            · omega
          refine ⟨_, rfl, _, rfl, _, rfl, _, rfl, .ref ba, .ref a, R.length, bd, ds, B, R, n, rfl, dp_up hb c4, hB, dp_up (.tup h1 h2) c4, hR, g2, _, _, rfl, rfl, _, rfl, ite2 (fun hz2 => ?_) (fun hz2 => ?_)⟩
          · have hz2' : n < z := of_decide_eq_true hz2
            rw [hrec2, eR, decide_eq_false (show ¬ z ≤ n by omega), Bool.and_false, Bool.false_and] at q
            exact q _ c4
          have hz3 : z ≤ n := by
            by_cases h : n < z
            · exact (hz2 (decide_eq_true h)).elim
            · omega
          refine ⟨_, _, R ++ [z], rfl, by simp, fun c hc => ?_, fun j x hj => ?_, ?_, c4⟩
          · by_cases hc2 : c < R.length
            · obtain ⟨n', r', t1, t2, t3⟩ := hS c hc2
              refine ⟨n', r', ?_, by rw [List.getElem?_append_left hc2]; exact t2, t3⟩
              rw [lenAt_pre (S := R) fun j hj => List.getElem?_append_left (by omega)]; exact t1
            · obtain rfl : c = R.length := by omega
              refine ⟨n, z, ?_, by simp, hz1, hz3⟩
              rw [lenAt_pre (S := R) fun j hj => List.getElem?_append_left hj]; exact g2
          · by_cases hj2 : j < R.length
            · rw [List.getElem?_append_left hj2] at hj; exact hR j x hj
            · rw [List.getElem?_append_right (by omega)] at hj
              have : j = R.length := by
                by_cases h0 : j - R.length = 0
                · omega
                · rw [List.getElem?_eq_none (by simp; omega)] at hj; cases hj
              subst this
              rw [Nat.sub_self] at hj
              cases hj
              exact g1
          · rw [hrec2, eR, decide_eq_true hz1, decide_eq_true hz3]; rfl
      · obtain ⟨y2, y3, R, rfl, hRl, hS, hR, hrec, sm⟩ := hP
        have : standGo B ds [] = true := by rw [hrec, hl, List.drop_length]; rfl
        rw [this] at q
        exact q _ sm
    · refine ite2 (fun _ => ?_) (fun e => ?_)
      · have : standD B (.tuple ds) = false := by show (decide _ && _) = _; rw [decide_eq_false hlen]; rfl
        rw [this] at q
        exact q _ (Same.refl _)
      · refine (e ?_).elim
        rw [decide_eq_false (show ¬ V.int ((xs.length : Nat) : Int) = V.int ((ys.length : Nat) : Int) from fun z => hlen (by have := V.int.inj z; omega))]; rfl
set_option maxHeartbeats 1600000 in
theorem ok_stands {f fL : Addr} {fd fdL : FuncData} {k : Nat} (T : Bl mg) (F : Fun K "_law_stands" "_law_stands" sLawStands f fd)
    (DL : Df K mg "_law_ladder" sLawLadder ["_law_shelf", "_law_rungs", "_law_who"] fL fdL) (GL : FnOk P w K mg base CX0 k fL fdL ["_law_shelf", "_law_rungs", "_law_who"] (spLenV K)) : FnOk P w K mg base CX0 (k + 1) f fd ["_law_shelf", "_law_matter"] (spStand K) := by
  refine F.ok scLawStands (fun vs H Q E h => ?_) (fun cdv A outer s H vs Q E hr h => ?_)
  · obtain ⟨_, _, _, _, _, _, rfl, _⟩ := h; rfl
  obtain ⟨b, v, bd, d, B, hi, rfl, hb, hB, hG, hBl, hd, q⟩ := h
  have nd := scLawStands.nd
  refine ⟨_, pss_cons (ps_if (PW.pt (pw_or (pt_not (pt_val (pe_callB call_isD rfl T.isi bIsi (pa_cons (pv 1) (pa_cons (pe_bltn (v := .ty "tuple") rfl T.tuple bTuple rfl) pa_nil)))))
        (pw_or1 (pt_cmpR op_ne (pe_callB call_len_seq rfl T.len bLen (pa_cons (pv 1) pa_nil)) (pe_callB call_len_seq rfl T.len bLen (pa_cons (pv 0) pa_nil)) (nomark _))))) (pss_one (ps_ret pe_bl)) pss_nil)
    (pss_cons (ps_for PassesOwn.never rfl (pi_enumT rfl T.enum (pa_cons (pv 1) pa_nil)) (pg_tup rfl (pgs_cons (pg_name (i := 2) nd rfl (.inl rfl)) (pgs_cons (pg_name (i := 3) nd rfl (.inl rfl)) pgs_nil)))
      (pss_one (ps_if (PW.pt (pw_or (pt_not (pt_val (pe_callB call_isD rfl T.isi bIsi (pa_cons (pv 3) (pa_cons (pe_bltn (v := .ty "int") rfl T.int bInt rfl) pa_nil)))))
          (pw_or (pt_val (pe_callB call_isD rfl T.isi bIsi (pa_cons (pv 3) (pa_cons (pe_bltn (v := .ty "bool") rfl T.bool bBool rfl) pa_nil))))
          (pw_or1 (pt_not (pt_chain op_le op_le pe_int (pv 3) (pe_do DL GL hr rfl (pa_cons (pv 0) (pa_cons (pv 1) (pa_cons (pv 2) pa_nil)))))))))) (pss_one (ps_ret pe_bl)) pss_nil)))
    (pss_one (ps_ret pe_bl))), ?_⟩
  refine ⟨_, rfl, v, "tuple", d, rfl, by decide, hd, _, rfl, ?_⟩
  cases hd with
  | non => exact iteT (iteT (q _ (Same.refl _)))
  | bl b => exact iteT (iteT (q _ (Same.refl _)))
  | int i => exact iteT (iteT (q _ (Same.refl _)))
  | str x => exact iteT (iteT (q _ (Same.refl _)))
  | lst h1 h2 => exact iteT (iteT (q _ (Same.refl _)))
  | tup h1 h2 =>
    rename_i a xs ds
    refine ite2 (fun e => nomatch e) (fun _ => ?_)
    have hl := dps_len h2
    obtain ⟨ba, ys, rfl, hba, hyl⟩ := book_len hb hB
    refine ⟨_, rfl, a, xs, rfl, .inr h1, _, rfl, ba, ys, rfl, hba, rfl, _, rfl, ?_⟩
    by_cases hlen : ds.length = B.length
    · refine ite2 (fun e => ?_) (fun _ => ?_)
      · rw [decide_eq_true (show V.int ((xs.length : Nat) : Int) = V.int ((ys.length : Nat) : Int) by rw [hl, hyl, hlen])] at e
        cases e
      have eD : standD B (.tuple ds) = standGo B ds [] := by show (decide _ && _) = _; rw [decide_eq_true hlen, Bool.true_and]
      rw [eD] at q
      refine ⟨_, rfl, a, _, rfl, h1, ?_⟩
      refine for_it (walk_enumT (xs := xs)) (fun i σ H3 => ∃ (y2 y3 : Option V) (R : List Int), σ = [some (.ref ba), some (.ref a), y2, y3] ∧ R.length = i ∧ StandsTo B R i ∧ (∀ (j : Nat) (x : Int), R[j]? = some x → ds[j]? = some (PyData.int x)) ∧ standGo B ds [] = standGo B (ds.drop i) R ∧ Same H H3)
        ⟨none, none, [], rfl, rfl, (fun c hc => absurd hc (Nat.not_lt_zero c)), (fun j x h => by simp at h), rfl, Same.refl _⟩ (fun i σ H3 _ ⟨_, _, _, _, _, _, _, _, sm⟩ => sqt_mono sm h1) (fun i x σ H3 H4 hi3 hP hy => ?_) (fun σ H3 hP => ?_)
      · obtain ⟨y2, y3, R, rfl, hRl, hS, hR, hrec, sm⟩ := hP
        obtain ⟨Tt, x1, x2, rfl, nT, rfl, e1, e2⟩ := hy
        have e1' : x1 = .int (i : Nat) := (Option.some.inj e1).symm
        subst e1'
        have e2' : xs[i]? = some x2 := e2
        obtain ⟨t, g1, p1⟩ := dps_get' h2 e2'
        have hi : i < ds.length := (List.getElem?_eq_some_iff.mp g1).1
        have ed : ds.drop i = t :: ds.drop (i + 1) := by
          rw [List.drop_eq_getElem_cons hi]
          rw [List.getElem?_eq_getElem hi] at g1
          rw [Option.some.inj g1]
        rw [ed] at hrec
        have sT := same_new (o := .tup [.int (i : Nat), x2]) nT
        have c4 := sm.trans sT
        refine ⟨Tt, _, rfl, .inl (.inl upd_same), rfl, _, _, rfl, _, _, rfl, rfl, ?_⟩
        refine ⟨_, rfl, x2, "int", t, rfl, by decide, dp_up p1 c4, _, rfl, ?_⟩
        have no : ∀ {u : Bool}, standGo B ds [] = false → u = false → True := fun _ _ => trivial
        cases p1 with
        | non => rw [hrec] at q; exact iteT (iteT (q _ c4))
        | bl b => rw [hrec] at q; exact iteF ⟨_, rfl, _, "bool", _, rfl, by decide, .bl b, _, rfl, iteT (iteT (q _ c4))⟩
        | str z => rw [hrec] at q; exact iteT (iteT (q _ c4))
        | lst k1 k2 => rw [hrec] at q; exact iteT (iteT (q _ c4))
        | tup k1 k2 => rw [hrec] at q; exact iteT (iteT (q _ c4))
        | int z =>
          have hrec2 : standGo B ds [] = (rungD B R z && standGo B (ds.drop (i + 1)) (R ++ [z])) := hrec
          subst hRl
          obtain ⟨n, g2, g3, g4⟩ := len_ex hG (show R.length < B.length by omega) hS
          have eR : rungD B R z = (decide (1 ≤ z) && decide (z ≤ n)) := by unfold rungD; rw [g2]; rfl
          refine iteF ⟨_, rfl, _, "bool", _, rfl, by decide, .int z, _, rfl, iteF ⟨_, rfl, _, _, rfl, rfl, _, rfl, ite2 (fun hz => ?_) (fun hz => ⟨_, rfl, iteT ?_⟩)⟩⟩
          rotate_left
          · rw [hrec2, eR, decide_eq_false (fun h => hz (decide_eq_true h)), Bool.false_and, Bool.false_and] at q
            exact q _ c4
          have hz1 : 1 ≤ z := of_decide_eq_true hz
          refine ⟨_, rfl, _, rfl, _, rfl, .ref ba, .ref a, R.length, bd, ds, B, R, n, rfl, dp_up hb c4, hB, dp_up (.tup h1 h2) c4, hR, g2, _, _, rfl, rfl, _, rfl, ?_⟩
          by_cases hz3 : z ≤ n
          rotate_left
          · refine ite2 (fun _ => ?_) (fun e => (e (by rw [decide_eq_false hz3]; rfl)).elim)
            rw [hrec2, eR, decide_eq_false hz3, Bool.and_false, Bool.false_and] at q
            exact q _ c4
          refine ite2 (fun e => by rw [decide_eq_true hz3] at e; cases e) (fun _ => ?_)
          refine ⟨_, _, R ++ [z], rfl, by simp, fun c hc => ?_, fun j x hj => ?_, ?_, c4⟩
          · by_cases hc2 : c < R.length
            · obtain ⟨n', r', t1, t2, t3⟩ := hS c hc2
              refine ⟨n', r', ?_, by rw [List.getElem?_append_left hc2]; exact t2, t3⟩
              rw [lenAt_pre (S := R) fun j hj => List.getElem?_append_left (by omega)]; exact t1
            · obtain rfl : c = R.length := by omega
              refine ⟨n, z, ?_, by simp, hz1, hz3⟩
              rw [lenAt_pre (S := R) fun j hj => List.getElem?_append_left hj]; exact g2
          · by_cases hj2 : j < R.length
            · rw [List.getElem?_append_left hj2] at hj; exact hR j x hj
            · rw [List.getElem?_append_right (by omega)] at hj
              have : j = R.length := by
                by_cases h0 : j - R.length = 0
                · omega
                · rw [List.getElem?_eq_none (by simp; omega)] at hj; cases hj
              subst this
              rw [Nat.sub_self] at hj
              cases hj
              exact g1
          · rw [hrec2, eR, decide_eq_true hz1, decide_eq_true hz3]; rfl
      · obtain ⟨y2, y3, R, rfl, hRl, hS, hR, hrec, sm⟩ := hP
        have : standGo B ds [] = true := by rw [hrec, hl, List.drop_length]; rfl
        rw [this] at q
        exact q _ sm
    · refine ite2 (fun _ => ?_) (fun e => ?_)
      · have : standD B (.tuple ds) = false := by show (decide _ && _) = _; rw [decide_eq_false hlen]; rfl
        rw [this] at q
        exact q _ (Same.refl _)
      · refine (e ?_).elim
        rw [decide_eq_false (show ¬ V.int ((xs.length : Nat) : Int) = V.int ((ys.length : Nat) : Int) from fun z => hlen (by have := V.int.inj z; omega))]; rfl
end
end Af
namespace Af
open PySem PySem.Spec PyProof.Rows L2
section
variable {P : Program} {w : World} {K : PySem.W.Frag} {mg : Str → Option Value} {base : Heap}
/-! are_faces, is_state of any data -/
def faceD : PyData → Bool
  | .int i => inV (.int i) [.int 1, .int (-1)]
  | _ => false
def facesD (n : Int) : PyData → Bool
  | .tuple ds => decide ((ds.length : Int) = n) && ds.all faceD
  | _ => false
def stateD (B : List (List Int)) : PyData → Bool
  | .tuple [x, y] => standD B x && facesD B.length y
  | _ => false
def spFaces (K : PySem.W.Frag) : Sp := fun vs H Q _ => ∃ (v : V) (d : PyData) (n : Int), vs = [v, .int n] ∧ Dp K H v d ∧ d.bulk ≤ 1000000 ∧ ∀ H', Same H H' → Q (.bl (facesD n d)) H'
theorem ok_faces {f fW : Addr} {fd fdW : FuncData} {k : Nat} (T : Bl mg) (F : Fun K "are_faces" "are_faces" sAreFaces f fd)
    (DW : Df K mg "is_whole" sIsWhole ["value"] fW fdW) (GW : FnOk P w K mg base CX0 k fW fdW ["value"] (spWhole K)) : FnOk P w K mg base CX0 (k + 1) f fd ["value", "many"] (spFaces K) := by
  refine F.ok scAreFaces (fun vs H Q E h => ?_) (fun cdv A outer s H vs Q E hr h => ?_)
  · obtain ⟨_, _, _, rfl, _⟩ := h; rfl
  obtain ⟨v, d, n, rfl, hd, hbk, q⟩ := h
  have nd := scAreFaces.nd
  refine ⟨_, pss_cons (ps_if (PW.pt (pw_or (pt_not (pt_val (pe_callB call_isD rfl T.isi bIsi (pa_cons (pv 0) (pa_cons (pe_bltn (v := .ty "tuple") rfl T.tuple bTuple rfl) pa_nil)))))
        (pw_or1 (pt_cmpR op_ne (pe_callB call_len_seq rfl T.len bLen (pa_cons (pv 0) pa_nil)) (pv 1) (nomark _))))) (pss_one (ps_ret pe_bl)) pss_nil)
    (pss_one (ps_ret (pe_callB (cr_all rfl) rfl T.all bAll (pa_cons
      (pe_lc (own := [("item", 2)]) (g := gName 2) (tt := tYes) (te := tAndV (tCall (spWhole K) [] E0 (tCons (tVar 2) tNil)) (tOp (rIn K false) (tVar 2) (tTup (tCons (tC (.int 1)) (tCons (tUn (rU fun i => .int (-i)) (tC (.int 1))) tNil))))) rfl nd (pi_tup (pv 0))
        (blkOk_by (N := ["value", "many", "item"]) (sc := defScope sAreFaces) (by decide +kernel))
        (fun _ _ _ _ _ => pg_name (i := 2) nd rfl (.inl rfl)) (fun _ _ _ _ _ => pts_nil)
        (fun _ _ _ _ _ => pe_and (pe_do DW GW hr rfl (pa_cons (pv 2) pa_nil)) (pe_one (pe_cmpR op_in_seq (pv 2) (pe_tup (pa_cons pe_int (pa_cons (pe_un un_neg pe_int) pa_nil))) rfl)))) pa_nil)))), ?_⟩
  refine ⟨_, rfl, v, "tuple", d, rfl, by decide, hd, _, rfl, ?_⟩
  cases hd with
  | non => exact iteT (iteT (q _ (Same.refl _)))
  | bl b => exact iteT (iteT (q _ (Same.refl _)))
  | int i => exact iteT (iteT (q _ (Same.refl _)))
  | str x => exact iteT (iteT (q _ (Same.refl _)))
  | lst h1 h2 => exact iteT (iteT (q _ (Same.refl _)))
  | tup h1 h2 =>
    rename_i a xs ds
    refine ite2 (fun e => nomatch e) (fun _ => ?_)
    have hl := dps_len h2
    have hbl := bulk_len ds
    simp only [PyData.bulk] at hbk
    refine ⟨_, rfl, a, xs, rfl, .inr h1, _, rfl, rfl, _, rfl, ?_⟩
    by_cases hlen : (ds.length : Int) = n
    · refine ite2 (fun e => ?_) (fun _ => ?_)
      · rw [decide_eq_true (show V.int ((xs.length : Nat) : Int) = V.int n by rw [hl, hlen])] at e
        cases e
      have eD : facesD n (.tuple ds) = ds.all faceD := by show (decide _ && _) = _; rw [decide_eq_true hlen, Bool.true_and]
      rw [eD] at q
      refine ⟨_, rfl, a, rfl, ⟨_, h1⟩, fun D nD => ?_⟩
      have sD := same_new (o := .lst []) nD
      refine lc_tup (xs := xs) (fun j H3 => H3 D = some (.lst ((ds.take j).map fun d => V.bl (faceD d))) ∧ Same H H3) ⟨upd_same, sD⟩ (fun j H3 _ hP => sqt_mono hP.2 h1) (fun j x H3 hx hP => ?_) (fun H3 hP => ?_)
      · obtain ⟨hD, sm⟩ := hP
        obtain ⟨d1, g1, p1⟩ := dps_get' h2 hx
        have p1' := dp_up p1 sm
        have hj : j < ds.length := (List.getElem?_eq_some_iff.mp g1).1
        have fin : ∀ {H4 : Hp}, Same H3 H4 → ∃ acc, H4 D = some (.lst acc) ∧ acc.length < sizeLine ∧ (upd H4 D (.lst (acc ++ [V.bl (faceD d1)]))) D = some (.lst ((ds.take (j + 1)).map fun d => V.bl (faceD d))) ∧ Same H (upd H4 D (.lst (acc ++ [V.bl (faceD d1)]))) := fun {H4} c4 => by
          refine ⟨_, c4 _ _ hD, ?_, ?_, fun c o ec => ?_⟩
          · rw [List.length_map, List.length_take]
            have := sizeLine_eq
            omega
          · rw [upd_same, List.take_add_one, g1, List.map_append]; rfl
          · rw [upd_ne (ne_of_none ec nD)]; exact c4 _ _ (sm _ _ ec)
        refine ⟨rfl, yesT ?_⟩
        refine ⟨_, rfl, x, d1, rfl, p1', _, rfl, ?_⟩
        cases p1 with
        | int i =>
          refine iteT ⟨_, rfl, 1, rfl, by show 2 ≤ sizeLine; decide, fun t nt => ?_⟩
          exact ⟨t, _, rfl, .inr (.inl (.inl upd_same)), rfl, rfl, fin (same_new nt)⟩
        | non => exact iteNS Bool.false_ne_true (fin (Same.refl _))
        | bl b => exact iteNS Bool.false_ne_true (fin (Same.refl _))
        | str x => exact iteNS Bool.false_ne_true (fin (Same.refl _))
        | lst h1 h2 => exact iteNS Bool.false_ne_true (fin (Same.refl _))
        | tup h1 h2 => exact iteNS Bool.false_ne_true (fin (Same.refl _))
      · obtain ⟨hD, sm⟩ := hP
        rw [hl, List.take_length] at hD
        refine ⟨D, ds.map faceD, rfl, SqL.of (by rw [List.map_map]; exact hD), ?_⟩
        rw [List.all_map]
        exact q _ sm
    · refine ite2 (fun _ => ?_) (fun e => ?_)
      · have : facesD n (.tuple ds) = false := by show (decide _ && _) = _; rw [decide_eq_false hlen]; rfl
        rw [this] at q
        exact q _ (Same.refl _)
      · refine (e ?_).elim
        rw [decide_eq_false (show ¬ V.int ((xs.length : Nat) : Int) = V.int n from fun z => hlen (by have := V.int.inj z; omega))]; rfl
def spState (K : PySem.W.Frag) : Sp := fun vs H Q _ => ∃ (b v : V) (bd d : PyData) (B : List (List Int)) (hi : Int), vs = [b, v] ∧ Dp K H b bd ∧ BookD bd B ∧ GoodB B hi ∧ B.length ≤ 1000 ∧ Dp K H v d ∧ d.bulk ≤ 1000000 ∧ ∀ H', Same H H' → Q (.bl (stateD B d)) H'
theorem stateD_no {B : List (List Int)} {ds : List PyData} (h : ds.length ≠ 2) : stateD B (.tuple ds) = false := by
  match ds, h with
  | [], _ => rfl
  | [_], _ => rfl
  | [_, _], h => exact absurd rfl h
  | _ :: _ :: _ :: _, _ => rfl
theorem ok_state {f fS fF : Addr} {fd fdS fdF : FuncData} {k : Nat} (T : Bl mg) (F : Fun K "is_state" "is_state" sIsState f fd)
    (DS : Df K mg "is_standing" sIsStanding ["book", "value"] fS fdS) (GS : FnOk P w K mg base CX0 k fS fdS ["book", "value"] (spStand K))
    (DF : Df K mg "are_faces" sAreFaces ["value", "many"] fF fdF) (GF : FnOk P w K mg base CX0 k fF fdF ["value", "many"] (spFaces K)) : FnOk P w K mg base CX0 (k + 1) f fd ["book", "value"] (spState K) := by
  refine F.ok scIsState (fun vs H Q E h => ?_) (fun cdv A outer s H vs Q E hr h => ?_)
  · obtain ⟨_, _, _, _, _, _, rfl, _⟩ := h; rfl
  obtain ⟨b, v, bd, d, B, hi, rfl, hb, hB, hG, hBl, hd, hbk, q⟩ := h
  have nd := scIsState.nd
  refine ⟨_, pss_cons (ps_if (PW.pt (pw_or (pt_not (pt_val (pe_callB call_isD rfl T.isi bIsi (pa_cons (pv 1) (pa_cons (pe_bltn (v := .ty "tuple") rfl T.tuple bTuple rfl) pa_nil)))))
        (pw_or1 (pt_cmpR op_ne (pe_callB call_len_seq rfl T.len bLen (pa_cons (pv 1) pa_nil)) pe_int (nomark _))))) (pss_one (ps_ret pe_bl)) pss_nil)
    (pss_one (ps_ret (pe_and (pe_do DS GS hr rfl (pa_cons (pv 0) (pa_cons (pe_ix ix_tup (pv 1) pe_int (fun _ _ => rfl)) pa_nil)))
      (pe_one (pe_do DF GF hr rfl (pa_cons (pe_ix ix_tup (pv 1) pe_int (fun _ _ => rfl)) (pa_cons (pe_callB call_len_seq rfl T.len bLen (pa_cons (pv 0) pa_nil)) pa_nil))))))), ?_⟩
  refine ⟨_, rfl, v, "tuple", d, rfl, by decide, hd, _, rfl, ?_⟩
  cases hd with
  | non => exact iteT (iteT (q _ (Same.refl _)))
  | bl b => exact iteT (iteT (q _ (Same.refl _)))
  | int i => exact iteT (iteT (q _ (Same.refl _)))
  | str x => exact iteT (iteT (q _ (Same.refl _)))
  | lst h1 h2 => exact iteT (iteT (q _ (Same.refl _)))
  | tup h1 h2 =>
    rename_i a xs ds
    refine ite2 (fun e => nomatch e) (fun _ => ?_)
    have hl := dps_len h2
    simp only [PyData.bulk] at hbk
    refine ⟨_, rfl, a, xs, rfl, .inr h1, rfl, _, rfl, ?_⟩
    by_cases hlen : ds.length = 2
    · refine ite2 (fun e => ?_) (fun _ => ?_)
      · rw [decide_eq_true (show V.int ((xs.length : Nat) : Int) = V.int 2 by rw [hl, hlen]; rfl)] at e
        cases e
      obtain ⟨x, y, rfl⟩ : ∃ x y, ds = [x, y] := by
        match ds, hlen with
        | [x, y], _ => exact ⟨x, y, rfl⟩
      cases h2 with
      | cons px r =>
        cases r with
        | cons py r =>
          cases r
          simp only [PyData.bulkAll] at hbk
          obtain ⟨ba, ys, rfl, hba, hyl⟩ := book_len hb hB
          refine ⟨_, rfl, _, rfl, a, _, 0, _, rfl, rfl, h1, atI_nat (j := 0) rfl, V.ref ba, _, bd, x, B, hi, rfl, hb, hB, hG, hBl, px, fun H1 s1 => ?_⟩
          refine ⟨_, rfl, ?_⟩
          have eS : stateD B (.tuple [x, y]) = (standD B x && facesD B.length y) := rfl
          rw [eS] at q
          cases hs : standD B x with
          | false =>
            rw [hs, Bool.false_and] at q
            exact iteF (q _ s1)
          | true =>
            rw [hs, Bool.true_and] at q
            refine iteT ⟨_, rfl, a, _, 1, _, rfl, rfl, sqt_mono s1 h1, atI_nat (j := 1) rfl, _, rfl, ba, ys, rfl, sq_mono s1 hba, _, y, (B.length : Int), (by rw [← hyl]; rfl), dp_up py s1, by omega, fun H2 s2 => q _ (s1.trans s2)⟩
    · refine ite2 (fun _ => ?_) (fun e => ?_)
      · rw [stateD_no hlen] at q
        exact q _ (Same.refl _)
      · refine (e ?_).elim
        rw [decide_eq_false (show ¬ V.int ((xs.length : Nat) : Int) = V.int 2 from fun z => hlen (by have := V.int.inj z; omega))]; rfl
/-! _law_is_due -/
def rIsD (K : PySem.W.Frag) : List V → Hp → VK → Prop := fun xs H Q => ∃ (v : V) (c : String) (d : PyData), xs = [v, .ty c] ∧ c ∈ five ∧ Dp K H v d ∧ Q (.bl (isD d c)) H
set_option maxHeartbeats 1600000 in
theorem ok_isdue {f fS : Addr} {fd fdS : FuncData} {k : Nat} (T : Bl mg) (F : Fun K "_law_is_due" "_law_is_due" sLawIsDue f fd)
    (DS : Df K mg "_law_stands" sLawStands ["_law_shelf", "_law_matter"] fS fdS) (GS : FnOk P w K mg base CX0 k fS fdS ["_law_shelf", "_law_matter"] (spStand K)) : FnOk P w K mg base CX0 (k + 1) f fd ["_law_shelf", "_law_matter"] (spState K) := by
  refine F.ok scLawIsDue (fun vs H Q E h => ?_) (fun cdv A outer s H vs Q E hr h => ?_)
  · obtain ⟨_, _, _, _, _, _, rfl, _⟩ := h; rfl
  obtain ⟨b, v, bd, d, B, hi, rfl, hb, hB, hG, hBl, hd, hbk, q⟩ := h
  have nd := scLawIsDue.nd
  refine ⟨_, pss_cons (ps_if (PW.pt (pw_or (pt_not (pt_val (pe_callB call_isD rfl T.isi bIsi (pa_cons (pv 1) (pa_cons (pe_bltn (v := .ty "tuple") rfl T.tuple bTuple rfl) pa_nil)))))
        (pw_or (pt_cmpR op_ne (pe_callB call_len_seq rfl T.len bLen (pa_cons (pv 1) pa_nil)) pe_int (nomark _))
        (pw_or1 (pt_not (pt_val (pe_do DS GS hr rfl (pa_cons (pv 0) (pa_cons (pe_ix ix_tup (pv 1) pe_int (fun _ _ => rfl)) pa_nil))))))))) (pss_one (ps_ret pe_bl)) pss_nil)
    (pss_cons (ps_if (PW.pt (pw_or (pt_not (pt_val (pe_callB call_isD rfl T.isi bIsi (pa_cons (pe_ix ix_tup (pv 1) pe_int (fun _ _ => rfl)) (pa_cons (pe_bltn (v := .ty "tuple") rfl T.tuple bTuple rfl) pa_nil)))))
        (pw_or1 (pt_cmpR op_ne (pe_callB call_len_seq rfl T.len bLen (pa_cons (pe_ix ix_tup (pv 1) pe_int (fun _ _ => rfl)) pa_nil)) (pe_callB call_len_seq rfl T.len bLen (pa_cons (pv 0) pa_nil)) (nomark _))))) (pss_one (ps_ret pe_bl)) pss_nil)
    (pss_one (ps_ret (pe_callB (cr_all rfl) rfl T.all bAll (pa_cons
      (pe_lc (own := [("_law_look", 2)]) (g := gName 2) (tt := tYes) (te := tAndV (tCB (rIsD K) (tCons (tVar 2) (tCons (tC (.ty "int")) tNil))) (tAndV (tNotV (tCB (rIsD K) (tCons (tVar 2) (tCons (tC (.ty "bool")) tNil)))) (tOp (rIn K false) (tVar 2) (tTup (tCons (tC (.int 1)) (tCons (tUn (rU fun i => .int (-i)) (tC (.int 1))) tNil)))))) rfl nd (pi_tup (pe_ix ix_tup (pv 1) pe_int (fun _ _ => rfl)))
        (blkOk_by (N := ["_law_shelf", "_law_matter", "_law_look"]) (sc := defScope sLawIsDue) (by decide +kernel))
        (fun _ _ _ _ _ => pg_name (i := 2) nd rfl (.inl rfl)) (fun _ _ _ _ _ => pts_nil)
        (fun _ _ _ _ _ => pe_and (pe_callB call_isD rfl T.isi bIsi (pa_cons (pv 2) (pa_cons (pe_bltn (v := .ty "int") rfl T.int bInt rfl) pa_nil)))
          (pe_and (pe_not (pe_callB call_isD rfl T.isi bIsi (pa_cons (pv 2) (pa_cons (pe_bltn (v := .ty "bool") rfl T.bool bBool rfl) pa_nil))))
          (pe_one (pe_cmpR op_in_seq (pv 2) (pe_tup (pa_cons pe_int (pa_cons (pe_un un_neg pe_int) pa_nil))) rfl))))) pa_nil))))), ?_⟩
  refine ⟨_, rfl, v, "tuple", d, rfl, by decide, hd, _, rfl, ?_⟩
  cases hd with
  | non => exact iteT (iteT (q _ (Same.refl _)))
  | bl b => exact iteT (iteT (q _ (Same.refl _)))
  | int i => exact iteT (iteT (q _ (Same.refl _)))
  | str x => exact iteT (iteT (q _ (Same.refl _)))
  | lst h1 h2 => exact iteT (iteT (q _ (Same.refl _)))
  | tup h1 h2 =>
    rename_i a xs ds
    refine ite2 (fun e => nomatch e) (fun _ => ?_)
    have hl := dps_len h2
    simp only [PyData.bulk] at hbk
    refine ⟨_, rfl, a, xs, rfl, .inr h1, rfl, _, rfl, ?_⟩
    by_cases hlen : ds.length = 2
    · refine ite2 (fun e => ?_) (fun _ => ?_)
      · rw [decide_eq_true (show V.int ((xs.length : Nat) : Int) = V.int 2 by rw [hl, hlen]; rfl)] at e
        cases e
      obtain ⟨x, y, rfl⟩ : ∃ x y, ds = [x, y] := by
        match ds, hlen with
        | [x, y], _ => exact ⟨x, y, rfl⟩
      cases h2 with
      | cons px r =>
        cases r with
        | cons py r =>
          cases r
          simp only [PyData.bulkAll] at hbk
          obtain ⟨ba, ys, rfl, hba, hyl⟩ := book_len hb hB
          refine ⟨_, rfl, _, rfl, a, _, 0, _, rfl, rfl, h1, atI_nat (j := 0) rfl, V.ref ba, _, bd, x, B, hi, rfl, hb, hB, hG, hBl, px, fun H1 s1 => ?_⟩
          refine ⟨_, rfl, ?_⟩
          have eS : stateD B (.tuple [x, y]) = (standD B x && facesD B.length y) := rfl
          rw [eS] at q
          cases hs : standD B x with
          | false =>
            rw [hs, Bool.false_and] at q
            exact iteT (q _ s1)
          | true =>
            rw [hs, Bool.true_and] at q
            have h1' := sqt_mono s1 h1
            refine iteF ⟨_, rfl, a, _, 1, _, rfl, rfl, h1', atI_nat (j := 1) rfl, _, "tuple", y, rfl, by decide, dp_up py s1, _, rfl, ?_⟩
            cases py with
            | non => exact iteT (iteT (q _ s1))
            | bl b => exact iteT (iteT (q _ s1))
            | int i => exact iteT (iteT (q _ s1))
            | str x => exact iteT (iteT (q _ s1))
            | lst k1 k2 => exact iteT (iteT (q _ s1))
            | @tup c zs es k1 k2 =>
              refine ite2 (fun e => nomatch e) (fun _ => ?_)
              have hl2 := dps_len k2
              have hbl := bulk_len es
              have hbe : PyData.bulkAll es ≤ 1000000 := by simp only [PyData.bulk] at hbk; omega
              have k1' := sqt_mono s1 k1
              refine ⟨_, rfl, a, _, 1, _, rfl, rfl, h1', atI_nat (j := 1) rfl, c, zs, rfl, .inr k1', _, rfl, ba, ys, rfl, sq_mono s1 hba, rfl, _, rfl, ?_⟩
              by_cases hle : es.length = B.length
              · refine ite2 (fun e => ?_) (fun _ => ?_)
                · rw [decide_eq_true (show V.int ((zs.length : Nat) : Int) = V.int ((ys.length : Nat) : Int) by rw [hl2, hyl, hle])] at e
                  cases e
                have eD : facesD B.length (.tuple es) = es.all faceD := by show (decide _ && _) = _; rw [decide_eq_true (by rw [hle]), Bool.true_and]
                rw [eD] at q
                refine ⟨_, rfl, a, _, 1, _, rfl, rfl, h1', atI_nat (j := 1) rfl, c, rfl, ⟨_, k1'⟩, fun D nD => ?_⟩
                have sD := same_new (o := .lst []) nD
                refine lc_tup (xs := zs) (fun j H3 => H3 D = some (.lst ((es.take j).map fun d => V.bl (faceD d))) ∧ Same H1 H3) ⟨upd_same, sD⟩ (fun j H3 _ hP => sqt_mono hP.2 k1') (fun j x H3 hx hP => ?_) (fun H3 hP => ?_)
                · obtain ⟨hD, sm⟩ := hP
                  obtain ⟨d1, g1, p1⟩ := dps_get' k2 hx
                  have p1' := dp_up p1 (s1.trans sm)
                  have hj : j < es.length := (List.getElem?_eq_some_iff.mp g1).1
                  have fin : ∀ {H4 : Hp}, Same H3 H4 → ∃ acc, H4 D = some (.lst acc) ∧ acc.length < sizeLine ∧ (upd H4 D (.lst (acc ++ [V.bl (faceD d1)]))) D = some (.lst ((es.take (j + 1)).map fun d => V.bl (faceD d))) ∧ Same H1 (upd H4 D (.lst (acc ++ [V.bl (faceD d1)]))) := fun {H4} c4 => by
                    refine ⟨_, c4 _ _ hD, ?_, ?_, fun c o ec => ?_⟩
                    · rw [List.length_map, List.length_take]
                      have := sizeLine_eq
                      omega
                    · rw [upd_same, List.take_add_one, g1, List.map_append]; rfl
                    · rw [upd_ne (ne_of_none ec nD)]; exact c4 _ _ (sm _ _ ec)
                  refine ⟨rfl, yesT ?_⟩
                  refine ⟨_, rfl, x, "int", d1, rfl, by decide, p1', _, rfl, ?_⟩
                  cases p1 with
                  | int i =>
                    refine iteT ⟨_, rfl, _, "bool", _, rfl, by decide, .int i, _, rfl, _, rfl, iteT ⟨_, rfl, 1, rfl, by show 2 ≤ sizeLine; decide, fun t nt => ?_⟩⟩
                    exact ⟨t, _, rfl, .inr (.inl (.inl upd_same)), rfl, rfl, fin (same_new nt)⟩
                  | bl b => exact iteT ⟨_, rfl, _, "bool", _, rfl, by decide, .bl b, _, rfl, _, rfl, iteF (fin (Same.refl _))⟩
                  | non => exact iteF (fin (Same.refl _))
                  | str x => exact iteF (fin (Same.refl _))
                  | lst h1 h2 => exact iteF (fin (Same.refl _))
                  | tup h1 h2 => exact iteF (fin (Same.refl _))
                · obtain ⟨hD, sm⟩ := hP
                  rw [hl2, List.take_length] at hD
                  refine ⟨D, es.map faceD, rfl, SqL.of (by rw [List.map_map]; exact hD), ?_⟩
                  rw [List.all_map]
                  exact q _ (s1.trans sm)
              · refine ite2 (fun _ => ?_) (fun e => ?_)
                · have : facesD B.length (.tuple es) = false := by show (decide _ && _) = _; rw [decide_eq_false (by omega)]; rfl
                  rw [this] at q
                  exact q _ s1
                · refine (e ?_).elim
                  rw [decide_eq_false (show ¬ V.int ((zs.length : Nat) : Int) = V.int ((ys.length : Nat) : Int) from fun z => hle (by have := V.int.inj z; omega))]; rfl
    · refine ite2 (fun _ => iteT ?_) (fun e => ?_)
      · rw [stateD_no hlen] at q
        exact q _ (Same.refl _)
      · refine (e ?_).elim
        rw [decide_eq_false (show ¬ V.int ((xs.length : Nat) : Int) = V.int 2 from fun z => hlen (by have := V.int.inj z; omega))]; rfl
end
end Af
namespace Af
open PySem PySem.Spec PyProof.Rows L2
section
variable {P : Program} {w : World} {K : PySem.W.Frag} {mg : Str → Option Value} {base : Heap}
/-- what the law holds in its list -/
def GoodV (K : PySem.W.Frag) (H : Hp) (v : V) : Prop := ∃ d, Dp K H v d ∧ Pl (10 ^ 30 + 2) d ∧ d.depth ≤ 20 ∧ d.bulk ≤ 100000
theorem GoodV.up {H H' : Hp} {v : V} (h : GoodV K H v) (s : Same H H') : GoodV K H' v := by
  obtain ⟨d, h1, h2⟩ := h
  exact ⟨d, dp_up h1 s, h2⟩
theorem good_lit {H : Hp} {v : V} {d : PyData} (h : Dp K H v d) (h1 : plB d = true) (h2 : d.depth ≤ 20) (h3 : d.bulk ≤ 100000) : GoodV K H v := ⟨d, h, (pl_of h1).mono (by decide), h2, h3⟩
theorem mix_bx {G H H' : Hp} {bx : Addr} (g : Same G (hid H bx)) (s : Same (hid H bx) (hid H' bx)) (hb : H bx ≠ none) : Same (mix G H H') (hid H' bx) := fun a o e => by
  cases hx : H a with
  | none =>
    rw [mix_new hx] at e
    have na : a ≠ bx := fun z => hb (by rw [← z]; exact hx)
    rw [hid_ne na]; exact e
  | some y =>
    rw [mix_old (by rw [hx]; exact fun z => nomatch z)] at e
    exact s _ _ (g _ _ e)
theorem mix_no {G H H' : Hp} {D : Addr} (gD : G D = none) (hD : H D ≠ none) : mix G H H' D = none := by rw [mix_old hD]; exact gD
theorem mix_hid {G H H' : Hp} {bx D : Addr} (g : Same G (hid H bx)) (s : Same (hid H bx) (hid H' bx)) (hb : H bx ≠ none) (gD : G D = none) (hD : H D ≠ none) : Same (mix G H H') (hid (hid H' bx) D) := fun a o e => by
  have na : a ≠ D := fun z => by rw [z, mix_no gD hD] at e; cases e
  rw [hid_ne na]; exact mix_bx g s hb _ _ e
/-! _law_right -/
def rListOf (K : PySem.W.Frag) : List V → Hp → VK → Prop := fun xs H Q => ∃ p ys, xs = [.ref p] ∧ (SqL K H p ys ∨ SqT K H p ys) ∧ ∀ l, H l = none → Q (.ref l) (upd H l (.lst ys))
def spRight : Sp := fun vs H Q _ => ∃ (bx : Addr) (m : Nat), vs = [.ref bx] ∧ Box H bx m ∧ m ≤ 200000000 ∧ ∀ H', Box H' bx (m + 1000000) → Same (hid H bx) (hid H' bx) → Q (.bl true) H'
set_option maxHeartbeats 3200000 in
theorem ok_right {f fB fR fi fO fA fC fT fI fJ fD fE fs : Addr} {fd fdB fdR fdi fdO fdA fdC fdT fdI fdJ fdD fdE fds : FuncData} {k : Nat} (T : Bl mg) (F : Fun K "_law_right" "_law_right" sLawRight f fd)
    (DB : Df K mg "_law_random_book" sLawRandomBook ["_law_box_here", "_law_most", "_law_high"] fB fdB) (GB : FnOk P w K mg base CX0 k fB fdB ["_law_box_here", "_law_most", "_law_high"] (spRBook K))
    (DR : Df K mg "_law_random_state" sLawRandomState ["_law_box_here", "_law_shelf"] fR fdR) (GR : FnOk P w K mg base CX0 k fR fdR ["_law_box_here", "_law_shelf"] (spRState K))
    (Di : Df K mg "_law_lists" sLawLists ["_law_matter"] fi fdi) (Gi : FnOk P w K mg base CX0 10 fi fdi ["_law_matter"] (spLists K 10))
    (DO : Df K mg "_law_of" sLawOf ["_law_box_here", "_law_some"] fO fdO) (GO : FnOk P w K mg base CX0 k fO fdO ["_law_box_here", "_law_some"] spOf)
    (DA : Df K mg "_law_anything" sLawAnything ["_law_box_here"] fA fdA) (GA : FnOk P w K mg base CX0 k fA fdA ["_law_box_here"] (spAny K))
    (DC : Df K mg "_law_changed" sLawChanged ["_law_box_here", "_law_matter"] fC fdC) (GC1 : FnOk P w K mg base CX0 k fC fdC ["_law_box_here", "_law_matter"] (spChanged K (10 ^ 30) 10)) (GC2 : FnOk P w K mg base CX0 k fC fdC ["_law_box_here", "_law_matter"] (spChanged K (10 ^ 30 + 1) 10))
    (DT : Df K mg "_law_take" sLawTake ["_law_box_here", "_law_span"] fT fdT) (GT : FnOk P w K mg base CX0 k fT fdT ["_law_box_here", "_law_span"] spTake)
    (DI : Df K mg "is_standing" sIsStanding ["book", "value"] fI fdI) (GI : FnOk P w K mg base CX0 k fI fdI ["book", "value"] (spStand K)) (bI : KBinds K fdI ["book", "value"] ["value", "book"] gR gVR)
    (DJ : Df K mg "is_state" sIsState ["book", "value"] fJ fdJ) (GJ : FnOk P w K mg base CX0 k fJ fdJ ["book", "value"] (spState K)) (bJ : KBinds K fdJ ["book", "value"] ["value", "book"] gR gVR)
    (DD : Df K mg "_law_stands" sLawStands ["_law_shelf", "_law_matter"] fD fdD) (GD : FnOk P w K mg base CX0 k fD fdD ["_law_shelf", "_law_matter"] (spStand K))
    (DE : Df K mg "_law_is_due" sLawIsDue ["_law_shelf", "_law_matter"] fE fdE) (GE : FnOk P w K mg base CX0 k fE fdE ["_law_shelf", "_law_matter"] (spState K))
    (Ds : Df K mg "_law_same" sLawSame ["_law_found", "_law_due"] fs fds) (Gs : FnOk P w K mg base CX0 10 fs fds ["_law_found", "_law_due"] (spSame K 10)) (hk : 10 ≤ k) :
    FnG P w K mg base (k + 1) f fd ["_law_box_here"] spRight := by
  refine fun_okG F scLawRight (fun vs H Q E h => ?_) (fun cdv A outer s H vs Q E hG hr h => ?_)
  · obtain ⟨_, _, rfl, _⟩ := h; rfl
  obtain ⟨bx, m, rfl, hbox, hm, q⟩ := h
  have nd := scLawRight.nd
  have hr10 := hr.mono hk
  have hu70 : (A.deeper (envOfC "_law_right" (defScope sLawRight) s.heap.objs.size f cdv)).units + 70 < cLine := by have := hr.un; omega
  refine ⟨_, pss_cons (ps_set (i := 1) nd rfl (.inl rfl) (pe_do DB GB hr rfl (pa_cons (pv 0) (pa_cons pe_int (pa_cons pe_int pa_nil)))))
    (pss_cons (ps_par (i := 2) (j := 3) (by rfl) nd rfl rfl (by decide) rfl rfl (pa_cons (pe_do DR GR hr rfl (pa_cons (pv 0) (pa_cons (pv 1) pa_nil))) (pa_cons (pe_do Di Gi hr10 rfl (pa_cons (pv 1) pa_nil)) pa_nil)) (by rfl))
    (pss_cons (ps_set (i := 4) nd rfl (.inl rfl) (pe_lst (pa_cons (pv 2) (pa_cons (pe_ix ix_tup (pv 2) pe_int (fun _ _ => rfl)) (pa_cons (pe_ix ix_tup (pv 2) pe_int (fun _ _ => rfl)) (pa_cons (pe_callTy call_list_of rfl T.list bList (pa_cons (pv 2) pa_nil)) (pa_cons (pe_callTy call_list_of rfl T.list bList (pa_cons (pe_ix ix_tup (pv 2) pe_int (fun _ _ => rfl)) pa_nil)) (pa_cons (pe_tup (pa_cons (pe_ix ix_tup (pv 2) pe_int (fun _ _ => rfl)) (pa_cons (pe_callTy call_list_of rfl T.list bList (pa_cons (pe_ix ix_tup (pv 2) pe_int (fun _ _ => rfl)) pa_nil)) pa_nil))) (pa_cons (pn_tup pn_nil) pa_nil)))))))))
    (pss_cons (ps_set (i := 4) nd rfl (.inl rfl) (pe_op op_cat (pv 4) (pe_lst (pa_cons (pe_op op_catA (pe_ix ix_tup (pv 2) pe_int (fun _ _ => rfl)) (pn_tup (pn_cons pn_int pn_nil))) (pa_cons (pe_op op_catA (pv 2) (pn_tup (pn_cons (pn_tup pn_nil) pn_nil))) pa_nil)))))
    (pss_cons (ps_set (i := 4) nd rfl (.inl rfl) (pe_op op_cat (pv 4) (pe_lc (own := [("_law_turn", 5)]) (g := gName 5) (tt := tYes) rfl nd (pi_range1 rfl T.range (pa_cons pe_int pa_nil)) (blkOk_by (N := ["_law_box_here", "_law_shelf", "_law_spot", "_law_listed", "_law_some", "_law_turn", "_law_bent", "_law_matter", "_law_kept", "_law_due", "_law_told"]) (sc := defScope sLawRight) (by decide +kernel)) (fun _ _ _ _ _ => pg_name (i := 5) nd rfl (.inl rfl)) (fun _ _ _ _ _ => pts_nil) (fun _ _ _ _ _ => pe_do DA GA hr rfl (pa_cons (pv 0) pa_nil)))))
    (pss_cons (ps_for PassesOwn.never rfl (pi_range1 rfl T.range (pa_cons pe_int pa_nil)) (pg_name (i := 5) nd rfl (.inl rfl))
      (pss_cons (ps_set (i := 6) nd rfl (.inl rfl) (pe_do DC GC1 hr rfl (pa_cons (pv 0) (pa_cons (pe_do DO GO hr rfl (pa_cons (pv 0) (pa_cons (pe_lst (pa_cons (pv 2) (pa_cons (pv 2) (pa_cons (pe_ix ix_tup (pv 2) pe_int (fun _ _ => rfl)) pa_nil)))) pa_nil))) pa_nil))))
      (pss_one (ps_expr (pe_bm PySem.F.plainAttrs_list PySem.F.slot_list_append PySem.F.type_list_append mt_append (pv 4) (pa_cons (pe_ifExp (pt_cmpR op_eq (pe_do DT GT hr rfl (pa_cons (pv 0) (pa_cons pe_int pa_nil))) pe_int (nomark _)) (pe_do DC GC2 hr rfl (pa_cons (pv 0) (pa_cons (pv 6) pa_nil))) (pv 6)) pa_nil))))))
    (pss_cons (ps_for PassesOwn.never rfl (pi_list (pv 4)) (pg_name (i := 7) nd rfl (.inl rfl))
      (pss_cons (ps_par (i := 8) (j := 9) (by rfl) nd rfl rfl (by decide) rfl rfl (pa_cons (pe_callB (call_reprV hG hu70) rfl T.repr bRepr (pa_cons (pv 7) pa_nil)) (pa_cons (pe_lst (pa_cons (pe_do DD GD hr rfl (pa_cons (pv 1) (pa_cons (pv 7) pa_nil))) (pa_cons (pe_do DE GE hr rfl (pa_cons (pv 1) (pa_cons (pv 7) pa_nil))) pa_nil))) pa_nil)) (by rfl))
      (pss_cons (ps_set (i := 10) nd rfl (.inl rfl) (pe_lst (pa_cons (pe_lst (pa_cons (pe_do DI GI hr rfl (pa_cons (pv 1) (pa_cons (pv 7) pa_nil))) (pa_cons (pe_do DJ GJ hr rfl (pa_cons (pv 1) (pa_cons (pv 7) pa_nil))) pa_nil))) pa_nil)))
      (pss_cons (ps_expr (pe_bm PySem.F.plainAttrs_list PySem.F.slot_list_append PySem.F.type_list_append mt_append (pv 10) (pa_cons (pe_lst (pa_cons (pe_kw DI GI hr rfl bI (pk_cons (pv 7) (pk_cons (pv 3) pk_nil))) (pa_cons (pe_kw DJ GJ hr rfl bJ (pk_cons (pv 7) (pk_cons (pv 3) pk_nil))) pa_nil))) pa_nil)))
      (pss_one (ps_if (PW.pt (pw_or (pt_not (pt_val (pe_do Ds Gs hr10 rfl (pa_cons (pv 10) (pa_cons (pe_lst (pa_cons (pv 9) (pa_cons (pv 9) pa_nil))) pa_nil)))))
          (pw_or1 (pt_cmpR op_ne (pe_callB (call_reprV hG hu70) rfl T.repr bRepr (pa_cons (pv 7) pa_nil)) (pv 8) (nomark _))))) pss_never pss_nil))))))
    (pss_one (ps_ret pe_bl)))))))), ?_⟩
  refine ⟨_, rfl, bx, 5, 4, m, rfl, hbox, by omega, by decide, by decide, by decide, by decide, fun sp H1 B hGB hBl hB1 hBox1 s1 hbk => ?_⟩
  refine ⟨_, rfl, _, rfl, bx, _, B, 4, m + 20000, rfl, hBox1, by omega, hbk, hGB, by decide, by omega, fun st H2 R Fc hS hFl hF hB2 s2 hst => ?_⟩
  have hbk2 := dp_up hbk s2
  have hzb : Sz (bookT B) := sz_book hGB (by decide) (by decide) (by omega)
  refine ⟨_, rfl, _, bookT B, rfl, dp_up hbk2 hid_le, hzb.dep, hzb.blk, fun lb H3 s3 hlb => ?_⟩
  rw [lsD_book] at hlb
  refine ⟨_, _, rfl, ?_⟩
  have hRl := hS.len
  have hRm : ∀ x ∈ R, x.natAbs ≤ 10 ^ 30 := fun x hx => by have := stands_mem hGB hS x hx; omega
  have hFm : ∀ x ∈ Fc, x.natAbs ≤ 10 ^ 30 := fun x hx => by rcases hF x hx with rfl | rfl <;> decide
  have plT : ∀ {ns : List Int}, (∀ x ∈ ns, x.natAbs ≤ 10 ^ 30) → Pl (10 ^ 30) (rowT ns) := fun h => .tup _ fun d hd => by
    obtain ⟨x, hx, rfl⟩ := List.mem_map.mp hd
    exact .int x (h x hx)
  have plL : ∀ {ns : List Int}, (∀ x ∈ ns, x.natAbs ≤ 10 ^ 30) → Pl (10 ^ 30) (rowL ns) := fun h => .lst _ fun d hd => by
    obtain ⟨x, hx, rfl⟩ := List.mem_map.mp hd
    exact .int x (h x hx)
  have plS : Pl (10 ^ 30) (stateT R Fc) := .tup _ fun d hd => by
    simp only [List.mem_cons, List.mem_nil_iff, or_false] at hd
    rcases hd with rfl | rfl
    · exact plT hRm
    · exact plT hFm
  have szS : (stateT R Fc).depth ≤ 2 ∧ (stateT R Fc).bulk ≤ 20 := ⟨by simp only [stateT, PyData.depth, PyData.depthAll, depth_row]; omega, by simp only [stateT, PyData.bulk, PyData.bulkAll, bulk_row]; omega⟩
  obtain ⟨a0, ra, fa, ea, hq, hra, hfa⟩ := state_tup hst
  cases ea
  have hb2 := box_here hB2
  have X : ∀ {Hx : Hp}, Same H2 Hx → SqT K Hx st [.ref ra, .ref fa] := fun c => sqt_mono (hid_le.trans c) hq
  have XR : ∀ {Hx : Hp}, Same H2 Hx → SqT K Hx ra (R.map V.int) := fun c => sqt_mono (hid_le.trans c) hra
  have XF : ∀ {Hx : Hp}, Same H2 Hx → SqT K Hx fa (Fc.map V.int) := fun c => sqt_mono (hid_le.trans c) hfa
  have nb : ∀ {Hx : Hp} {p : Addr}, Same H2 Hx → Hx p = none → p ≠ bx := fun {Hx p} c e z => hb2 (c.free (z ▸ e))
  refine ⟨_, rfl, _, rfl, st, _, 0, _, rfl, rfl, X s3, atI_nat (j := 0) rfl, _, rfl, st, _, 1, _, rfl, rfl, X s3, atI_nat (j := 1) rfl, _, rfl, st, _, rfl, .inr (X s3), fun l1 nl1 => ?_⟩
  have k1 := same_new (o := .lst [.ref ra, .ref fa]) nl1
  have c4 := s3.trans k1
  refine ⟨_, rfl, st, _, 0, _, rfl, rfl, X c4, atI_nat (j := 0) rfl, ra, _, rfl, .inr (XR c4), fun l2 nl2 => ?_⟩
  have k2 := same_new (o := .lst (R.map V.int)) nl2
  have c5 := c4.trans k2
  refine ⟨_, rfl, st, _, 0, _, rfl, rfl, X c5, atI_nat (j := 0) rfl, _, rfl, st, _, 1, _, rfl, rfl, X c5, atI_nat (j := 1) rfl, fa, _, rfl, .inr (XF c5), fun l3 nl3 => ?_⟩
  have k3 := same_new (o := .lst (Fc.map V.int)) nl3
  have c6 := c5.trans k3
  refine ⟨by show 2 ≤ sizeLine; decide, fun t1 nt1 => ?_⟩
  have k4 := same_new (o := .tup [.ref ra, .ref l3]) nt1
  have c7 := c6.trans k4
  refine fun v7 H8 s8 h8 => ⟨by show 7 ≤ sizeLine; decide, fun L1 nL1 => ?_⟩
  have c8 := c7.trans s8
  have b7 := fun e => hb2 (c7.free e)
  have dR : Dp K (hid H8 bx) (.ref ra) (rowT R) := .tup (sqt_mono (hid_mono c8) hra) (dps_ints R)
  have dF : Dp K (hid H8 bx) (.ref fa) (rowT Fc) := .tup (sqt_mono (hid_mono c8) hfa) (dps_ints Fc)
  have dS8 := dp_up hst (hid_mono c8)
  have at8 : ∀ {p : Addr} {o : HO}, p ≠ bx → H8 p = some o → (hid H8 bx) p = some o := fun n e => by rw [hid_ne n]; exact e
  have dl3 : Dp K (hid H8 bx) (.ref l3) (rowL Fc) := .lst (SqL.of (at8 (nb c5 nl3) ((k4.trans s8) _ _ upd_same))) (dps_ints Fc)
  have good8 : ∀ v ∈ [V.ref st, .ref ra, .ref fa, .ref l1, .ref l2, .ref t1, v7], GoodV K (hid H8 bx) v := by
    intro v hv
    simp only [List.mem_cons, List.mem_nil_iff, or_false] at hv
    rcases hv with rfl | rfl | rfl | rfl | rfl | rfl | rfl
    · exact ⟨_, dS8, plS.mono (by decide), by omega, by omega⟩
    · exact ⟨_, dR, (plT hRm).mono (by decide), by rw [depth_row]; decide, by rw [bulk_row]; omega⟩
    · exact ⟨_, dF, (plT hFm).mono (by decide), by rw [depth_row]; decide, by rw [bulk_row]; omega⟩
    · refine ⟨.list [rowT R, rowT Fc], .lst (SqL.of (at8 (nb s3 nl1) ((k2.trans (k3.trans (k4.trans s8))) _ _ upd_same))) (.cons dR (.cons dF .nil)), Pl.mono (M := 10 ^ 30) (by decide) (.lst _ fun d hd => ?_), ?_, ?_⟩
      · simp only [List.mem_cons, List.mem_nil_iff, or_false] at hd
        rcases hd with rfl | rfl
        · exact plT hRm
        · exact plT hFm
      · simp only [PyData.depth, PyData.depthAll, depth_row]; omega
      · simp only [PyData.bulk, PyData.bulkAll, bulk_row]; omega
    · exact ⟨rowL R, .lst (SqL.of (at8 (nb c4 nl2) ((k3.trans (k4.trans s8)) _ _ upd_same))) (dps_ints R), (plL hRm).mono (by decide), by rw [depth_rowL]; decide, by rw [bulk_rowL]; omega⟩
    · refine ⟨.tuple [rowT R, rowL Fc], .tup (.inl (.inl (at8 (nb c6 nt1) (s8 _ _ upd_same)))) (.cons dR (.cons dl3 .nil)), Pl.mono (M := 10 ^ 30) (by decide) (.tup _ fun d hd => ?_), ?_, ?_⟩
      · simp only [List.mem_cons, List.mem_nil_iff, or_false] at hd
        rcases hd with rfl | rfl
        · exact plT hRm
        · exact plL hFm
      · simp only [PyData.depth, PyData.depthAll, depth_row, depth_rowL]; omega
      · simp only [PyData.bulk, PyData.bulkAll, bulk_row, bulk_rowL]; omega
    · exact good_lit (h8.hid b7) (by decide +kernel) (by decide +kernel) (by decide +kernel)
  have k9 := same_new (o := .lst [.ref st, .ref ra, .ref fa, .ref l1, .ref l2, .ref t1, v7]) nL1
  have c9 := c8.trans k9
  -- some + [spot[0] + (1,), spot + ((),)]
  refine ⟨_, rfl, _, rfl, st, _, 0, _, rfl, rfl, X c9, atI_nat (j := 0) rfl, fun w1 H10 s10 h10 => ?_⟩
  have h10' : NewD K (upd H8 L1 (.lst [.ref st, .ref ra, .ref fa, .ref l1, .ref l2, .ref t1, v7])) H10 w1 (.tuple [.int 1]) := h10
  obtain ⟨b1, zs1, rfl, g1, g1'⟩ : ∃ b zs, w1 = .ref b ∧ SqT K (fresh (upd H8 L1 (.lst [.ref st, .ref ra, .ref fa, .ref l1, .ref l2, .ref t1, v7])) H10) b zs ∧ DpAll K (fresh (upd H8 L1 (.lst [.ref st, .ref ra, .ref fa, .ref l1, .ref l2, .ref t1, v7])) H10) zs [.int 1] := by
    cases h10' with | tup a b => exact ⟨_, _, rfl, a, b⟩
  have zl1 := dps_len g1'
  have c10 := c9.trans s10
  have b9 := fun e => hb2 (c9.free e)
  have hRne : R.map V.int ≠ [] := fun e => by
    have h := congrArg List.length e
    rw [List.length_map] at h
    have h2 : R.length = 0 := h
    omega
  refine ⟨ra, b1, R.map V.int, zs1, rfl, rfl, XR c10, sqt_mono fresh_le g1, by rw [List.length_map, zl1]; exact Nat.le_of_lt (small1000 (by show R.length + 1 ≤ 1000; omega)), fun e => absurd e hRne, (fun _ e => by rw [e] at zl1; cases zl1), fun _ _ p1 np1 => ?_⟩
  have k11 := same_new (o := .tup (R.map V.int ++ zs1)) np1
  have c11 := c10.trans k11
  have b11 := fun e => hb2 (c11.free e)
  refine ⟨_, rfl, fun w2 H12 s12 h12 => ?_⟩
  have h12' : NewD K (upd H10 p1 (.tup (R.map V.int ++ zs1))) H12 w2 (.tuple [.tuple []]) := h12
  obtain ⟨b2, zs2, rfl, g2, g2'⟩ : ∃ b zs, w2 = .ref b ∧ SqT K (fresh (upd H10 p1 (.tup (R.map V.int ++ zs1))) H12) b zs ∧ DpAll K (fresh (upd H10 p1 (.tup (R.map V.int ++ zs1))) H12) zs [.tuple []] := by
    cases h12' with | tup a b => exact ⟨_, _, rfl, a, b⟩
  have zl2 := dps_len g2'
  have c12 := c11.trans s12
  refine ⟨st, b2, [.ref ra, .ref fa], zs2, rfl, rfl, X c12, sqt_mono fresh_le g2, by rw [zl2]; show 2 + 1 ≤ sizeLine; decide, (fun e => nomatch e), (fun _ e => by rw [e] at zl2; cases zl2), fun _ _ p2 np2 => ?_⟩
  have k13 := same_new (o := .tup ([.ref ra, .ref fa] ++ zs2)) np2
  have c13 := c12.trans k13
  refine ⟨by show 2 ≤ sizeLine; decide, fun L2 nL2 => ?_⟩
  have k14 := same_new (o := .lst [.ref p1, .ref p2]) nL2
  have c14 := c13.trans k14
  have eL1 : (upd (upd H12 p2 (.tup ([.ref ra, .ref fa] ++ zs2))) L2 (.lst [.ref p1, .ref p2])) L1 = some (.lst [.ref st, .ref ra, .ref fa, .ref l1, .ref l2, .ref t1, v7]) := (s10.trans (k11.trans (s12.trans (k13.trans k14)))) _ _ upd_same
  refine ⟨L1, L2, _, _, rfl, rfl, eL1, upd_same, by show 7 + 2 ≤ sizeLine; decide, fun l3' nl3' => ?_⟩
  have k15 := same_new (o := .lst ([V.ref st, .ref ra, .ref fa, .ref l1, .ref l2, .ref t1, v7] ++ [V.ref p1, V.ref p2])) nl3'
  have c15 := c14.trans k15
  have good15 : ∀ v ∈ [V.ref st, .ref ra, .ref fa, .ref l1, .ref l2, .ref t1, v7] ++ [V.ref p1, V.ref p2], GoodV K (hid (upd (upd (upd H12 p2 (.tup ([.ref ra, .ref fa] ++ zs2))) L2 (.lst [.ref p1, .ref p2])) l3' (.lst ([V.ref st, .ref ra, .ref fa, .ref l1, .ref l2, .ref t1, v7] ++ [V.ref p1, V.ref p2]))) bx) v := by
    intro v hv
    have t8 := k9.trans (s10.trans (k11.trans (s12.trans (k13.trans (k14.trans k15)))))
    rcases List.mem_append.mp hv with hv | hv
    · exact (good8 v hv).up (hid_mono t8)
    · simp only [List.mem_cons, List.mem_nil_iff, or_false] at hv
      rcases hv with rfl | rfl
      · refine ⟨.tuple (R.map PyData.int ++ [.int 1]), .tup (.inl (.inl (by rw [hid_ne (nb c10 np1)]; exact (s12.trans (k13.trans (k14.trans k15))) _ _ upd_same))) (dps_app (dps_ints R) (dps_up (dps_up g1' (fresh_hid b9)) (hid_mono (k11.trans (s12.trans (k13.trans (k14.trans k15))))))), Pl.mono (M := 10 ^ 30) (by decide) (.tup _ fun d hd => ?_), ?_, ?_⟩
        · rcases List.mem_append.mp hd with hd | hd
          · obtain ⟨x, hx, rfl⟩ := List.mem_map.mp hd
            exact .int x (hRm x hx)
          · obtain rfl : d = .int 1 := by simpa using hd
            exact .int 1 (by decide)
        · have : PyData.depthAll (R.map PyData.int ++ [.int 1]) ≤ 0 := depth_all fun d hd => by
            rcases List.mem_append.mp hd with hd | hd
            · obtain ⟨x, hx, rfl⟩ := List.mem_map.mp hd
              simp [PyData.depth]
            · obtain rfl : d = .int 1 := by simpa using hd
              simp [PyData.depth]
          simp only [PyData.depth]; omega
        · simp only [PyData.bulk, bulk_app, bulk_ints, PyData.bulkAll]; omega
      · have c := hid_mono (b := bx) (s10.trans (k11.trans (s12.trans (k13.trans (k14.trans k15)))))
        refine ⟨.tuple [rowT R, rowT Fc, .tuple []], .tup (.inl (.inl (by rw [hid_ne (nb c12 np2)]; exact (k14.trans k15) _ _ upd_same))) (dps_app (.cons (.tup (sqt_mono (hid_mono c15) hra) (dps_ints R)) (.cons (.tup (sqt_mono (hid_mono c15) hfa) (dps_ints Fc)) .nil)) (dps_up (dps_up g2' (fresh_hid b11)) (hid_mono (k13.trans (k14.trans k15))))), Pl.mono (M := 10 ^ 30) (by decide) (.tup _ fun d hd => ?_), ?_, ?_⟩
        · simp only [List.mem_cons, List.mem_nil_iff, or_false] at hd
          rcases hd with rfl | rfl | rfl
          · exact plT hRm
          · exact plT hFm
          · exact .tup _ fun d hd => by cases hd
        · simp only [PyData.depth, PyData.depthAll, depth_row]; omega
        · simp only [PyData.bulk, PyData.bulkAll, bulk_row]; omega
  have e9 : (upd (upd (upd H12 p2 (.tup ([.ref ra, .ref fa] ++ zs2))) L2 (.lst [.ref p1, .ref p2])) l3' (.lst ([V.ref st, .ref ra, .ref fa, .ref l1, .ref l2, .ref t1, v7] ++ [V.ref p1, V.ref p2]))) l3' = some (.lst ([V.ref st, .ref ra, .ref fa, .ref l1, .ref l2, .ref t1, v7] ++ [V.ref p1, V.ref p2])) := upd_same
  have L9 : ([V.ref st, .ref ra, .ref fa, .ref l1, .ref l2, .ref t1, v7] ++ [V.ref p1, V.ref p2]).length = 9 := rfl
  have hB9 : Box (upd (upd (upd H12 p2 (.tup ([.ref ra, .ref fa] ++ zs2))) L2 (.lst [.ref p1, .ref p2])) l3' (.lst ([V.ref st, .ref ra, .ref fa, .ref l1, .ref l2, .ref t1, v7] ++ [V.ref p1, V.ref p2]))) bx (m + 20100) := (hB2.up c15).le (by omega)
  have nl3b : l3' ≠ bx := nb c14 nl3'
  have hbk9 := dp_up hbk2 (hid_mono c15)
  have hst9 := dp_up hst (hid_mono c15)
  have hlb9 := hlb.up (k1.trans (k2.trans (k3.trans (k4.trans (s8.trans (k9.trans (s10.trans (k11.trans (s12.trans (k13.trans (k14.trans k15)))))))))))
  have s19 : Same (hid H bx) (hid (upd (upd (upd H12 p2 (.tup ([.ref ra, .ref fa] ++ zs2))) L2 (.lst [.ref p1, .ref p2])) l3' (.lst ([V.ref st, .ref ra, .ref fa, .ref l1, .ref l2, .ref t1, v7] ++ [V.ref p1, V.ref p2]))) bx) := s1.trans (s2.trans (hid_mono c15))
  generalize upd (upd (upd H12 p2 (.tup ([.ref ra, .ref fa] ++ zs2))) L2 (.lst [.ref p1, .ref p2])) l3' (.lst ([V.ref st, .ref ra, .ref fa, .ref l1, .ref l2, .ref t1, v7] ++ [V.ref p1, V.ref p2])) = H9 at good15 e9 hB9 hbk9 hst9 hlb9 s19
  generalize [V.ref st, .ref ra, .ref fa, .ref l1, .ref l2, .ref t1, v7] ++ [V.ref p1, V.ref p2] = us at good15 L9 e9
  have good9 := good15
  -- some + [anything ..]
  refine ⟨_, rfl, 6, rfl, by decide, by decide, fun D2 nD2 => ?_⟩
  have nD2b : D2 ≠ bx := fun e => box_here hB9 (e ▸ nD2)
  have kD2 := same_new (o := .lst []) nD2
  refine lc_range (lo := 0) (n := 6) (fun j Hj => ∃ vs, Hj D2 = some (.lst vs) ∧ vs.length = j ∧ (∀ v ∈ vs, GoodV K (hid (hid Hj bx) D2) v) ∧ Box Hj bx (m + 20100 + j) ∧ Same (hid H9 bx) (hid Hj bx)) ⟨[], upd_same, rfl, (fun v hv => by cases hv), hB9.new nD2, hid_mono kD2⟩ (fun j Hj hj hP => ?_) (fun Hj hP => ?_)
  · obtain ⟨vs, e1, e2, e3, e4, e5⟩ := hP
    refine ⟨rfl, yesT ?_⟩
    refine ⟨_, rfl, bx, m + 20100 + j, rfl, e4, by omega, fun v d H' hmem' hB' s' hnew => ?_⟩
    have z := any_sz d hmem'
    have e1' : H' D2 = some (.lst vs) := by
      have := s' D2 _ (by rw [hid_ne nD2b]; exact e1)
      rwa [hid_ne nD2b] at this
    have ee : hid (hid (upd H' D2 (.lst (vs ++ [v]))) bx) D2 = hid (hid H' bx) D2 := by rw [hid_new nD2b, hid_upd]
    refine ⟨vs, e1', by rw [e2]; exact small1000 (by omega), vs ++ [v], upd_same, by rw [List.length_append, e2]; rfl, fun u hu => ?_, ?_, ?_⟩
    · rw [ee]
      rcases List.mem_append.mp hu with hu | hu
      · exact (e3 u hu).up (hid_mono s')
      · obtain rfl : u = v := by simpa using hu
        refine ⟨d, dp_up hnew fun a o e => ?_, (pl_ofs any_pl d hmem').mono (by decide), by omega, by omega⟩
        obtain ⟨h1, h2⟩ := fresh_inv e
        have na : a ≠ bx := fun z => box_here e4 (z ▸ h1)
        have na2 : a ≠ D2 := fun z => by rw [z, e1] at h1; cases h1
        rw [hid_ne na2, hid_ne na]; exact h2
    · obtain ⟨y1, y2, y3, w1, w2⟩ := hB'
      exact ⟨y1, y2, y3, by rw [upd_ne nD2b.symm]; exact w1, w2⟩
    · intro c o ec
      obtain ⟨n1, n2⟩ := hid_some ec
      have nc : c ≠ D2 := ne_of_none n2 nD2
      have := (e5.trans s') _ _ ec
      rw [hid_ne n1] at this ⊢
      rw [upd_ne nc]; exact this
  obtain ⟨ws, e1, e2, e3, e4, e5⟩ := hP
  have e9j : Hj l3' = some (.lst us) := by
    have := e5 l3' _ (by rw [hid_ne nl3b]; exact e9)
    rwa [hid_ne nl3b] at this
  refine ⟨l3', D2, us, ws, rfl, rfl, e9j, e1, by rw [L9, e2]; show 9 + 6 ≤ sizeLine; decide, fun D3 nD3 => ?_⟩
  have nD3b : D3 ≠ bx := fun e => box_here e4 (e ▸ nD3)
  have kD3 := same_new (o := .lst (us ++ ws)) nD3
  have goodj : ∀ v ∈ us ++ ws, GoodV K (hid Hj bx) v := fun v hv => by
    rcases List.mem_append.mp hv with hv | hv
    · exact (good9 v hv).up e5
    · exact (e3 v hv).up hid_le
  have hbkj := dp_up hbk9 e5
  have hstj := dp_up hst9 e5
  have hidD : Same (hid Hj bx) (hid (hid (upd Hj D3 (.lst (us ++ ws))) bx) D3) := fun c o ec => by
    obtain ⟨n1, n2⟩ := hid_some ec
    have nc : c ≠ D3 := ne_of_none n2 nD3
    rw [hid_ne nc, hid_ne n1, upd_ne nc]; exact n2
  have gD3 : (hid Hj bx) D3 = none := by rw [hid_ne nD3b]; exact nD3
  -- bent
  refine ⟨12, rfl, by decide, by decide, ?_⟩
  refine for_range (lo := 0) (n := 12) (fun i σ H3 => ∃ (y5 y6 : Option V) (vs : List V), σ = [some (.ref bx), some (.ref sp), some (.ref st), some lb, some (.ref D3), y5, y6, none, none, none, none] ∧ H3 D3 = some (.lst vs) ∧ vs.length = 15 + i ∧ (∀ v ∈ vs, GoodV K (hid (hid H3 bx) D3) v) ∧ Box H3 bx (m + 21000 + 300 * i) ∧ Same (hid Hj bx) (hid H3 bx))
    ⟨none, none, us ++ ws, rfl, upd_same, by rw [List.length_append, L9, e2], fun v hv => (goodj v hv).up hidD, (e4.up kD3).le (by omega), hid_mono kD3⟩ (fun i σ H3 hi hP => ?_) (fun σ H3 hP => ?_)
  · obtain ⟨y5, y6, vs, rfl, f1, f2, f3, f4, f5⟩ := hP
    obtain ⟨a1, ra1, fa1, ea1, hq1, hra1, hfa1⟩ := state_tup hstj
    cases ea1
    refine ⟨_, rfl, _, rfl, _, rfl, _, rfl, _, rfl, st, _, 0, _, rfl, rfl, sqt_mono (f5.trans hid_le) hq1, atI_nat (j := 0) rfl, by show 3 ≤ sizeLine; decide, fun L4 nL4 => ?_⟩
    have kL := same_new (o := .lst [.ref st, .ref st, .ref ra1]) nL4
    have nL4b : L4 ≠ bx := fun e => box_here f4 (e ▸ nL4)
    refine ⟨bx, L4, _, m + 21000 + 300 * i, rfl, f4.up kL, by omega, upd_same, nL4b, by show 1 ≤ 3; decide, by show 3 ≤ 1000; decide, fun i' x H4 ex hB4 hh4 => ?_⟩
    have s34 : Same (hid H3 bx) (hid H4 bx) := by rw [hh4]; exact hid_mono kL
    obtain ⟨d0, dx, px, zx1, zx2⟩ : ∃ d0, Dp K (hid Hj bx) x d0 ∧ Pl (10 ^ 30) d0 ∧ d0.depth ≤ 2 ∧ d0.bulk ≤ 20 := by
      have hx := List.mem_of_getElem? ex
      simp only [List.mem_cons, List.mem_nil_iff, or_false] at hx
      rcases hx with rfl | rfl | rfl
      · exact ⟨_, hstj, plS, szS.1, szS.2⟩
      · exact ⟨_, hstj, plS, szS.1, szS.2⟩
      · exact ⟨rowT R, .tup hra1 (dps_ints R), plT hRm, by rw [depth_row]; decide, by rw [bulk_row]; omega⟩
    have h4D : H4 D3 = some (.lst vs) := by
      have := s34 D3 _ (by rw [hid_ne nD3b]; exact f1)
      rwa [hid_ne nD3b] at this
    have hD4n : H4 D3 ≠ none := by rw [h4D]; exact fun z => nomatch z
    have f54 := f5.trans s34
    have b4 := box_here hB4
    refine ⟨bx, x, d0, hid Hj bx, m + 21000 + 300 * i + 1, rfl, hB4, by omega, by decide, f54, dx, px, by omega, by omega, fun v' d' H5 p5 q5 r5 B5 s5 dp5 => ?_⟩
    have h5D : H5 D3 = some (.lst vs) := by
      have := s5 D3 _ (by rw [hid_ne nD3b]; exact h4D)
      rwa [hid_ne nD3b] at this
    have fin : ∀ {v : V} {H6 : Hp} {d : PyData}, Pl (10 ^ 30 + 2) d → d.depth ≤ 20 → d.bulk ≤ 100000 → Same (hid H3 bx) (hid H6 bx) → Dp K (hid (hid H6 bx) D3) v d → Box H6 bx (m + 21000 + 300 * (i + 1)) →
        ∃ l xs y, V.ref D3 = .ref l ∧ [v] = [y] ∧ H6 l = some (.lst xs) ∧ xs.length < sizeLine ∧ ∃ (y5 y6 : Option V) (vs : List V), [some (V.ref bx), some (.ref sp), some (.ref st), some lb, some (.ref D3), some (.int (0 + (i : Int))), some v', none, none, none, none] = [some (.ref bx), some (.ref sp), some (.ref st), some lb, some (.ref D3), y5, y6, none, none, none, none] ∧ (upd H6 l (.lst (xs ++ [y]))) D3 = some (.lst vs) ∧ vs.length = 15 + (i + 1) ∧ (∀ v ∈ vs, GoodV K (hid (hid (upd H6 l (.lst (xs ++ [y]))) bx) D3) v) ∧ Box (upd H6 l (.lst (xs ++ [y]))) bx (m + 21000 + 300 * (i + 1)) ∧ Same (hid Hj bx) (hid (upd H6 l (.lst (xs ++ [y]))) bx) := by
      intro v H6 d g1 g2 g3 g4 g5 g6
      have h6D : H6 D3 = some (.lst vs) := by
        have := g4 D3 _ (by rw [hid_ne nD3b]; exact f1)
        rwa [hid_ne nD3b] at this
      have ee : hid (hid (upd H6 D3 (.lst (vs ++ [v]))) bx) D3 = hid (hid H6 bx) D3 := by rw [hid_new nD3b, hid_upd]
      refine ⟨D3, vs, v, rfl, rfl, h6D, by rw [f2]; exact small1000 (by omega), _, _, vs ++ [v], rfl, upd_same, by rw [List.length_append, f2]; show 15 + i + 1 = _; omega, fun u hu => ?_, ?_, ?_⟩
      · rw [ee]
        rcases List.mem_append.mp hu with hu | hu
        · exact (f3 u hu).up (hid_mono g4)
        · obtain rfl : u = v := by simpa using hu
          exact ⟨d, g5, g1, g2, g3⟩
      · obtain ⟨w1, w2, w3, w4, w5⟩ := g6
        exact ⟨w1, w2, w3, by rw [upd_ne nD3b.symm]; exact w4, w5⟩
      · intro c o ec
        have nc : c ≠ D3 := fun z => by rw [z, gD3] at ec; cases ec
        obtain ⟨n1, n2⟩ := hid_some ec
        have := (f5.trans g4) _ _ ec
        rw [hid_ne n1] at this ⊢
        rw [upd_ne nc]; exact this
    refine ⟨_, rfl, .inl ⟨rfl, _, SqL.of h5D⟩, ?_⟩
    refine ⟨_, rfl, bx, 3, m + 21000 + 300 * i + 1 + 10 * 10, rfl, B5, by omega, by decide, by decide, fun r H6 r0 r1 hB6 hh6 => ⟨rfl, _, rfl, ite2 (fun _ => ?_) (fun _ => ?_)⟩⟩
    · have g5 : Same (mix (hid Hj bx) H4 H5) (hid H6 bx) := by rw [hh6]; exact mix_bx f54 s5 b4
      have h6D : H6 D3 ≠ none := by rw [hid_eq hh6 nD3b, h5D]; exact fun z => nomatch z
      refine ⟨_, rfl, _, rfl, bx, v', d', mix (hid Hj bx) H4 H5, m + 21000 + 300 * i + 1 + 10 * 10 + 1, rfl, hB6, by omega, by decide, g5, dp5, p5, by omega, by omega, fun v6 d6 H7 p6 q6 r6 B6 s6 dp6 => ?_⟩
      have s56 : Same (hid H5 bx) (hid H7 bx) := by rw [← hh6]; exact s6
      exact fin (p6.mono (by decide)) (by omega) (by omega) (s34.trans (s5.trans s56)) (dp_up dp6 (mix_hid g5 s6 (box_here hB6) (mix_no gD3 hD4n) h6D)) (B6.le (by omega))
    · refine ⟨_, rfl, ?_⟩
      have s56 : Same (hid H5 bx) (hid H6 bx) := by rw [hh6]; exact Same.refl _
      exact fin (p5.mono (by decide)) (by omega) (by omega) (s34.trans (s5.trans s56)) (dp_up (dp_up dp5 (mix_hid f54 s5 b4 gD3 hD4n)) (hid_mono s56)) (hB6.le (by omega))
  · obtain ⟨y5, y6, vs, rfl, f1, f2, f3, f4, f5⟩ := hP
    have gd : ∀ v ∈ vs, GoodV K H3 v := fun v hv => (f3 v hv).up (hid_le.trans hid_le)
    have hlbj := dp_up (hlb9.hid hb2) (e5.trans f5)
    have hbk3 := dp_up hbkj f5
    refine ⟨_, rfl, D3, rfl, ⟨_, SqL.of f1⟩, ?_⟩
    refine for_list (xs := vs) (fun i σ H7 => ∃ (y7 y8 y9 y10 : Option V), σ = [some (.ref bx), some (.ref sp), some (.ref st), some lb, some (.ref D3), y5, y6, y7, y8, y9, y10] ∧ Same H3 H7) ⟨none, none, none, none, rfl, Same.refl _⟩ (fun i σ H7 _ ⟨_, _, _, _, _, sm⟩ => SqL.of (sm _ _ f1)) (fun i x σ H7 hx hP => ?_) (fun σ H7 hP => ?_)
    · obtain ⟨y7, y8, y9, y10, rfl, sm⟩ := hP
      obtain ⟨d, g1, g2, g3, g4⟩ := gd x (List.mem_of_getElem? hx)
      have hFt := g2.fit (by decide) (by omega) g4
      have G7 : ∀ {Hx : Hp}, Same H7 Hx → Dp K Hx x d := fun c => dp_up g1 (sm.trans c)
      have B7 : ∀ {Hx : Hp}, Same H7 Hx → Dp K Hx (.ref sp) (bookT B) := fun c => dp_up hbk3 (hid_le.trans (sm.trans c))
      have E7 : ∀ {Hx : Hp}, Same H7 Hx → Dp K Hx lb (bookL B) := fun c => dp_up hlbj (hid_le.trans (sm.trans c))
      refine ⟨_, rfl, x, d, rfl, G7 (Same.refl _), hFt.shw, hFt.nod, hFt.dep, hFt.len, ?_⟩
      refine ⟨_, rfl, _, rfl, .ref sp, x, bookT B, d, B, 4, rfl, B7 (Same.refl _), bookT_book B, hGB, by omega, G7 (Same.refl _), fun H8 s8 => ?_⟩
      refine ⟨_, rfl, _, rfl, .ref sp, x, bookT B, d, B, 4, rfl, B7 s8, bookT_book B, hGB, by omega, G7 s8, by omega, fun H9' s9 => ?_⟩
      have c9 := s8.trans s9
      refine ⟨by show 2 ≤ sizeLine; decide, fun u1 n1 => ?_⟩
      have j1 := same_new (o := .lst [.bl (standD B d), .bl (stateD B d)]) n1
      have d1 := c9.trans j1
      refine ⟨_, _, rfl, ?_⟩
      refine ⟨_, rfl, _, rfl, .ref sp, x, bookT B, d, B, 4, rfl, B7 d1, bookT_book B, hGB, by omega, G7 d1, fun H10 s10 => ?_⟩
      refine ⟨_, rfl, _, rfl, .ref sp, x, bookT B, d, B, 4, rfl, B7 (d1.trans s10), bookT_book B, hGB, by omega, G7 (d1.trans s10), by omega, fun H11 s11 => ?_⟩
      refine ⟨by show 2 ≤ sizeLine; decide, fun u2 n2 => ?_⟩
      have j2 := same_new (o := .lst [.bl (standD B d), .bl (stateD B d)]) n2
      refine ⟨by show 1 ≤ sizeLine; decide, fun u3 n3 => ?_⟩
      have j3 := same_new (o := .lst [.ref u2]) n3
      have d3 := d1.trans (s10.trans (s11.trans (j2.trans j3)))
      refine ⟨_, rfl, .inl ⟨rfl, _, SqL.of upd_same⟩, ?_⟩
      refine ⟨_, rfl, _, rfl, lb, x, bookL B, d, B, 4, rfl, E7 d3, bookL_book B, hGB, by omega, G7 d3, fun H12 s12 => ?_⟩
      refine ⟨_, rfl, _, rfl, lb, x, bookL B, d, B, 4, rfl, E7 (d3.trans s12), bookL_book B, hGB, by omega, G7 (d3.trans s12), by omega, fun H13 s13 => ?_⟩
      refine ⟨by show 2 ≤ sizeLine; decide, fun u4 n4 => ?_⟩
      have j4 := same_new (o := .lst [.bl (standD B d), .bl (stateD B d)]) n4
      have t3 := s12.trans (s13.trans j4)
      refine ⟨u3, _, _, rfl, rfl, t3 _ _ upd_same, by show 1 < sizeLine; decide, ?_⟩
      have n43 : u4 ≠ u3 := (ne_of_none ((s12.trans s13) _ _ upd_same) n4).symm
      have ku : ∀ {Hy : Hp}, Same Hy (upd H11 u2 (.lst [.bl (standD B d), .bl (stateD B d)])) → Same Hy (upd (upd H13 u4 (.lst [.bl (standD B d), .bl (stateD B d)])) u3 (.lst ([.ref u2] ++ [.ref u4]))) := fun {Hy} c a o e => by
        rw [upd_ne (ne_of_none (c _ _ e) n3)]; exact (j3.trans t3) _ _ (c _ _ e)
      have e3' : (upd (upd H13 u4 (.lst [.bl (standD B d), .bl (stateD B d)])) u3 (.lst ([.ref u2] ++ [.ref u4]))) u3 = some (.lst [.ref u2, .ref u4]) := upd_same
      have e4' : (upd (upd H13 u4 (.lst [.bl (standD B d), .bl (stateD B d)])) u3 (.lst ([.ref u2] ++ [.ref u4]))) u4 = some (.lst [.bl (standD B d), .bl (stateD B d)]) := by rw [upd_ne n43]; exact upd_same
      have e2' := ku (Same.refl _) u2 _ upd_same
      have e1' := ku (s10.trans (s11.trans j2)) u1 _ upd_same
      have du := ku (d1.trans (s10.trans (s11.trans j2)))
      generalize upd (upd H13 u4 (.lst [.bl (standD B d), .bl (stateD B d)])) u3 (.lst ([.ref u2] ++ [.ref u4])) = Hu at e1' e2' e3' e4' du
      refine ⟨_, rfl, _, rfl, _, rfl, by show 2 ≤ sizeLine; decide, fun u5 n5 => ?_⟩
      have j5 := same_new (o := .lst [.ref u1, .ref u1]) n5
      have one : ∀ {u : Addr}, Hu u = some (.lst [.bl (standD B d), .bl (stateD B d)]) → Dp K (upd Hu u5 (.lst [.ref u1, .ref u1])) (.ref u) (.list [.bool (standD B d), .bool (stateD B d)]) := fun e => .lst (SqL.of (j5 _ _ e)) (.cons (.bl _) (.cons (.bl _) .nil))
      refine ⟨_, _, .list [.list [.bool (standD B d), .bool (stateD B d)], .list [.bool (standD B d), .bool (stateD B d)]], rfl, .lst (SqL.of (j5 _ _ e3')) (.cons (one e2') (.cons (one e4') .nil)), .lst (SqL.of upd_same) (.cons (one e1') (.cons (one e1') .nil)), by simp [PyData.depth, PyData.depthAll], by simp [PyData.bulk, PyData.bulkAll], fun H14 s14 => ?_⟩
      refine ⟨_, rfl, iteF ?_⟩
      have c14' := du.trans (j5.trans s14)
      refine ⟨_, rfl, x, d, rfl, G7 c14', hFt.shw, hFt.nod, hFt.dep, hFt.len, ?_⟩
      refine ⟨_, rfl, rfl, _, rfl, iteNS rfl ?_⟩
      exact ⟨_, _, _, _, rfl, sm.trans c14'⟩
    · obtain ⟨y7, y8, y9, y10, rfl, sm⟩ := hP
      exact q _ ((f4.up sm).le (by omega)) (s19.trans (e5.trans (f5.trans (hid_mono sm))))
end
end Af
namespace Af
open PySem PySem.Spec PyProof.Rows L2
section
variable {P : Program} {w : World} {K : PySem.W.Frag} {mg : Str → Option Value} {base : Heap}
/-! law -/
def spLaw (K : PySem.W.Frag) : Sp := fun vs H Q _ => ∃ (a : Addr) (ns : List Int), vs = [.ref a] ∧ SqL K H a (ns.map V.int) ∧ ns.length ≤ 63 ∧ ∀ H', Q (.bl true) H'
theorem ok_law {f fC fB fR : Addr} {fd fdC fdB fdR : FuncData} {k : Nat} (T : Bl mg) (F : Fun K "law" "law" sLaw f fd)
    (DC : Df K mg "_law_cells" sLawCells ["_law_script", "_law_most"] fC fdC) (GC : FnOk P w K mg base CX0 k fC fdC ["_law_script", "_law_most"] (spCells K))
    (DB : Df K mg "_law_box" sLawBox ["_law_script", "_law_k"] fB fdB) (GB : FnOk P w K mg base CX0 k fB fdB ["_law_script", "_law_k"] (spBox K))
    (DR : Df K mg "_law_right" sLawRight ["_law_box_here"] fR fdR) (GR : FnG P w K mg base k fR fdR ["_law_box_here"] spRight) :
    FnG P w K mg base (k + 1) f fd ["_law_script"] (spLaw K) := by
  refine fun_okG F scLaw (fun vs H Q E h => ?_) (fun cdv A outer s H vs Q E hG hr h => ?_)
  · obtain ⟨_, _, rfl, _⟩ := h; rfl
  obtain ⟨a, ns, rfl, hS, h63, q⟩ := h
  have nd := scLaw.nd
  refine ⟨_, pss_cons (ps_set (i := 1) nd rfl (.inl rfl) (pe_do DC GC hr rfl (pa_cons (pv 0) (pa_cons pe_int pa_nil))))
    (pss_cons (ps_for PassesOwn.never rfl (pi_range1 rfl T.range (pa_cons (pe_callB call_len_seq rfl T.len bLen (pa_cons (pv 1) pa_nil)) pa_nil)) (pg_name (i := 2) nd rfl (.inl rfl))
      (pss_cons (ps_set (i := 3) nd rfl (.inr rfl) (pe_do DB GB hr rfl (pa_cons (pv 1) (pa_cons (pv 2) pa_nil))))
      (pss_one (ps_if (pt_not (pt_val (pe_callB (cr_all rfl) rfl T.all bAll (pa_cons
        (pe_lc (own := [("_law_turn", 4)]) (g := gName 4) (tt := tYes) rfl nd (pi_range1 rfl T.range (pa_cons pe_int pa_nil))
          (blkOk_by (N := ["_law_script", "_law_cells_here", "_law_k", "_law_box_here", "_law_turn"]) (sc := defScope sLaw) (by decide +kernel))
          (fun _ _ _ _ _ => pg_name (i := 4) nd rfl (.inl rfl)) (fun _ _ _ _ _ => pts_nil) (fun _ _ _ _ _ => pe_guarded GR hG hr rfl DR.g DR.F.kp DR.b (pa_cons (pv 3) pa_nil))) pa_nil)))) pss_never pss_nil))))
    (pss_one (ps_ret pe_bl))), ?_⟩
  refine ⟨_, rfl, a, ns, 3, rfl, hS, h63, by decide, by decide, fun cp H1 cs ncp s1 ecp hc1 hc2 => ?_⟩
  refine ⟨_, rfl, cp, _, rfl, .inl (SqL.of ecp), _, rfl, by rw [List.length_map]; omega, by rw [List.length_map]; omega, ?_⟩
  have en : (((cs.map V.int).length : Nat) : Int).toNat = cs.length := by rw [List.length_map]; omega
  rw [en]
  refine for_range (lo := 0) (n := cs.length) (fun i σ H3 => ∃ y2 y3 : Option V, σ = [some (.ref a), some (.ref cp), y2, y3, none] ∧ H3 cp = some (.lst (cs.map V.int))) ⟨none, none, rfl, ecp⟩ (fun i σ H3 hi hP => ?_) (fun σ H3 hP => ?_)
  · obtain ⟨y2, y3, rfl, hcp⟩ := hP
    refine ⟨_, rfl, _, rfl, cp, cs, i, ?_, SqL.of hcp, by omega, fun bx H4 nb s4 hB4 => ?_⟩
    · show [V.ref cp, V.int (0 + (i : Int))] = _
      rw [Int.zero_add]
    have hcp4 : H4 cp = some (.lst (cs.map V.int)) := hid_le _ _ (s4 _ _ hcp)
    refine ⟨3, rfl, by decide, by decide, fun D nD => ?_⟩
    have sD := same_new (o := .lst []) nD
    have nDb : D ≠ bx := hB4.ne nD
    have ncb : cp ≠ bx := ne_of_none hcp nb
    have ncD : cp ≠ D := ne_of_none hcp4 nD
    refine lc_range (lo := 0) (n := 3) (fun j H5 => H5 D = some (.lst (List.replicate j (.bl true))) ∧ Box H5 bx (1000000 * j) ∧ H5 cp = some (.lst (cs.map V.int))) ⟨upd_same, hB4.new nD, sD _ _ hcp4⟩ (fun j H5 hj hP5 => ?_) (fun H5 hP5 => ?_)
    · obtain ⟨hD, hB5, hcp5⟩ := hP5
      refine ⟨rfl, yesT ?_⟩
      refine ⟨_, rfl, bx, 1000000 * j, rfl, hB5, by omega, fun H6 hB6 s6 => ?_⟩
      have g : ∀ {z : Addr} {o : HO}, z ≠ bx → H5 z = some o → H6 z = some o := fun {z o} nz ez => by
        have := s6 z o (by rw [hid_ne nz]; exact ez)
        rwa [hid_ne nz] at this
      refine ⟨_, g nDb hD, ?_, ?_, ?_, ?_⟩
      · rw [List.length_replicate]; exact small1000 (by omega)
      · rw [upd_same, List.replicate_succ']
      · obtain ⟨x1, x2, x3, g1, g2, g3, g4, g5, g6⟩ := hB6
        exact ⟨x1, x2, x3, by rw [upd_ne nDb.symm]; exact g1, g2, g3, g4, g5, by omega⟩
      · rw [upd_ne ncD]; exact g ncb hcp5
    · obtain ⟨hD, hB5, hcp5⟩ := hP5
      refine ⟨D, List.replicate 3 true, rfl, SqL.of hD, ?_⟩
      refine ⟨_, rfl, iteF ?_⟩
      exact ⟨_, _, rfl, hcp5⟩
  · obtain ⟨y2, y3, rfl, hcp⟩ := hP
    exact q _
end
end Af
namespace Af
open PySem PySem.Spec PyProof.Rows L2
/-! what the top has written -/
theorem all_mk {l : PySem.W.OpenLaw} {w : World} {K : PySem.W.Frag} {h : Heap} {mg : Str → Option Value} {fa f1 f2 f3 f4 f5 f6 f7 f8 f9 f10 f11 f12 f13 f14 f15 f16 f17 f18 f19 f20 f21 f22 : Addr} (X : K.In h) (G : h.Ns mainGlobals mg) (hfa : mg "law" = some (.ref fa))
    {od1 an1 od2 an2 od3 an3 od4 an4 od5 an5 od6 an6 od7 an7 od8 an8 od9 an9 od10 an10 od11 an11 od12 an12 od13 an13 od14 an14 od15 an15 od16 an16 od17 an17 od18 an18 od19 an19 od20 an20 od21 an21 od22 an22 : Option Addr} {sl1 sl2 sl3 sl4 sl5 sl6 sl7 sl8 sl9 sl10 sl11 sl12 sl13 sl14 sl15 sl16 sl17 sl18 sl19 sl20 sl21 sl22 : Array (Option Value)} {oc1 kV1 dc1 pm1 cd1 ct1 oc2 kV2 dc2 pm2 cd2 ct2 oc3 kV3 dc3 pm3 cd3 ct3 oc4 kV4 dc4 pm4 cd4 ct4 oc5 kV5 dc5 pm5 cd5 ct5 oc6 kV6 dc6 pm6 cd6 ct6 oc7 kV7 dc7 pm7 cd7 ct7 oc8 kV8 dc8 pm8 cd8 ct8 oc9 kV9 dc9 pm9 cd9 ct9 oc10 kV10 dc10 pm10 cd10 ct10 oc11 kV11 dc11 pm11 cd11 ct11 oc12 kV12 dc12 pm12 cd12 ct12 oc13 kV13 dc13 pm13 cd13 ct13 oc14 kV14 dc14 pm14 cd14 ct14 oc15 kV15 dc15 pm15 cd15 ct15 oc16 kV16 dc16 pm16 cd16 ct16 oc17 kV17 dc17 pm17 cd17 ct17 oc18 kV18 dc18 pm18 cd18 ct18 oc19 kV19 dc19 pm19 cd19 ct19 oc20 kV20 dc20 pm20 cd20 ct20 oc21 kV21 dc21 pm21 cd21 ct21 oc22 kV22 dc22 pm22 cd22 ct22 : Value}
    (a1 : PySem.W.nsIn K mainGlobals "is_whole" = some (some (.ref f1))) (l1 : K.lookup f1 = some ⟨oc1, od1, .func (PySem.W.fnOf "is_whole" "is_whole" (defArgs sIsWhole) (defBody sIsWhole) (defScope sIsWhole) .none kV1 dc1 pm1 an1 cd1 ct1), sl1⟩) (c1 : PySem.W.codeIn K cd1 "is_whole" = true) (k1 : PySem.W.keepIn K (.ref f1) = true)
    (a2 : PySem.W.nsIn K mainGlobals "are_faces" = some (some (.ref f2))) (l2 : K.lookup f2 = some ⟨oc2, od2, .func (PySem.W.fnOf "are_faces" "are_faces" (defArgs sAreFaces) (defBody sAreFaces) (defScope sAreFaces) .none kV2 dc2 pm2 an2 cd2 ct2), sl2⟩) (c2 : PySem.W.codeIn K cd2 "are_faces" = true) (k2 : PySem.W.keepIn K (.ref f2) = true)
    (a3 : PySem.W.nsIn K mainGlobals "length_of" = some (some (.ref f3))) (l3 : K.lookup f3 = some ⟨oc3, od3, .func (PySem.W.fnOf "length_of" "length_of" (defArgs sLengthOf) (defBody sLengthOf) (defScope sLengthOf) .none kV3 dc3 pm3 an3 cd3 ct3), sl3⟩) (c3 : PySem.W.codeIn K cd3 "length_of" = true) (k3 : PySem.W.keepIn K (.ref f3) = true)
    (a4 : PySem.W.nsIn K mainGlobals "is_standing" = some (some (.ref f4))) (l4 : K.lookup f4 = some ⟨oc4, od4, .func (PySem.W.fnOf "is_standing" "is_standing" (defArgs sIsStanding) (defBody sIsStanding) (defScope sIsStanding) .none kV4 dc4 pm4 an4 cd4 ct4), sl4⟩) (c4 : PySem.W.codeIn K cd4 "is_standing" = true) (k4 : PySem.W.keepIn K (.ref f4) = true)
    (a5 : PySem.W.nsIn K mainGlobals "is_state" = some (some (.ref f5))) (l5 : K.lookup f5 = some ⟨oc5, od5, .func (PySem.W.fnOf "is_state" "is_state" (defArgs sIsState) (defBody sIsState) (defScope sIsState) .none kV5 dc5 pm5 an5 cd5 ct5), sl5⟩) (c5 : PySem.W.codeIn K cd5 "is_state" = true) (k5 : PySem.W.keepIn K (.ref f5) = true)
    (a6 : PySem.W.nsIn K mainGlobals "_law_box" = some (some (.ref f6))) (l6 : K.lookup f6 = some ⟨oc6, od6, .func (PySem.W.fnOf "_law_box" "_law_box" (defArgs sLawBox) (defBody sLawBox) (defScope sLawBox) .none kV6 dc6 pm6 an6 cd6 ct6), sl6⟩) (c6 : PySem.W.codeIn K cd6 "_law_box" = true) (k6 : PySem.W.keepIn K (.ref f6) = true)
    (a7 : PySem.W.nsIn K mainGlobals "_law_take" = some (some (.ref f7))) (l7 : K.lookup f7 = some ⟨oc7, od7, .func (PySem.W.fnOf "_law_take" "_law_take" (defArgs sLawTake) (defBody sLawTake) (defScope sLawTake) .none kV7 dc7 pm7 an7 cd7 ct7), sl7⟩) (c7 : PySem.W.codeIn K cd7 "_law_take" = true) (k7 : PySem.W.keepIn K (.ref f7) = true)
    (a8 : PySem.W.nsIn K mainGlobals "_law_cells" = some (some (.ref f8))) (l8 : K.lookup f8 = some ⟨oc8, od8, .func (PySem.W.fnOf "_law_cells" "_law_cells" (defArgs sLawCells) (defBody sLawCells) (defScope sLawCells) .none kV8 dc8 pm8 an8 cd8 ct8), sl8⟩) (c8 : PySem.W.codeIn K cd8 "_law_cells" = true) (k8 : PySem.W.keepIn K (.ref f8) = true)
    (a9 : PySem.W.nsIn K mainGlobals "_law_of" = some (some (.ref f9))) (l9 : K.lookup f9 = some ⟨oc9, od9, .func (PySem.W.fnOf "_law_of" "_law_of" (defArgs sLawOf) (defBody sLawOf) (defScope sLawOf) .none kV9 dc9 pm9 an9 cd9 ct9), sl9⟩) (c9 : PySem.W.codeIn K cd9 "_law_of" = true) (k9 : PySem.W.keepIn K (.ref f9) = true)
    (a10 : PySem.W.nsIn K mainGlobals "_law_same" = some (some (.ref f10))) (l10 : K.lookup f10 = some ⟨oc10, od10, .func (PySem.W.fnOf "_law_same" "_law_same" (defArgs sLawSame) (defBody sLawSame) (defScope sLawSame) .none kV10 dc10 pm10 an10 cd10 ct10), sl10⟩) (c10 : PySem.W.codeIn K cd10 "_law_same" = true) (k10 : PySem.W.keepIn K (.ref f10) = true)
    (a11 : PySem.W.nsIn K mainGlobals "_law_lists" = some (some (.ref f11))) (l11 : K.lookup f11 = some ⟨oc11, od11, .func (PySem.W.fnOf "_law_lists" "_law_lists" (defArgs sLawLists) (defBody sLawLists) (defScope sLawLists) .none kV11 dc11 pm11 an11 cd11 ct11), sl11⟩) (c11 : PySem.W.codeIn K cd11 "_law_lists" = true) (k11 : PySem.W.keepIn K (.ref f11) = true)
    (a12 : PySem.W.nsIn K mainGlobals "_law_ladder" = some (some (.ref f12))) (l12 : K.lookup f12 = some ⟨oc12, od12, .func (PySem.W.fnOf "_law_ladder" "_law_ladder" (defArgs sLawLadder) (defBody sLawLadder) (defScope sLawLadder) .none kV12 dc12 pm12 an12 cd12 ct12), sl12⟩) (c12 : PySem.W.codeIn K cd12 "_law_ladder" = true) (k12 : PySem.W.keepIn K (.ref f12) = true)
    (a13 : PySem.W.nsIn K mainGlobals "_law_random_book" = some (some (.ref f13))) (l13 : K.lookup f13 = some ⟨oc13, od13, .func (PySem.W.fnOf "_law_random_book" "_law_random_book" (defArgs sLawRandomBook) (defBody sLawRandomBook) (defScope sLawRandomBook) .none kV13 dc13 pm13 an13 cd13 ct13), sl13⟩) (c13 : PySem.W.codeIn K cd13 "_law_random_book" = true) (k13 : PySem.W.keepIn K (.ref f13) = true)
    (a14 : PySem.W.nsIn K mainGlobals "_law_random_standing" = some (some (.ref f14))) (l14 : K.lookup f14 = some ⟨oc14, od14, .func (PySem.W.fnOf "_law_random_standing" "_law_random_standing" (defArgs sLawRandomStanding) (defBody sLawRandomStanding) (defScope sLawRandomStanding) .none kV14 dc14 pm14 an14 cd14 ct14), sl14⟩) (c14 : PySem.W.codeIn K cd14 "_law_random_standing" = true) (k14 : PySem.W.keepIn K (.ref f14) = true)
    (a15 : PySem.W.nsIn K mainGlobals "_law_random_faces" = some (some (.ref f15))) (l15 : K.lookup f15 = some ⟨oc15, od15, .func (PySem.W.fnOf "_law_random_faces" "_law_random_faces" (defArgs sLawRandomFaces) (defBody sLawRandomFaces) (defScope sLawRandomFaces) .none kV15 dc15 pm15 an15 cd15 ct15), sl15⟩) (c15 : PySem.W.codeIn K cd15 "_law_random_faces" = true) (k15 : PySem.W.keepIn K (.ref f15) = true)
    (a16 : PySem.W.nsIn K mainGlobals "_law_random_state" = some (some (.ref f16))) (l16 : K.lookup f16 = some ⟨oc16, od16, .func (PySem.W.fnOf "_law_random_state" "_law_random_state" (defArgs sLawRandomState) (defBody sLawRandomState) (defScope sLawRandomState) .none kV16 dc16 pm16 an16 cd16 ct16), sl16⟩) (c16 : PySem.W.codeIn K cd16 "_law_random_state" = true) (k16 : PySem.W.keepIn K (.ref f16) = true)
    (a17 : PySem.W.nsIn K mainGlobals "_law_anything" = some (some (.ref f17))) (l17 : K.lookup f17 = some ⟨oc17, od17, .func (PySem.W.fnOf "_law_anything" "_law_anything" (defArgs sLawAnything) (defBody sLawAnything) (defScope sLawAnything) .none kV17 dc17 pm17 an17 cd17 ct17), sl17⟩) (c17 : PySem.W.codeIn K cd17 "_law_anything" = true) (k17 : PySem.W.keepIn K (.ref f17) = true)
    (a18 : PySem.W.nsIn K mainGlobals "_law_changed" = some (some (.ref f18))) (l18 : K.lookup f18 = some ⟨oc18, od18, .func (PySem.W.fnOf "_law_changed" "_law_changed" (defArgs sLawChanged) (defBody sLawChanged) (defScope sLawChanged) .none kV18 dc18 pm18 an18 cd18 ct18), sl18⟩) (c18 : PySem.W.codeIn K cd18 "_law_changed" = true) (k18 : PySem.W.keepIn K (.ref f18) = true)
    (a19 : PySem.W.nsIn K mainGlobals "_law_stands" = some (some (.ref f19))) (l19 : K.lookup f19 = some ⟨oc19, od19, .func (PySem.W.fnOf "_law_stands" "_law_stands" (defArgs sLawStands) (defBody sLawStands) (defScope sLawStands) .none kV19 dc19 pm19 an19 cd19 ct19), sl19⟩) (c19 : PySem.W.codeIn K cd19 "_law_stands" = true) (k19 : PySem.W.keepIn K (.ref f19) = true)
    (a20 : PySem.W.nsIn K mainGlobals "_law_is_due" = some (some (.ref f20))) (l20 : K.lookup f20 = some ⟨oc20, od20, .func (PySem.W.fnOf "_law_is_due" "_law_is_due" (defArgs sLawIsDue) (defBody sLawIsDue) (defScope sLawIsDue) .none kV20 dc20 pm20 an20 cd20 ct20), sl20⟩) (c20 : PySem.W.codeIn K cd20 "_law_is_due" = true) (k20 : PySem.W.keepIn K (.ref f20) = true)
    (a21 : PySem.W.nsIn K mainGlobals "_law_right" = some (some (.ref f21))) (l21 : K.lookup f21 = some ⟨oc21, od21, .func (PySem.W.fnOf "_law_right" "_law_right" (defArgs sLawRight) (defBody sLawRight) (defScope sLawRight) .none kV21 dc21 pm21 an21 cd21 ct21), sl21⟩) (c21 : PySem.W.codeIn K cd21 "_law_right" = true) (k21 : PySem.W.keepIn K (.ref f21) = true)
    (a22 : PySem.W.nsIn K mainGlobals "law" = some (some (.ref f22))) (l22 : K.lookup f22 = some ⟨oc22, od22, .func (PySem.W.fnOf "law" "law" (defArgs sLaw) (defBody sLaw) (defScope sLaw) .none kV22 dc22 pm22 an22 cd22 ct22), sl22⟩) (c22 : PySem.W.codeIn K cd22 "law" = true) (k22 : PySem.W.keepIn K (.ref f22) = true)
    (z1 : PySem.W.nsIn K mainGlobals "len" = some none) (z2 : PySem.W.nsIn K mainGlobals "abs" = some none) (z3 : PySem.W.nsIn K mainGlobals "int" = some none) (z4 : PySem.W.nsIn K mainGlobals "bool" = some none) (z5 : PySem.W.nsIn K mainGlobals "str" = some none) (z6 : PySem.W.nsIn K mainGlobals "range" = some none) (z7 : PySem.W.nsIn K mainGlobals "list" = some none) (z8 : PySem.W.nsIn K mainGlobals "tuple" = some none) (z9 : PySem.W.nsIn K mainGlobals "isinstance" = some none) (z10 : PySem.W.nsIn K mainGlobals "all" = some none) (z11 : PySem.W.nsIn K mainGlobals "zip" = some none) (z12 : PySem.W.nsIn K mainGlobals "enumerate" = some none) (z13 : PySem.W.nsIn K mainGlobals "max" = some none) (z14 : PySem.W.nsIn K mainGlobals "repr" = some none) :
    ∃ fd : FuncData, (∀ (s : Shared) (v : Value), BindsTo s fd ⟨[v], []⟩ [("_law_script", v)]) ∧ ∀ base : Heap, K.In base → base.Ns mainGlobals mg → FnG l.prog w K mg base 15 fa fd ["_law_script"] (spLaw K) := by
  have e := hfa.symm.trans (PySem.W.mg_of X G a22)
  cases e
  have FIsWhole := fun_mk (st := sIsWhole) l1 c1 k1
  have DIsWhole : Df K mg "is_whole" sIsWhole ["value"] f1 _ := ⟨FIsWhole, FIsWhole.binds (ps := ["value"]) fun _ _ _ _ _ _ us hl => match us, hl with | [_], _ => rfl, PySem.W.mg_of X G a1⟩
  have FAreFaces := fun_mk (st := sAreFaces) l2 c2 k2
  have DAreFaces : Df K mg "are_faces" sAreFaces ["value", "many"] f2 _ := ⟨FAreFaces, FAreFaces.binds (ps := ["value", "many"]) fun _ _ _ _ _ _ us hl => match us, hl with | [_, _], _ => rfl, PySem.W.mg_of X G a2⟩
  have FLengthOf := fun_mk (st := sLengthOf) l3 c3 k3
  have DLengthOf : Df K mg "length_of" sLengthOf ["book", "rungs", "climber"] f3 _ := ⟨FLengthOf, FLengthOf.binds (ps := ["book", "rungs", "climber"]) fun _ _ _ _ _ _ us hl => match us, hl with | [_, _, _], _ => rfl, PySem.W.mg_of X G a3⟩
  have FIsStanding := fun_mk (st := sIsStanding) l4 c4 k4
  have DIsStanding : Df K mg "is_standing" sIsStanding ["book", "value"] f4 _ := ⟨FIsStanding, FIsStanding.binds (ps := ["book", "value"]) fun _ _ _ _ _ _ us hl => match us, hl with | [_, _], _ => rfl, PySem.W.mg_of X G a4⟩
  have FIsState := fun_mk (st := sIsState) l5 c5 k5
  have DIsState : Df K mg "is_state" sIsState ["book", "value"] f5 _ := ⟨FIsState, FIsState.binds (ps := ["book", "value"]) fun _ _ _ _ _ _ us hl => match us, hl with | [_, _], _ => rfl, PySem.W.mg_of X G a5⟩
  have FLawBox := fun_mk (st := sLawBox) l6 c6 k6
  have DLawBox : Df K mg "_law_box" sLawBox ["_law_script", "_law_k"] f6 _ := ⟨FLawBox, FLawBox.binds (ps := ["_law_script", "_law_k"]) fun _ _ _ _ _ _ us hl => match us, hl with | [_, _], _ => rfl, PySem.W.mg_of X G a6⟩
  have FLawTake := fun_mk (st := sLawTake) l7 c7 k7
  have DLawTake : Df K mg "_law_take" sLawTake ["_law_box_here", "_law_span"] f7 _ := ⟨FLawTake, FLawTake.binds (ps := ["_law_box_here", "_law_span"]) fun _ _ _ _ _ _ us hl => match us, hl with | [_, _], _ => rfl, PySem.W.mg_of X G a7⟩
  have FLawCells := fun_mk (st := sLawCells) l8 c8 k8
  have DLawCells : Df K mg "_law_cells" sLawCells ["_law_script", "_law_most"] f8 _ := ⟨FLawCells, FLawCells.binds (ps := ["_law_script", "_law_most"]) fun _ _ _ _ _ _ us hl => match us, hl with | [_, _], _ => rfl, PySem.W.mg_of X G a8⟩
  have FLawOf := fun_mk (st := sLawOf) l9 c9 k9
  have DLawOf : Df K mg "_law_of" sLawOf ["_law_box_here", "_law_some"] f9 _ := ⟨FLawOf, FLawOf.binds (ps := ["_law_box_here", "_law_some"]) fun _ _ _ _ _ _ us hl => match us, hl with | [_, _], _ => rfl, PySem.W.mg_of X G a9⟩
  have FLawSame := fun_mk (st := sLawSame) l10 c10 k10
  have DLawSame : Df K mg "_law_same" sLawSame ["_law_found", "_law_due"] f10 _ := ⟨FLawSame, FLawSame.binds (ps := ["_law_found", "_law_due"]) fun _ _ _ _ _ _ us hl => match us, hl with | [_, _], _ => rfl, PySem.W.mg_of X G a10⟩
  have FLawLists := fun_mk (st := sLawLists) l11 c11 k11
  have DLawLists : Df K mg "_law_lists" sLawLists ["_law_matter"] f11 _ := ⟨FLawLists, FLawLists.binds (ps := ["_law_matter"]) fun _ _ _ _ _ _ us hl => match us, hl with | [_], _ => rfl, PySem.W.mg_of X G a11⟩
  have FLawLadder := fun_mk (st := sLawLadder) l12 c12 k12
  have DLawLadder : Df K mg "_law_ladder" sLawLadder ["_law_shelf", "_law_rungs", "_law_who"] f12 _ := ⟨FLawLadder, FLawLadder.binds (ps := ["_law_shelf", "_law_rungs", "_law_who"]) fun _ _ _ _ _ _ us hl => match us, hl with | [_, _, _], _ => rfl, PySem.W.mg_of X G a12⟩
  have FLawRandomBook := fun_mk (st := sLawRandomBook) l13 c13 k13
  have DLawRandomBook : Df K mg "_law_random_book" sLawRandomBook ["_law_box_here", "_law_most", "_law_high"] f13 _ := ⟨FLawRandomBook, FLawRandomBook.binds (ps := ["_law_box_here", "_law_most", "_law_high"]) fun _ _ _ _ _ _ us hl => match us, hl with | [_, _, _], _ => rfl, PySem.W.mg_of X G a13⟩
  have FLawRandomStanding := fun_mk (st := sLawRandomStanding) l14 c14 k14
  have DLawRandomStanding : Df K mg "_law_random_standing" sLawRandomStanding ["_law_box_here", "_law_shelf"] f14 _ := ⟨FLawRandomStanding, FLawRandomStanding.binds (ps := ["_law_box_here", "_law_shelf"]) fun _ _ _ _ _ _ us hl => match us, hl with | [_, _], _ => rfl, PySem.W.mg_of X G a14⟩
  have FLawRandomFaces := fun_mk (st := sLawRandomFaces) l15 c15 k15
  have DLawRandomFaces : Df K mg "_law_random_faces" sLawRandomFaces ["_law_box_here", "_law_count"] f15 _ := ⟨FLawRandomFaces, FLawRandomFaces.binds (ps := ["_law_box_here", "_law_count"]) fun _ _ _ _ _ _ us hl => match us, hl with | [_, _], _ => rfl, PySem.W.mg_of X G a15⟩
  have FLawRandomState := fun_mk (st := sLawRandomState) l16 c16 k16
  have DLawRandomState : Df K mg "_law_random_state" sLawRandomState ["_law_box_here", "_law_shelf"] f16 _ := ⟨FLawRandomState, FLawRandomState.binds (ps := ["_law_box_here", "_law_shelf"]) fun _ _ _ _ _ _ us hl => match us, hl with | [_, _], _ => rfl, PySem.W.mg_of X G a16⟩
  have FLawAnything := fun_mk (st := sLawAnything) l17 c17 k17
  have DLawAnything : Df K mg "_law_anything" sLawAnything ["_law_box_here"] f17 _ := ⟨FLawAnything, FLawAnything.binds (ps := ["_law_box_here"]) fun _ _ _ _ _ _ us hl => match us, hl with | [_], _ => rfl, PySem.W.mg_of X G a17⟩
  have FLawChanged := fun_mk (st := sLawChanged) l18 c18 k18
  have DLawChanged : Df K mg "_law_changed" sLawChanged ["_law_box_here", "_law_matter"] f18 _ := ⟨FLawChanged, FLawChanged.binds (ps := ["_law_box_here", "_law_matter"]) fun _ _ _ _ _ _ us hl => match us, hl with | [_, _], _ => rfl, PySem.W.mg_of X G a18⟩
  have FLawStands := fun_mk (st := sLawStands) l19 c19 k19
  have DLawStands : Df K mg "_law_stands" sLawStands ["_law_shelf", "_law_matter"] f19 _ := ⟨FLawStands, FLawStands.binds (ps := ["_law_shelf", "_law_matter"]) fun _ _ _ _ _ _ us hl => match us, hl with | [_, _], _ => rfl, PySem.W.mg_of X G a19⟩
  have FLawIsDue := fun_mk (st := sLawIsDue) l20 c20 k20
  have DLawIsDue : Df K mg "_law_is_due" sLawIsDue ["_law_shelf", "_law_matter"] f20 _ := ⟨FLawIsDue, FLawIsDue.binds (ps := ["_law_shelf", "_law_matter"]) fun _ _ _ _ _ _ us hl => match us, hl with | [_, _], _ => rfl, PySem.W.mg_of X G a20⟩
  have FLawRight := fun_mk (st := sLawRight) l21 c21 k21
  have DLawRight : Df K mg "_law_right" sLawRight ["_law_box_here"] f21 _ := ⟨FLawRight, FLawRight.binds (ps := ["_law_box_here"]) fun _ _ _ _ _ _ us hl => match us, hl with | [_], _ => rfl, PySem.W.mg_of X G a21⟩
  have FLaw := fun_mk (st := sLaw) l22 c22 k22
  have T : Bl mg := ⟨PySem.W.mg_none_of X G z1, PySem.W.mg_none_of X G z2, PySem.W.mg_none_of X G z3, PySem.W.mg_none_of X G z4, PySem.W.mg_none_of X G z5, PySem.W.mg_none_of X G z6, PySem.W.mg_none_of X G z7, PySem.W.mg_none_of X G z8, PySem.W.mg_none_of X G z9, PySem.W.mg_none_of X G z10, PySem.W.mg_none_of X G z11, PySem.W.mg_none_of X G z12, PySem.W.mg_none_of X G z13, PySem.W.mg_none_of X G z14⟩
  refine ⟨PySem.W.fnOf "law" "law" (defArgs sLaw) (defBody sLaw) (defScope sLaw) .none kV22 dc22 pm22 an22 cd22 ct22, fun s v => .of_eq rfl, fun base _ _ => ?_⟩
  have gT : ∀ k, FnOk l.prog w K mg base CX0 (k + 1) _ _ _ spTake := fun k => ok_take FLawTake
  have gL : ∀ k, FnOk l.prog w K mg base CX0 (k + 1) _ _ _ (spLengthOf K) := fun k => ok_ladder FLawLadder
  have gF : ∀ k, FnOk l.prog w K mg base CX0 (k + 2) _ _ _ spRFaces := fun k => ok_rfaces T FLawRandomFaces DLawTake (gT k)
  have gO : ∀ k, FnOk l.prog w K mg base CX0 (k + 2) _ _ _ spOf := fun k => ok_of_ T FLawOf DLawTake (gT k)
  have gA : ∀ k, FnOk l.prog w K mg base CX0 (k + 3) _ _ _ (spAny K) := fun k => ok_any T FLawAnything DLawOf (gO k)
  have gC1 := ok_changed (P := l.prog) (w := w) (base := base) (M := 10 ^ 30) (by decide) (by decide) T DLawChanged DLawTake gT DLawAnything gA 10
  have gC2 := ok_changed (P := l.prog) (w := w) (base := base) (M := 10 ^ 30 + 1) (by decide) (by decide) T DLawChanged DLawTake gT DLawAnything gA 10
  have gW : ∀ k, FnOk l.prog w K mg base CX0 (k + 1) _ _ _ (spWhole K) := fun k => ok_whole T FIsWhole
  have gI : ∀ k, FnOk l.prog w K mg base CX0 (k + 2) _ _ _ (spStand K) := fun k => ok_standing T FIsStanding DIsWhole (gW k) DLengthOf (ok_length_ofV FLengthOf)
  have gJ := ok_state (P := l.prog) (w := w) (base := base) (k := 12) T FIsState DIsStanding (gI 10) DAreFaces (ok_faces T FAreFaces DIsWhole (gW 10))
  have gD : ∀ k, FnOk l.prog w K mg base CX0 (k + 2) _ _ _ (spStand K) := fun k => ok_stands T FLawStands DLawLadder (ok_ladderV FLawLadder)
  have bI := kbinds (ps := ["book", "value"]) (ks := ["value", "book"]) FIsStanding (by simp) fun _ _ _ _ _ _ ws hl => match ws, hl with | [_, _], _ => rfl
  have bJ := kbinds (ps := ["book", "value"]) (ks := ["value", "book"]) FIsState (by simp) fun _ _ _ _ _ _ ws hl => match ws, hl with | [_, _], _ => rfl
  have gR := ok_right (P := l.prog) (w := w) (base := base) (k := 13) T FLawRight DLawRandomBook (ok_rbook (k := 12) T FLawRandomBook DLawTake (gT 11))
    DLawRandomState (ok_rstate (k := 12) T FLawRandomState DLawRandomStanding (ok_rstand (k := 11) T FLawRandomStanding DLawTake (gT 10) DLawLadder (gL 10)) DLawRandomFaces (gF 10))
    DLawLists (ok_lists T DLawLists 10) DLawOf (gO 11) DLawAnything (gA 10) DLawChanged gC1 gC2 DLawTake (gT 12) DIsStanding (gI 11) bI DIsState gJ bJ DLawStands (gD 11) DLawIsDue (ok_isdue (k := 12) T FLawIsDue DLawStands (gD 10)) DLawSame (ok_same T DLawSame 10) (by decide)
  exact ok_law (k := 14) T FLaw DLawCells (ok_cells (k := 13) T FLawCells) DLawBox (ok_box (k := 13) T FLawBox) DLawRight gR
end Af
open PySem PySem.W PyProof.Rows
set_option maxRecDepth 100000 in
set_option maxHeartbeats 0 in
theorem PySem.Challenge.cw_aboutface_k01_standings_and_states_or_no_holds : PySem.Challenge.rw_aboutface_k01_standings_and_states_or_no.Holds := by
  w_on; o_law; k_head; (case hw => w_witness2)
  k_fill
  refine Af.walk_ofG (l := PySem.Challenge.rw_aboutface_k01_standings_and_states_or_no) (n := 63) (k := 15) (x := "_law_script") (sp := Af.spLaw) rfl (by decide) rfl ⟨rfl, by decide, by decide⟩ (fun w h Y => PySem.W.kIn_of Y) ?F (fun _ _ a ns hl _ hS => ⟨a, ns, rfl, hS, hl, fun _ => rfl⟩)
  case F =>
    intro w mg fa h KX G hmg
    refine' Af.all_mk KX G hmg ?a1 ?l1 ?c1 ?k1 ?a2 ?l2 ?c2 ?k2 ?a3 ?l3 ?c3 ?k3 ?a4 ?l4 ?c4 ?k4 ?a5 ?l5 ?c5 ?k5 ?a6 ?l6 ?c6 ?k6 ?a7 ?l7 ?c7 ?k7 ?a8 ?l8 ?c8 ?k8 ?a9 ?l9 ?c9 ?k9 ?a10 ?l10 ?c10 ?k10 ?a11 ?l11 ?c11 ?k11 ?a12 ?l12 ?c12 ?k12 ?a13 ?l13 ?c13 ?k13 ?a14 ?l14 ?c14 ?k14 ?a15 ?l15 ?c15 ?k15 ?a16 ?l16 ?c16 ?k16 ?a17 ?l17 ?c17 ?k17 ?a18 ?l18 ?c18 ?k18 ?a19 ?l19 ?c19 ?k19 ?a20 ?l20 ?c20 ?k20 ?a21 ?l21 ?c21 ?k21 ?a22 ?l22 ?c22 ?k22 ?z1 ?z2 ?z3 ?z4 ?z5 ?z6 ?z7 ?z8 ?z9 ?z10 ?z11 ?z12 ?z13 ?z14
    (case a1 => k_is); (case l1 => k_is); (case c1 => k_is); (case k1 => k_is); (case a2 => k_is); (case l2 => k_is); (case c2 => k_is); (case k2 => k_is)
    (case a3 => k_is); (case l3 => k_is); (case c3 => k_is); (case k3 => k_is); (case a4 => k_is); (case l4 => k_is); (case c4 => k_is); (case k4 => k_is)
    (case a5 => k_is); (case l5 => k_is); (case c5 => k_is); (case k5 => k_is); (case a6 => k_is); (case l6 => k_is); (case c6 => k_is); (case k6 => k_is)
    (case a7 => k_is); (case l7 => k_is); (case c7 => k_is); (case k7 => k_is); (case a8 => k_is); (case l8 => k_is); (case c8 => k_is); (case k8 => k_is)
    (case a9 => k_is); (case l9 => k_is); (case c9 => k_is); (case k9 => k_is); (case a10 => k_is); (case l10 => k_is); (case c10 => k_is); (case k10 => k_is)
    (case a11 => k_is); (case l11 => k_is); (case c11 => k_is); (case k11 => k_is); (case a12 => k_is); (case l12 => k_is); (case c12 => k_is); (case k12 => k_is)
    (case a13 => k_is); (case l13 => k_is); (case c13 => k_is); (case k13 => k_is); (case a14 => k_is); (case l14 => k_is); (case c14 => k_is); (case k14 => k_is)
    (case a15 => k_is); (case l15 => k_is); (case c15 => k_is); (case k15 => k_is); (case a16 => k_is); (case l16 => k_is); (case c16 => k_is); (case k16 => k_is)
    (case a17 => k_is); (case l17 => k_is); (case c17 => k_is); (case k17 => k_is); (case a18 => k_is); (case l18 => k_is); (case c18 => k_is); (case k18 => k_is)
    (case a19 => k_is); (case l19 => k_is); (case c19 => k_is); (case k19 => k_is); (case a20 => k_is); (case l20 => k_is); (case c20 => k_is); (case k20 => k_is)
    (case a21 => k_is); (case l21 => k_is); (case c21 => k_is); (case k21 => k_is); (case a22 => k_is); (case l22 => k_is); (case c22 => k_is); (case k22 => k_is)
    (case z1 => k_is); (case z2 => k_is); (case z3 => k_is); (case z4 => k_is); (case z5 => k_is); (case z6 => k_is); (case z7 => k_is); (case z8 => k_is)
    (case z9 => k_is); (case z10 => k_is); (case z11 => k_is); (case z12 => k_is); (case z13 => k_is); (case z14 => k_is)
