import PyProof.Rows.All
import Wide.All
import OpenK.AllK
import Wide.FinOn
import HandS.ForMost
import HandS.IsInst
import HandS.Flow
import HandS.Conv
import HandS.Deep
import HandS.TupAny
import HandS.Walk
import HandS.Zip
import HandS.Codes
import PyProof.ReprRoads
import PyProof.ReprLen
import KE.DataMinMax
import PyProof.ReprBulk
import PyProof.Draws
import PyProof.EnumMake
import HandS.NoneIn
import HandS.Style
import PySem.Challenge.RW_aboutface_k06_known_beats
set_option Elab.async false
set_option linter.all false
set_option maxRecDepth 100000
/-! ### the ground: heaps, data, repr, defs that want no guard -/
namespace Af
open PySem PySem.Spec PyProof.Rows L2
/-! heaps -/
theorem same_new {H : Hp} {p : Addr} {o : HO} (h : H p = none) : Same H (upd H p o) := fun b x e => by
  rw [upd_ne (ne_of_none e h)]; exact e
/-- the heap without one place -/
def hid (H : Hp) (b : Addr) : Hp := fun a => if a = b then none else H a
theorem hid_at {H : Hp} {b : Addr} : hid H b b = none := if_pos rfl
theorem hid_ne {H : Hp} {a b : Addr} (h : a ≠ b) : hid H b a = H a := if_neg h
theorem hid_upd {H : Hp} {b : Addr} {o : HO} : hid (upd H b o) b = hid H b := by
  funext a; unfold hid; split
  · rfl
  · rename_i h; exact upd_ne h
theorem hid_new {H : Hp} {b p : Addr} {o : HO} (h : p ≠ b) : hid (upd H p o) b = upd (hid H b) p o := by
  funext a
  by_cases e : a = b
  · subst e; rw [hid_at, upd_ne h.symm, hid_at]
  · rw [hid_ne e]
    by_cases e2 : a = p
    · subst e2; rw [upd_same, upd_same]
    · rw [upd_ne e2, upd_ne e2, hid_ne e]
theorem hid_le {H : Hp} {b : Addr} : Same (hid H b) H := fun a o e => by
  by_cases h : a = b
  · subst h; rw [hid_at] at e; cases e
  · rw [hid_ne h] at e; exact e
theorem hid_mono {H H' : Hp} {b : Addr} (s : Same H H') : Same (hid H b) (hid H' b) := fun a o e => by
  by_cases h : a = b
  · subst h; rw [hid_at] at e; cases e
  · rw [hid_ne h] at e ⊢; exact s a o e
theorem hid_none {H : Hp} {b p : Addr} (h : H p = none) : hid H b p = none := by
  by_cases e : p = b
  · subst e; exact hid_at
  · rw [hid_ne e]; exact h
theorem hid_some {H : Hp} {b p : Addr} {o : HO} (h : hid H b p = some o) : p ≠ b ∧ H p = some o := by
  by_cases e : p = b
  · subst e; rw [hid_at] at h; cases h
  · rw [hid_ne e] at h; exact ⟨e, h⟩
/-! data -/
theorem sqt_mono {K : PySem.W.Frag} {H H' : Hp} {a : Addr} {xs : List V} (e : Same H H') (h : SqT K H a xs) : SqT K H' a xs := by
  rcases h with (h | ⟨o, h⟩) | h
  · exact .inl (.inl (e _ _ h))
  · exact .inl (.inr ⟨o, e _ _ h⟩)
  · exact .inr h
mutual
theorem dp_mono {K : PySem.W.Frag} {H H' : Hp} (e : Same H H') : ∀ (d : PyData) (v : V), Dp K H v d → Dp K H' v d
  | .none, _, h => by cases h; exact .non
  | .bool b, _, h => by cases h; exact .bl b
  | .int i, _, h => by cases h; exact .int i
  | .str x, _, h => by cases h; exact .str x
  | .list ds, _, h => by
    cases h with
    | lst hs ha => exact .lst (e.seq hs) (dps_mono e ds _ ha)
  | .tuple ds, _, h => by
    cases h with
    | tup hs ha => exact .tup (sqt_mono e hs) (dps_mono e ds _ ha)
  | .dict _, _, h => by cases h
theorem dps_mono {K : PySem.W.Frag} {H H' : Hp} (e : Same H H') : ∀ (ds : List PyData) (vs : List V), DpAll K H vs ds → DpAll K H' vs ds
  | [], _, h => by cases h; exact .nil
  | d :: ds, _, h => by
    cases h with
    | cons h1 h2 => exact .cons (dp_mono e d _ h1) (dps_mono e ds _ h2)
end
theorem dp_up {K : PySem.W.Frag} {H H' : Hp} {d : PyData} {v : V} (h : Dp K H v d) (e : Same H H') : Dp K H' v d := dp_mono e d v h
theorem dps_up {K : PySem.W.Frag} {H H' : Hp} {ds : List PyData} {vs : List V} (h : DpAll K H vs ds) (e : Same H H') : DpAll K H' vs ds := dps_mono e ds vs h
theorem dps_len {K : PySem.W.Frag} {H : Hp} : ∀ {vs : List V} {ds : List PyData}, DpAll K H vs ds → vs.length = ds.length
  | [], [], _ => rfl
  | [], _ :: _, h => by cases h
  | _ :: _, [], h => by cases h
  | _ :: _, _ :: _, h => by
    cases h with
    | cons _ h2 => exact congrArg (· + 1) (dps_len h2)
theorem dps_get {K : PySem.W.Frag} {H : Hp} : ∀ {vs : List V} {ds : List PyData} {i : Nat} {d : PyData}, DpAll K H vs ds → ds[i]? = some d → ∃ v, vs[i]? = some v ∧ Dp K H v d
  | [], [], _, _, _, e => by simp at e
  | [], _ :: _, _, _, h, _ => by cases h
  | _ :: _, [], _, _, h, _ => by cases h
  | v :: vs, x :: ds, 0, d, h, e => by
    cases h with
    | cons h1 _ => simp at e; subst e; exact ⟨v, rfl, h1⟩
  | v :: vs, x :: ds, i + 1, d, h, e => by
    cases h with
    | cons _ h2 => simpa using dps_get (i := i) h2 (by simpa using e)
theorem dps_get' {K : PySem.W.Frag} {H : Hp} {vs : List V} {ds : List PyData} {i : Nat} {v : V} (h : DpAll K H vs ds) (e : vs[i]? = some v) : ∃ d, ds[i]? = some d ∧ Dp K H v d := by
  have hi : i < vs.length := (List.getElem?_eq_some_iff.mp e).1
  have hd : i < ds.length := by rw [← dps_len h]; exact hi
  obtain ⟨w, e2, q⟩ := dps_get (i := i) h (List.getElem?_eq_getElem hd)
  rw [e] at e2; cases e2
  exact ⟨_, List.getElem?_eq_getElem hd, q⟩
theorem dps_app {K : PySem.W.Frag} {H : Hp} : ∀ {vs ws : List V} {ds es : List PyData}, DpAll K H vs ds → DpAll K H ws es → DpAll K H (vs ++ ws) (ds ++ es)
  | [], _, [], _, _, h => h
  | [], _, _ :: _, _, h, _ => by cases h
  | _ :: _, _, [], _, h, _ => by cases h
  | _ :: _, _, _ :: _, _, h, g => by
    cases h with
    | cons h1 h2 => exact .cons h1 (dps_app h2 g)
theorem dps_ints {K : PySem.W.Frag} {H : Hp} : ∀ ns : List Int, DpAll K H (ns.map V.int) (ns.map PyData.int)
  | [] => .nil
  | n :: ns => .cons (.int n) (dps_ints ns)
theorem dps_ints_inv {K : PySem.W.Frag} {H : Hp} : ∀ {ns : List Int} {vs : List V}, DpAll K H vs (ns.map PyData.int) → vs = ns.map V.int
  | [], [], _ => rfl
  | [], _ :: _, h => by cases h
  | _ :: _, [], h => by cases h
  | n :: ns, v :: vs, h => by
    cases h with
    | cons h1 h2 => cases h1; rw [dps_ints_inv h2]; rfl
/-- a list or a tuple of these -/
inductive SeqD : PyData → List PyData → Prop
  | l (ds : List PyData) : SeqD (.list ds) ds
  | t (ds : List PyData) : SeqD (.tuple ds) ds
def Sq (K : PySem.W.Frag) (H : Hp) (a : Addr) (xs : List V) : Prop := SqL K H a xs ∨ SqT K H a xs
theorem sq_mono {K : PySem.W.Frag} {H H' : Hp} {a : Addr} {xs : List V} (e : Same H H') (h : Sq K H a xs) : Sq K H' a xs := by
  rcases h with h | h
  · exact .inl (e.seq h)
  · exact .inr (sqt_mono e h)
theorem dp_seq {K : PySem.W.Frag} {H : Hp} {v : V} {d : PyData} {ds : List PyData} (h : Dp K H v d) (s : SeqD d ds) : ∃ a xs, v = .ref a ∧ Sq K H a xs ∧ DpAll K H xs ds := by
  cases s with
  | l =>
    cases h with
    | lst hs ha => exact ⟨_, _, rfl, .inl hs, ha⟩
  | t =>
    cases h with
    | tup hs ha => exact ⟨_, _, rfl, .inr hs, ha⟩
theorem dp_intv {K : PySem.W.Frag} {H : Hp} {v : V} {i : Int} (h : Dp K H v (.int i)) : v = .int i := by cases h; rfl
theorem ix_of {K : PySem.W.Frag} {H : Hp} {a : Addr} {xs : List V} {i : Int} {v : V} {Q : VK} (h : Sq K H a xs) (e : atI xs i = some v) (q : Q v H) : rIx K (.ref a) (.int i) H Q := by
  rcases h with h | h
  · exact .inl ⟨a, xs, i, v, rfl, rfl, h, e, q⟩
  · exact .inr (.inl ⟨a, xs, i, v, rfl, rfl, h, e, q⟩)
/-! repr of data -/
@[irreducible] def txt (d : PyData) : Str := d.shown
theorem txt_eq (d : PyData) : txt d = d.shown := by unfold txt; rfl
theorem call_reprD {X : Cx} (hG : X.A.guards = some []) (hu : X.A.units + 70 < cLine) :
    CallR X (.builtin "repr") (fun xs H Q => ∃ (a : Addr) (d : PyData), xs = [.ref a] ∧ Dp X.K H (.ref a) d ∧ d.showable = true ∧ d.hasDict = false ∧ d.depth ≤ 60 ∧ d.shown.length ≤ sizeLine ∧ Q (.str (txt d)) H) := by
  intro pins s σ H xs us Q I r h
  obtain ⟨a, d, rfl, hd, h1, h2, h3, h4, q⟩ := h
  rw [txt_eq] at q
  cases r with
  | cons ra rt =>
    cases rt
    obtain ⟨as, rd⟩ := Dp.reads I d (.ref a) _ hd ra
    cases ra
    exact repr_of_reads' rd h1 (PyData.noDict_hsm h2) hG (by omega) (fun _ _ e => e) (fun h' u tk hk => ⟨.str d.shown, H, I.kept hk, ⟨_, rfl⟩, q⟩) h4
end Af
/-! ### defs that are called where nothing is being shown by repr -/
namespace Af
open PySem PySem.Spec PyProof.Rows L2
structure FnG (P : Program) (w : World) (K : PySem.W.Frag) (mg : Str → Option Value) (base : Heap) (k : Nat) (f : Addr) (fd : FuncData) (ps : List Str) (sp : Sp) : Prop where
  len : ∀ vs H Q E, sp vs H Q E → vs.length = ps.length
  run : ∀ (A : Around) (fr : List Env) (s : Shared) (H : Hp) (ar : Args) (us : List Value) (vs : List V) (Q : VK) (E : XK), A.guards = some [] → Room k A → Env0 P w K mg base A fr s H →
    BindsTo s fd ar (ps.zip us) → Vals vs us → sp vs H Q E → codeAny (model P w) A (.call (.ref f) ar) (CR CX0 fr P w H s Q E) s
theorem FnG.of {P : Program} {w : World} {K : PySem.W.Frag} {mg : Str → Option Value} {base : Heap} {k : Nat} {f : Addr} {fd : FuncData} {ps : List Str} {sp : Sp} (F : FnOk P w K mg base CX0 k f fd ps sp) : FnG P w K mg base k f fd ps sp :=
  ⟨F.len, fun A fr s H ar us vs Q E _ hr he hb hv hs => F.run A fr s H ar us vs Q E hr he hb hv hs⟩
section
variable {P : Program} {w : World} {K : PySem.W.Frag} {mg : Str → Option Value} {base : Heap}
theorem fun_okG {x qual : Str} {st : Stmt} {f : Addr} {fd : FuncData} {N ps : List Str} {k : Nat} {sp : Sp} (F : Fun K x qual st f fd) (S : FnScope N ps (defScope st)) (len : ∀ vs H Q E, sp vs H Q E → vs.length = ps.length)
    (hbody : ∀ (cdv : Value) (A : Around) (fr : List Env) (s : Shared) (H : Hp) (vs : List V) (Q : VK) (E : XK), A.guards = some [] → Room k (A.deeper (envOfC qual (defScope st) s.heap.objs.size f cdv)) → sp vs H Q E →
      ∃ t, PSs (cxOf CX0 P w K mg base N qual (defScope st) f cdv A fr s H E).nox (defBody st) t ∧ t { nx := fun _ H' => Q .non H', rt := Q } (start N vs) H) : FnG P w K mg base (k + 1) f fd ps sp := by
  obtain ⟨oc, od, kV, doc, pm, an, cdv, ct, osl, rfl, lk, hcd⟩ := F.ex
  refine ⟨len, fun A fr s H ar us vs Q E hG hr e0 hb r hsp => ?_⟩
  have n1 := len _ _ _ _ hsp
  have kin : K.In s.heap := e0.mod.kin.keeps fun b o e => (e0.bs b o e).1
  have nol : s.heap.NoLimit := e0.mod.nolimit.keeps fun b o e => (e0.bs b o e).1
  have par : ∀ y ∈ ps.zip us, (defScope st).names.lookup y.1 = some .local ∨ ((defScope st).names.lookup y.1 = some .cell ∧ ((cellsFrom (s.heap.objs.size + 1) (defScope st).names []).lookup y.1).isSome = true) := by
    rintro ⟨nm, vl⟩ hm
    rcases S.par nm (List.of_mem_zip hm).1 with z | z
    · exact .inl z
    · exact .inr ⟨z, PySem.W.cellsFrom_some _ _ _ (.inl z)⟩
  refine codeAny_call_function hr.depth (kin _ _ lk) rfl S.co S.gen rfl (PySem.W.codeRec_of kin hcd) (hb _ _ _ _ ?_)
  refine wpAny_newFunctionEnv_cells S.kind par fun env hE s2 ic => ?_
  subst hE
  refine ⟨nol.keeps ic.toInCall.keep, codeAny_func ?_⟩
  obtain ⟨t, ht, hq⟩ := hbody cdv A fr s H vs Q E hG (hr.deeper _) hsp
  have J0 : Inv (cxOf CX0 P w K mg base N qual (defScope st) f cdv A fr s H E) [] (start N vs) H s2 := inv_start S hr.hd e0 n1 r ic
  refine wpAny_mono (ht.nox.run [] s2 (start N vs) H _ J0 hq) (fun fl s' hs => ?_) fun e s' hs => hs
  cases fl with
  | ret u =>
    obtain ⟨v, σ', H', J, rv, q⟩ := hs
    exact ⟨v, H', J.os, J.bare, J.base, J.hok, rv, q⟩
  | next =>
    obtain ⟨σ', H', J, q⟩ := hs
    exact ⟨V.non, H', J.os, J.bare, J.base, J.hok, rfl, q⟩
  | brk => obtain ⟨_, _, _, q⟩ := hs; exact q.elim
  | cont => obtain ⟨_, _, _, q⟩ := hs; exact q.elim
end
section
variable {X : Cx} {k : Nat} {f : Addr} {fd : FuncData} {ps : List Str} {sp : Sp} {x : Str} {p pos : Pos} {e : Expr} {es : List Expr} {t : TA}
theorem pe_guarded (F : FnG X.prog X.w X.K X.mg X.base k f fd ps sp) (hG : X.A.guards = some []) (hr : Room k X.A) (hg : Gl X x) (hm : X.mg x = some (.ref f)) (hk : PySem.W.keepIn X.K (.ref f) = true) (hb : Binds X.K fd ps [])
    (ha : PA X (e :: es) t) (hdb : (x == ("__debug__" : Str)) = false := by decide) (he : starEach (e :: es) X.env = (false, eval e X.env) :: starEach es X.env := by rfl) (hpl : (backTo pos (starEach es X.env)).any (·.1) = false := by rfl) :
    PE X (.Call (.Name x p) (e :: es) [] pos) (tCall sp [] E0 t) := by
  refine ⟨fun pn s σ H Q I h => wpAny_Call_Name_kw (ld_glob I hg hm ?_ hdb)⟩
  refine PySem.W.callWith_K (h₀ := X.base) I.ok.mod.kin hk (thn (ha.run pos pn s σ H _ I h) fun us s1 ⟨vs, H1, I1, r, q⟩ => ⟨I1.kIn, ?_⟩) he hpl
  have q' : sp (vs ++ []) H1 Q E0 := q
  rw [List.append_nil] at q'
  have n1 : (us ++ ([] : List Value)).length = ps.length := by rw [List.append_nil, ← r.length]; exact F.len _ _ _ _ q'
  have bnd := hb s1 us I1.kIn n1
  rw [List.append_nil] at bnd
  refine wpAny_call (codeAny_mono (F.run X.A X.stack s1 H1 ⟨us, []⟩ us vs Q E0 hG hr I1.env0 bnd r q') fun r s' hq => ?_)
  cases r with
  | error e => exact False.elim hq
  | ok fl =>
    cases fl with
    | ret u => exact I1.after hq
    | next => exact hq.elim
    | brk => exact hq.elim
    | cont => exact hq.elim
end
/-- the law's own call, where its def wants no guard -/
theorem law_callG {P : Program} {w : World} {K : PySem.W.Frag} {mg mb : Str → Option Value} {k : Nat} {fa a : Addr} {fd : FuncData} {x : Str} {sp : Sp} {s1 : Shared} {vs : List Value} {ns : List Int}
    (KX : K.In s1.heap) (hns : s1.heap.Ns mainGlobals mg) (hb : s1.heap.Ns builtinsNs mb) (hbb : ∀ x : Str, x ≠ "__name__" → mb x = bootBuiltins x) (hlim : s1.heap.NoLimit) (hg : s1.gens = #[])
    (ha : s1.heap.get? a = some { cls := .type "list", data := .seq vs.toArray }) (hi : IntsAre vs ns) (hl : ns.length ≤ sizeLine) (hr : Room k callerA)
    (F : ∀ base : Heap, K.In base → base.Ns mainGlobals mg → FnG P w K mg base k fa fd [x] sp) (hbind : ∀ (s : Shared) (u : Value), BindsTo s fd ⟨[u], []⟩ [(x, u)])
    (hsp : ∀ H : Hp, Only H → SqL K H a (ns.map V.int) → sp [.ref a] H (fun v _ => v = .bl true) fun _ _ _ => False) :
    codeAny (model P w) callerA (.call (.ref fa) ⟨[.ref a], []⟩) (fun r s' => r = .ok (.ret (.bool true)) ∧ OldK s1.heap s'.heap ∧ s'.os = s1.os ∧ AllBare s'.gens) s1 := by
  have rv := vals_ints hi
  have ln := hi.length
  have main : ∀ H : Hp, Only H → SqL K H a (ns.map V.int) → HOk P w H s1.heap → (∀ b, H b ≠ none → b = a) → (H a ≠ none → K.lookup a = none) →
      codeAny (model P w) callerA (.call (.ref fa) ⟨[.ref a], []⟩) (fun r s' => r = .ok (.ret (.bool true)) ∧ OldK s1.heap s'.heap ∧ s'.os = s1.os ∧ AllBare s'.gens) s1 := by
    intro H hO hS hok hA hK
    have nodict : ∀ {b : Addr} {o : Obj} {es : Array DictEntry} {ep : Nat}, s1.heap.get? b = some o → o.data = .dict es ep → H b = none := by
      intro b o es ep e d
      cases q : H b with
      | none => rfl
      | some u =>
        obtain rfl : b = a := hA b (by rw [q]; simp)
        rw [ha] at e; cases e
        exact absurd (show Data.seq vs.toArray _ = Data.dict es ep from d) (fun z => by cases z)
    have ns2 : ∀ {b : Addr} {m : Str → Option Value}, s1.heap.Ns b m → (hidT s1.heap H).Ns b m := by
      rintro b m ⟨o, es, ep, e, d, r⟩
      exact ⟨o, es, ep, hidT_get e (nodict e d), d, r⟩
    have kb : K.In (hidT s1.heap H) := fun b o e => hidT_get (KX b o e) (by
      cases q : H b with
      | none => rfl
      | some u =>
        obtain rfl : b = a := hA b (by rw [q]; simp)
        have z := hK (by rw [q]; simp)
        rw [z] at e; cases e)
    have md : Mod K mg (hidT s1.heap H) := ⟨kb, ns2 hns, ⟨mb, ns2 hb, hbb⟩, let ⟨mc, g1, g2⟩ := hlim; ⟨mc, ns2 g1, g2⟩⟩
    have ev : Env0 P w K mg (hidT s1.heap H) callerA [] s1 H :=
      ⟨rfl, md, fun b o e => of_hidT e, Nat.le_of_eq (hidT_size _ _), trivial, fun b z => absurd (show b ∈ ([] : List Addr) from z) (by simp), hok, .of_eq hg⟩
    have G := F _ kb (ns2 hns)
    refine codeAny_mono (G.run callerA [] s1 H ⟨[.ref a], []⟩ [.ref a] [.ref a] _ _ rfl hr ev (hbind s1 (.ref a)) (.cons rfl .nil) (hsp H hO hS)) fun r s' h => ?_
    cases r with
    | error e => exact False.elim h
    | ok fl =>
      cases fl with
      | next => exact h.elim
      | brk => exact h.elim
      | cont => exact h.elim
      | ret u =>
        obtain ⟨v, H', os, bare, un, hok', r', q⟩ := h
        obtain rfl : v = .bl true := q
        obtain rfl : u = Value.bool true := r'
        refine ⟨rfl, OldK.of_keep fun b o e => ?_, os, bare⟩
        cases q : H b with
        | none => exact un.keep b o e q (fun z => absurd (show b ∈ ([] : List Addr) from z) (by simp)) (by simp)
        | some u =>
          rcases hO b with z | ⟨ob, xs, z⟩
          · rw [q] at z; cases z
          · obtain ⟨e1, _⟩ := hok b _ z
            obtain ⟨e2, _⟩ := hok' b _ (un.frzs b ob _ z)
            rw [e] at e1; cases e1
            exact e2
  cases hk : K.lookup a with
  | some o =>
    have e := KX a o hk
    rw [ha] at e
    cases e
    exact main (fun _ => none) (fun _ => .inl rfl) (.inr ⟨_, vs.toArray, _, hk, rfl, rfl, rfl, by rw [List.size_toArray, ln]; exact hl, by simpa using rv⟩)
      (fun b u z => nomatch (show (none : Option HO) = some u from z)) (fun b z => absurd rfl z) fun z => absurd rfl z
  | none =>
    have hh : ∀ b : Addr, (if b = a then some (HO.frz { cls := .type "list", data := .seq vs.toArray } (.lst (ns.map V.int))) else none) ≠ none → b = a := fun b z => by
      by_cases hb : b = a
      · exact hb
      · rw [if_neg hb] at z; exact absurd rfl z
    refine main (fun b => if b = a then some (.frz { cls := .type "list", data := .seq vs.toArray } (.lst (ns.map V.int))) else none) (fun b => ?_) (.inl (.inr ⟨_, if_pos rfl⟩)) (fun b u z => ?_) hh fun _ => hk
    · by_cases hb : b = a
      · exact .inr ⟨_, _, if_pos hb⟩
      · exact .inl (if_neg hb)
    · have z' : (if b = a then some (HO.frz { cls := .type "list", data := .seq vs.toArray } (.lst (ns.map V.int))) else none) = some u := z
      have hb : b = a := hh b (by rw [z']; simp)
      subst hb
      rw [if_pos rfl] at z'
      cases z'
      exact ⟨ha, by rw [List.length_map]; exact hl, vs, _, rv, ha⟩
theorem walk_ofG {l : PySem.W.OpenLaw} {n k : Nat} {q : Program} {loose : List Str} {XP : (Str → Option Value) → Heap → Prop} {YP : World → Heap → Prop} {d : DefRec} {K : Params → PySem.W.Frag} {sp : PySem.W.Frag → Sp} {x : Str}
    (hn : l.most = some n) (hn2 : n ≤ sizeLine) (hdf : d.params.defaults = []) (hr : Room k callerA)
    (hY : ∀ (w : World) (h : Heap), YP w h → (K w.params).In h)
    (F : ∀ (w : World) (mg : Str → Option Value) (fa : Addr) (h : Heap), (K w.params).In h → h.Ns mainGlobals mg → mg d.name = some (.ref fa) →
      ∃ fd : FuncData, (∀ (s : Shared) (u : Value), BindsTo s fd ⟨[u], []⟩ [(x, u)]) ∧
        ∀ base : Heap, (K w.params).In base → base.Ns mainGlobals mg → FnG l.prog w (K w.params) mg base k fa fd [x] (sp (K w.params)))
    (hsp : ∀ (K : PySem.W.Frag) (H : Hp) (a : Addr) (ns : List Int), ns.length ≤ n → Only H → SqL K H a (ns.map V.int) → sp K [.ref a] H (fun v _ => v = .bl true) fun _ _ _ => False) :
    PySem.W.WalkO q loose XP YP l.row.toRowW d [] (fun f vs => PySem.call f vs) := by
  refine Att.attach_call hn hdf fun w s0 s1 mg mb fa o pm cd doc a vs ns G Y ho hd hcd hmg hobj hints hlen hg => ?_
  obtain ⟨fd, hb, hF⟩ := F w mg fa _ (hY w _ Y) G.T.g hmg
  exact law_callG (hY w _ Y) G.T.g G.T.b G.T.builtins G.T.nolimit hg hobj hints (Nat.le_trans hlen hn2) hr hF hb fun H hO hS => hsp (K w.params) H a ns hlen hO hS
end Af
/-! ### books, standings as data -/
namespace Af
open PySem PySem.Spec PyProof.Rows L2
def RowD (d : PyData) (ns : List Int) : Prop := SeqD d (ns.map PyData.int)
inductive RowsD : List PyData → List (List Int) → Prop
  | nil : RowsD [] []
  | cons {d : PyData} {ds : List PyData} {ns : List Int} {B : List (List Int)} : RowD d ns → RowsD ds B → RowsD (d :: ds) (ns :: B)
def BookD (d : PyData) (B : List (List Int)) : Prop := ∃ ds, SeqD d ds ∧ RowsD ds B
def rowT (ns : List Int) : PyData := .tuple (ns.map PyData.int)
def rowL (ns : List Int) : PyData := .list (ns.map PyData.int)
def bookT (B : List (List Int)) : PyData := .tuple (B.map rowT)
def bookL (B : List (List Int)) : PyData := .list (B.map rowL)
theorem rowT_row (ns : List Int) : RowD (rowT ns) ns := .t _
theorem rowL_row (ns : List Int) : RowD (rowL ns) ns := .l _
theorem rowsT : ∀ B : List (List Int), RowsD (B.map rowT) B
  | [] => .nil
  | r :: B => .cons (rowT_row r) (rowsT B)
theorem rowsL : ∀ B : List (List Int), RowsD (B.map rowL) B
  | [] => .nil
  | r :: B => .cons (rowL_row r) (rowsL B)
theorem bookT_book (B : List (List Int)) : BookD (bookT B) B := ⟨_, .t _, rowsT B⟩
theorem bookL_book (B : List (List Int)) : BookD (bookL B) B := ⟨_, .l _, rowsL B⟩
theorem rows_len : ∀ {ds : List PyData} {B : List (List Int)}, RowsD ds B → ds.length = B.length
  | [], [], _ => rfl
  | [], _ :: _, h => by cases h
  | _ :: _, [], h => by cases h
  | _ :: _, _ :: _, h => by
    cases h with
    | cons _ h => exact congrArg (· + 1) (rows_len h)
theorem rows_get : ∀ {ds : List PyData} {B : List (List Int)} {i : Nat} {ns : List Int}, RowsD ds B → B[i]? = some ns → ∃ d, ds[i]? = some d ∧ RowD d ns
  | [], [], _, _, _, e => by simp at e
  | [], _ :: _, _, _, h, _ => by cases h
  | _ :: _, [], _, _, h, _ => by cases h
  | d :: ds, r :: B, 0, ns, h, e => by
    cases h with
    | cons h1 _ => simp at e; subst e; exact ⟨d, rfl, h1⟩
  | d :: ds, r :: B, i + 1, ns, h, e => by
    cases h with
    | cons _ h2 => simpa using rows_get (i := i) h2 (by simpa using e)
section
variable {K : PySem.W.Frag} {H : Hp}
theorem row_at {v : V} {d : PyData} {ns : List Int} (h : Dp K H v d) (r : RowD d ns) : ∃ a, v = .ref a ∧ Sq K H a (ns.map V.int) := by
  obtain ⟨a, xs, rfl, hs, ha⟩ := dp_seq h r
  rw [dps_ints_inv ha] at hs
  exact ⟨a, rfl, hs⟩
theorem book_len {v : V} {d : PyData} {B : List (List Int)} (h : Dp K H v d) (r : BookD d B) : ∃ a xs, v = .ref a ∧ Sq K H a xs ∧ xs.length = B.length := by
  obtain ⟨ds, s, rs⟩ := r
  obtain ⟨a, xs, rfl, hs, ha⟩ := dp_seq h s
  exact ⟨a, xs, rfl, hs, (dps_len ha).trans (rows_len rs)⟩
theorem book_row {v : V} {d : PyData} {B : List (List Int)} {i : Nat} {ns : List Int} (h : Dp K H v d) (r : BookD d B) (e : B[i]? = some ns) :
    ∃ a xs ra, v = .ref a ∧ Sq K H a xs ∧ xs[i]? = some (.ref ra) ∧ Sq K H ra (ns.map V.int) := by
  obtain ⟨ds, s, rs⟩ := r
  obtain ⟨a, xs, rfl, hs, ha⟩ := dp_seq h s
  obtain ⟨dr, e1, r1⟩ := rows_get rs e
  obtain ⟨x, e2, h2⟩ := dps_get ha e1
  obtain ⟨ra, rfl, h3⟩ := row_at h2 r1
  exact ⟨a, xs, ra, rfl, hs, e2, h3⟩
end
/-- the length of climber c's ladder -/
def lenS (B : List (List Int)) (R : List Int) (c : Nat) : Option Int := (B[c + 1]?).bind fun row => (R[c]?).bind fun r => if 1 ≤ r then row[(r - 1).toNat]? else none
def lenAt (B : List (List Int)) (R : List Int) : Nat → Option Int
  | 0 => (B[0]?).bind fun row => row[0]?
  | c + 1 => lenS B R c
theorem lenAt_zero {B : List (List Int)} {R : List Int} {n : Int} (h : lenAt B R 0 = some n) : ∃ row, B[0]? = some row ∧ row[0]? = some n := by
  have h : ((B[0]?).bind fun row => row[0]?) = some n := h
  cases e : B[0]? with
  | none => rw [e] at h; cases h
  | some row => rw [e] at h; exact ⟨row, rfl, h⟩
theorem lenAt_succ {B : List (List Int)} {R : List Int} {c : Nat} {n : Int} (h : lenAt B R (c + 1) = some n) : ∃ row r, B[c + 1]? = some row ∧ R[c]? = some r ∧ 1 ≤ r ∧ row[(r - 1).toNat]? = some n := by
  have h : lenS B R c = some n := h
  unfold lenS at h
  cases e : B[c + 1]? with
  | none => rw [e] at h; cases h
  | some row =>
    rw [e] at h
    cases e2 : R[c]? with
    | none => rw [e2] at h; cases h
    | some r =>
      rw [e2] at h
      have h' : (if 1 ≤ r then row[(r - 1).toNat]? else none) = some n := h
      by_cases h1 : 1 ≤ r
      · rw [if_pos h1] at h'; exact ⟨row, r, rfl, rfl, h1, h'⟩
      · rw [if_neg h1] at h'; cases h'
theorem lenAt_mk {B : List (List Int)} {R : List Int} {c : Nat} {row : List Int} {r n : Int} (e1 : B[c + 1]? = some row) (e2 : R[c]? = some r) (h1 : 1 ≤ r) (e3 : row[(r - 1).toNat]? = some n) : lenAt B R (c + 1) = some n := by
  show lenS B R c = some n
  unfold lenS
  rw [e1, e2]
  show (if 1 ≤ r then row[(r - 1).toNat]? else none) = some n
  rw [if_pos h1]; exact e3
/-- it hangs on the rungs of the older ones alone -/
theorem lenAt_pre {B : List (List Int)} {R S : List Int} {c : Nat} (h : ∀ i, i < c → R[i]? = S[i]?) : lenAt B R c = lenAt B S c := by
  cases c with
  | zero => rfl
  | succ c =>
    show lenS B R c = lenS B S c
    unfold lenS; rw [h c (Nat.lt_succ_self c)]
/-! a box of the draws -/
def Box (H : Hp) (bx : Addr) (m : Nat) : Prop := ∃ a b c : Int, H bx = some (.lst [.int a, .int b, .int c]) ∧ 0 ≤ a ∧ 0 ≤ b ∧ b < 2 ^ 62 ∧ 0 ≤ c ∧ c ≤ m
theorem Box.le {H : Hp} {bx : Addr} {m n : Nat} (h : Box H bx m) (e : m ≤ n) : Box H bx n := by
  obtain ⟨a, b, c, h1, h2, h3, h4, h5, h6⟩ := h
  exact ⟨a, b, c, h1, h2, h3, h4, h5, by omega⟩
theorem Box.new {H : Hp} {bx p : Addr} {m : Nat} {o : HO} (h : Box H bx m) (np : H p = none) : Box (upd H p o) bx m := by
  obtain ⟨a, b, c, h1, h2⟩ := h
  exact ⟨a, b, c, by rw [upd_ne (ne_of_none h1 np)]; exact h1, h2⟩
theorem Box.up {H H' : Hp} {bx : Addr} {m : Nat} (h : Box H bx m) (s : Same H H') : Box H' bx m := by
  obtain ⟨a, b, c, h1, h2⟩ := h
  exact ⟨a, b, c, s _ _ h1, h2⟩
theorem Box.ne {H : Hp} {bx p : Addr} {m : Nat} (h : Box H bx m) (np : H p = none) : p ≠ bx := by
  obtain ⟨a, b, c, h1, _⟩ := h
  exact (ne_of_none h1 np).symm
theorem Box.neT {H : Hp} {bx p : Addr} {m : Nat} {xs : List V} (h : Box H bx m) (np : H p = some (.tup xs)) : p ≠ bx := by
  obtain ⟨a, b, c, h1, _⟩ := h
  intro e; subst e; rw [np] at h1; cases h1
/-! max of a tuple of ints -/
theorem depth_ints : ∀ ns : List Int, PyData.depthAll (ns.map PyData.int) = 0
  | [] => by simp [PyData.depthAll]
  | n :: ns => by simp [PyData.depthAll, PyData.depth, depth_ints ns]
theorem cr_maxT {X : Cx} (hc : X.calm = true) (hu : X.A.units + 64 < cLine) :
    CallR X (.builtin "max") (fun vs H Q => ∃ (a : Addr) (n : Int) (ns : List Int), vs = [.ref a] ∧ SqT X.K H a ((n :: ns).map V.int) ∧ Q (.int (ns.foldl max n)) H) := by
  intro pins s σ H vs us Q I r h
  obtain ⟨a, n, ns, rfl, hs, q⟩ := h
  obtain ⟨its, rv, ⟨o, ho, hc2, nn, hd⟩, _⟩ := I.tuple hs
  obtain ⟨as, rs⟩ := Dp.readsAll I ((n :: ns).map PyData.int) _ its (dps_ints (n :: ns)) rv
  rw [Vals.ref1 r]
  refine PySem.W.max_tuple_data (x := .int n) (xs := ns.map PyData.int) (vs := its.toArray) (I.ok.hd hc) ⟨o, ho, hc2, nn, hd⟩ (by simpa using rs) ?_ ?_ fun i v h' tk bs hi rr hk => ?_
  · refine ⟨fun x hx y hy => ?_, fun x hx => ?_⟩
    · obtain ⟨i, _, rfl⟩ := List.mem_map.mp (show x ∈ (n :: ns).map PyData.int from hx)
      obtain ⟨j, _, rfl⟩ := List.mem_map.mp (show y ∈ (n :: ns).map PyData.int from hy)
      simp only [PySem.W.alike]
    · obtain ⟨i, _, rfl⟩ := List.mem_map.mp (show x ∈ (n :: ns).map PyData.int from hx)
      exact fun z => by cases z
  · have e : PyData.depthAll ((n :: ns).map PyData.int) = 0 := depth_ints _
    have e2 : PyData.depthAll (.int n :: ns.map PyData.int) = 0 := e
    rw [e2]; omega
  · rw [PySem.W.maxD_ints] at rr
    cases rr
    exact ⟨.int _, H, I.kept hk, ⟨_, rfl⟩, q⟩
end Af
/-! ### built-in names, defs, calls -/
namespace Af
open PySem PySem.Spec PyProof.Rows L2
/-- the built-in names are still the built-in ones -/
structure Bl (mg : Str → Option Value) : Prop where
  len : mg "len" = none
  abs : mg "abs" = none
  int : mg "int" = none
  bool : mg "bool" = none
  str : mg "str" = none
  range : mg "range" = none
  list : mg "list" = none
  tuple : mg "tuple" = none
  isi : mg "isinstance" = none
  all : mg "all" = none
  zip : mg "zip" = none
  enum : mg "enumerate" = none
  max : mg "max" = none
  repr : mg "repr" = none
/-- a def of the top: where it stands, how it is bound -/
structure Df (K : PySem.W.Frag) (mg : Str → Option Value) (x : Str) (st : Stmt) (ps : List Str) (f : Addr) (fd : FuncData) : Prop where
  F : Fun K x x st f fd
  b : Binds K fd ps []
  g : mg x = some (.ref f)
section
variable {X : Cx} {k : Nat} {f : Addr} {fd : FuncData} {ps ks : List Str} {sp : Sp} {x : Str} {st : Stmt} {p pos : Pos} {e : Expr} {es : List Expr} {kws : List Keyword} {t tk : TA}
theorem pe_do (D : Df X.K X.mg x st ps f fd) (G : FnOk X.prog X.w X.K X.mg X.base CX0 k f fd ps sp) (hr : Room k X.A) (hg : Gl X x) (ha : PA X (e :: es) t) (hdb : (x == ("__debug__" : Str)) = false := by decide)
    (he : starEach (e :: es) X.env = (false, eval e X.env) :: starEach es X.env := by rfl) (hpl : (backTo pos (starEach es X.env)).any (·.1) = false := by rfl) : PE X (.Call (.Name x p) (e :: es) [] pos) (tCall sp [] E0 t) :=
  pe_call G hr hg D.g D.F.kp D.b .nil pass0 ha hdb he hpl
theorem pe_do0 (D : Df X.K X.mg x st ps f fd) (G : FnOk X.prog X.w X.K X.mg X.base CX0 k f fd ps sp) (hr : Room k X.A) (hg : Gl X x) (hdb : (x == ("__debug__" : Str)) = false := by decide) : PE X (.Call (.Name x p) [] [] pos) (tCall sp [] E0 tNil) :=
  pe_call0 G hr hg D.g D.F.kp D.b .nil pass0 hdb
/-- keywords alone, in the parameters' order turned round -/
def gR (us ws : List Value) : List Value := if us.isEmpty then ws.reverse else []
def gVR (us ws : List V) : List V := if us.isEmpty then ws.reverse else []
theorem vals_rev : ∀ {zs : List V} {ws : List Value}, Vals zs ws → Vals zs.reverse ws.reverse
  | _, _, .nil => .nil
  | _, _, .cons r t => by
    rw [List.reverse_cons, List.reverse_cons]
    exact (vals_rev t).append (.cons r .nil)
theorem kbinds {K : PySem.W.Frag} (F : Fun K x x st f fd) (hp : ps ≠ [])
    (h : ∀ (kV doc pm : Value) (an : Option Addr) (cdv ct : Value) (ws : List Value), ws.length = ps.length → bindArgs (PySem.W.fnOf x x (defArgs st) (defBody st) (defScope st) .none kV doc pm an cdv ct) ⟨[], ks.zip ws⟩ = pure (ps.zip ws.reverse)) : KBinds K fd ps ks gR gVR := by
  obtain ⟨oc, od, kV, doc, pm, an, cdv, ct, osl, rfl, lk, hcd⟩ := F.ex
  refine ⟨fun s us ws _ hl => ?_, fun {vs us zs ws} r1 r2 => ?_⟩
  · cases us with
    | nil =>
      have hl' : ws.length = ps.length := by
        have z : ws.reverse.length = ps.length := hl
        rw [List.length_reverse] at z; exact z
      exact .of_eq (h kV doc pm an cdv ct ws hl')
    | cons u us =>
      have z : ([] : List Value).length = ps.length := hl
      exact absurd (List.eq_nil_of_length_eq_zero z.symm) hp
  · cases r1 with
    | nil => exact vals_rev r2
    | cons _ _ => exact .nil
theorem pe_kw (D : Df X.K X.mg x st ps f fd) (G : FnOk X.prog X.w X.K X.mg X.base CX0 k f fd ps sp) (hr : Room k X.A) (hg : Gl X x) (hb : KBinds X.K fd ps ks gR gVR) (hkw : PK X kws tk)
    (hall : (backToKw pos (keywordEach kws X.env)).all (·.1.isSome) = true := by rfl) (hks : (backToKw pos (keywordEach kws X.env)).filterMap (·.1) = ks := by rfl) (hdb : (x == ("__debug__" : Str)) = false := by decide)
    (hpl : ((backTo pos (starEach [] X.env)).any (·.1) || (backToKw pos (keywordEach kws X.env)).any (·.1.isNone)) = false := by rfl) : PE X (.Call (.Name x p) [] kws pos) (tCallK sp gVR E0 tNil tk) := by
  refine ⟨fun pins s σ H Q I h => wpAny_Call_Name_kw (ld_glob I hg D.g ?_ hdb)⟩
  refine PySem.W.callWith_KW0 (h₀ := X.base) I.ok.mod.kin D.F.kp hall (thn (hkw.run pos pins s σ H _ I h) fun ws s2 ⟨zs, H2, I2, rz, q2⟩ => ⟨I2.kIn, ?_⟩) hpl
  rw [hks]
  exact run_fnk (us := []) (vs := []) G hr hb pass0 I2 .nil rz q2
end
theorem bLen : bootBuiltins "len" = some (.builtin "len") := by decide +kernel
theorem bAbs : bootBuiltins "abs" = some (.builtin "abs") := by decide +kernel
theorem bInt : bootBuiltins "int" = some (.type "int") := by decide +kernel
theorem bStr : bootBuiltins "str" = some (.type "str") := by decide +kernel
theorem bBool : bootBuiltins "bool" = some (.type "bool") := by decide +kernel
theorem bList : bootBuiltins "list" = some (.type "list") := by decide +kernel
theorem bTuple : bootBuiltins "tuple" = some (.type "tuple") := by decide +kernel
theorem bIsi : bootBuiltins "isinstance" = some (.builtin "isinstance") := by decide +kernel
theorem bAll : bootBuiltins "all" = some (.builtin "all") := by decide +kernel
theorem bMax : bootBuiltins "max" = some (.builtin "max") := by decide +kernel
theorem bRepr : bootBuiltins "repr" = some (.builtin "repr") := by decide +kernel
end Af
/-! ### isinstance, sizes of data -/
namespace Af
open PySem PySem.Spec PyProof.Rows L2
def tyN : PyData → String
  | .none => "NoneType"
  | .bool _ => "bool"
  | .int _ => "int"
  | .str _ => "str"
  | .list _ => "list"
  | .tuple _ => "tuple"
  | .dict _ => "dict"
section
variable {K : PySem.W.Frag} {H : Hp}
theorem tyx_list {a : Addr} {xs : List V} (h : SqL K H a xs) : TyX K H (.ref a) (.type "list") := by
  rcases h with (h | ⟨o, h⟩) | ⟨o, _, _, h, c, _⟩
  · exact .base (.lst h)
  · exact .base (.frz h)
  · exact .kList h c
theorem tyx_tup {a : Addr} {xs : List V} (h : SqT K H a xs) : TyX K H (.ref a) (.type "tuple") := by
  rcases h with (h | ⟨o, h⟩) | ⟨o, _, _, h, c, _⟩
  · exact .base (.tup h)
  · exact .fTuple h
  · exact .kTuple h c
theorem tyx_of {v : V} {d : PyData} (h : Dp K H v d) : TyX K H v (.type (tyN d)) := by
  cases h with
  | non => exact .base .non
  | bl b => exact .base (.bl b)
  | int i => exact .base (.int i)
  | str x => exact .base (.str x)
  | lst h _ => exact tyx_list h
  | tup h _ => exact tyx_tup h
theorem kit2 {a b1 b2 : String} {r1 r2 : Bool} (h1 : kitB a b1 = some r1) (h2 : kitB a b2 = some r2) : PySem.W.kitAny K (.type a) [.type b1, .type b2] = some (r1 || r2) := by
  refine kitAny_cons (kit_ty h1) (fun e => kitAny_cons (kit_ty h2) (fun e2 => ?_) fun e2 => ?_) fun e => ?_
  · rw [e, e2]; exact kitAny_nil
  · rw [e, e2]; rfl
  · rw [e]; rfl
end
/-- isinstance of data against a built-in class of the six -/
def isD (d : PyData) (T : String) : Bool := (tyN d == T) || (tyN d == "bool" && T == "int")
def six : List String := ["NoneType", "bool", "int", "str", "list", "tuple"]
theorem kit_six : ∀ a ∈ six, ∀ b ∈ ["bool", "int", "str", "list", "tuple"], kitB a b = some ((a == b) || (a == "bool" && b == "int")) := by decide +kernel
theorem tyN_six {K : PySem.W.Frag} {H : Hp} {v : V} {d : PyData} (h : Dp K H v d) : tyN d ∈ six := by
  cases h <;> simp [tyN, six]
theorem kit_is {K : PySem.W.Frag} {H : Hp} {v : V} {d : PyData} {T : String} (h : Dp K H v d) (hT : T ∈ ["bool", "int", "str", "list", "tuple"]) : kitB (tyN d) T = some (isD d T) := kit_six _ (tyN_six h) T hT
def five : List String := ["bool", "int", "str", "list", "tuple"]
theorem call_isD {X : Cx} : CallR X (.builtin "isinstance") (fun xs H Q => ∃ (v : V) (c : String) (d : PyData), xs = [v, .ty c] ∧ c ∈ five ∧ Dp X.K H v d ∧ Q (.bl (isD d c)) H) := by
  intro pins s σ H xs us Q I r h
  obtain ⟨v, c, d, rfl, hc, hd, q⟩ := h
  exact call_isi pins s σ H _ us Q I r ⟨v, .ty c, _, _, _, rfl, .ty c, tyx_of hd, kit_ty (kit_is hd hc), q⟩
theorem call_isD2 {X : Cx} : CallR X (.builtin "isinstance") (fun xs H Q => ∃ (v : V) (tp : Addr) (c1 c2 : String) (d : PyData), xs = [v, .ref tp] ∧ H tp = some (.tup [.ty c1, .ty c2]) ∧ c1 ∈ five ∧ c2 ∈ five ∧ Dp X.K H v d ∧ Q (.bl (isD d c1 || isD d c2)) H) := by
  intro pins s σ H xs us Q I r h
  obtain ⟨v, tp, c1, c2, d, rfl, ht, h1, h2, hd, q⟩ := h
  exact call_isiT pins s σ H _ us Q I r ⟨v, tp, _, _, _, _, rfl, ht, .cons (.ty c1) (.cons (.ty c2) .nil), tyx_of hd, kit2 (kit_is hd h1) (kit_is hd h2), q⟩
/-- sizes -/
theorem bulk_len : ∀ ds : List PyData, ds.length ≤ PyData.bulkAll ds
  | [] => by simp
  | d :: ds => by have := bulk_len ds; simp only [PyData.bulkAll, List.length_cons]; omega
theorem bulk_mem : ∀ {ds : List PyData} {d : PyData}, d ∈ ds → d.bulk + 1 ≤ PyData.bulkAll ds
  | [], _, h => by cases h
  | x :: ds, d, h => by
    simp only [PyData.bulkAll]
    rcases List.mem_cons.mp h with rfl | h
    · omega
    · have := bulk_mem h; omega
theorem depth_mem : ∀ {ds : List PyData} {d : PyData}, d ∈ ds → d.depth ≤ PyData.depthAll ds
  | [], _, h => by cases h
  | x :: ds, d, h => by
    simp only [PyData.depthAll]
    rcases List.mem_cons.mp h with rfl | h
    · omega
    · have := depth_mem h; omega
end Af
/-! ### a list or a tuple, walked; what is new -/
namespace Af
open PySem PySem.Spec PyProof.Rows L2
def SqB (K : PySem.W.Frag) : Bool → Hp → Addr → List V → Prop
  | true, H, a, xs => SqL K H a xs
  | false, H, a, xs => SqT K H a xs
theorem SqB.up {K : PySem.W.Frag} {H H' : Hp} {a : Addr} {xs : List V} {b : Bool} (h : SqB K b H a xs) (s : Same H H') : SqB K b H' a xs := by
  cases b with
  | true => exact s.seq h
  | false => exact sqt_mono s h
theorem SqB.sq {K : PySem.W.Frag} {H : Hp} {a : Addr} {xs : List V} {b : Bool} (h : SqB K b H a xs) : Sq K H a xs := by
  cases b with
  | true => exact .inl h
  | false => exact .inr h
theorem Sq.kind {K : PySem.W.Frag} {H : Hp} {a : Addr} {xs : List V} (h : Sq K H a xs) : ∃ b, SqB K b H a xs := by
  rcases h with h | h
  · exact ⟨true, h⟩
  · exact ⟨false, h⟩
def iSeq (K : PySem.W.Frag) (tl : TE) : TI := fun σ H R => tl σ H fun x H1 => ∃ (a : Addr) (xs : List V) (b : Bool), x = .ref a ∧ SqB K b H1 a xs ∧ ∀ J, Walk J xs.length (fun H => SqB K b H a xs) (YAt xs) → R J H1
theorem pi_seq {X : Cx} {tg l : Expr} {tl : TE} (hl : PE X l tl) : PI X tg l (iSeq X.K tl) := by
  refine ⟨fun pins s σ H R I h => thn (hl.run pins s σ H _ I h) fun v s1 ⟨x, H1, I1, r1, q1⟩ => ?_⟩
  obtain ⟨a, xs, b, rfl, hq, q⟩ := q1
  cases r1
  have fr : ∀ c ∈ [s1.heap.objs.size], FpOk X pins H1 c := fun c hc => by
    obtain rfl : c = s1.heap.objs.size := by simpa using hc
    exact I1.fpOk (Nat.le_refl _) (I1.hok.fresh (Nat.le_refl _))
  cases b with
  | true =>
    obtain ⟨its, rv, pl, _⟩ := I1.list (show SqL X.K H1 a xs from hq)
    exact wpAny_pyIter_list pl.isList ⟨s1.heap.objs.size, [s1.heap.objs.size], _, _, H1, rfl, I1.kept (t' := s1.toks) fun b o e => Heap.get?_push_of_some _ e, turn_list a _, ⟨_, Heap.get?_push_size _ rfl, rfl, rfl⟩, fr, q _ walk_list⟩
  | false =>
    obtain ⟨its, rv, pl, _⟩ := I1.tuple (show SqT X.K H1 a xs from hq)
    exact wpAny_pyIter_tuple (show s1.heap.IsTuple a its.toArray from pl) ⟨s1.heap.objs.size, [s1.heap.objs.size], _, _, H1, rfl, I1.kept (t' := s1.toks) fun b o e => Heap.get?_push_of_some _ e, turn_tuple a _, ⟨_, Heap.get?_push_size _ rfl, rfl, rfl⟩, fr, q _ walk_tup⟩
/-- what was laid since H -/
def fresh (H H' : Hp) : Hp := fun a => match H a with
  | none => H' a
  | some _ => none
theorem fresh_at {H H' : Hp} {a : Addr} (h : H a = none) : fresh H H' a = H' a := by unfold fresh; rw [h]
theorem fresh_inv {H H' : Hp} {a : Addr} {o : HO} (h : fresh H H' a = some o) : H a = none ∧ H' a = some o := by
  unfold fresh at h
  cases e : H a with
  | none => rw [e] at h; exact ⟨rfl, h⟩
  | some x => rw [e] at h; cases h
theorem fresh_le {H H' : Hp} : Same (fresh H H') H' := fun a o e => (fresh_inv e).2
theorem fresh_up {H H1 H2 : Hp} (s : Same H1 H2) : Same (fresh H H1) (fresh H H2) := fun a o e => by
  obtain ⟨h1, h2⟩ := fresh_inv e
  rw [fresh_at h1]; exact s _ _ h2
theorem fresh_down {H0 H H1 : Hp} (s : Same H0 H) : Same (fresh H H1) (fresh H0 H1) := fun a o e => by
  obtain ⟨h1, h2⟩ := fresh_inv e
  rw [fresh_at (s.free h1)]; exact h2
theorem fresh_hid {H H' : Hp} {z : Addr} (hz : H z ≠ none) : Same (fresh H H') (hid H' z) := fun a o e => by
  obtain ⟨h1, h2⟩ := fresh_inv e
  rw [hid_ne (fun q => hz (by rw [← q]; exact h1))]; exact h2
/-- data that was made since H -/
def NewD (K : PySem.W.Frag) (H H' : Hp) (v : V) (d : PyData) : Prop := Dp K (fresh H H') v d
def NewDs (K : PySem.W.Frag) (H H' : Hp) (vs : List V) (ds : List PyData) : Prop := DpAll K (fresh H H') vs ds
section
variable {K : PySem.W.Frag} {H0 H H1 H2 : Hp} {v : V} {d : PyData} {vs : List V} {ds : List PyData}
theorem NewD.up (h : NewD K H H1 v d) (s : Same H1 H2) : NewD K H H2 v d := dp_up h (fresh_up s)
theorem NewD.down (h : NewD K H H1 v d) (s : Same H0 H) : NewD K H0 H1 v d := dp_up h (fresh_down s)
theorem NewD.dp (h : NewD K H H1 v d) : Dp K H1 v d := dp_up h fresh_le
theorem NewD.hid {z : Addr} (h : NewD K H H1 v d) (hz : H z ≠ none) : Dp K (hid H1 z) v d := dp_up h (fresh_hid hz)
theorem NewDs.up (h : NewDs K H H1 vs ds) (s : Same H1 H2) : NewDs K H H2 vs ds := dps_up h (fresh_up s)
theorem NewDs.len (h : NewDs K H H1 vs ds) : vs.length = ds.length := dps_len h
theorem new_ints (ns : List Int) : NewDs K H H1 (ns.map V.int) (ns.map PyData.int) := dps_ints ns
theorem new_lst {p : Addr} (hp : H p = none) (e : H1 p = some (.lst vs)) (h : NewDs K H H1 vs ds) : NewD K H H1 (.ref p) (.list ds) := .lst (SqL.of (by rw [fresh_at hp]; exact e)) h
theorem new_tup {p : Addr} (hp : H p = none) (e : H1 p = some (.tup vs)) (h : NewDs K H H1 vs ds) : NewD K H H1 (.ref p) (.tuple ds) := .tup (.inl (.inl (by rw [fresh_at hp]; exact e))) h
/-- one more item of a list that grows at D -/
theorem acc_step {D : Addr} {o : HO} (h : DpAll K (hid (fresh H H1) D) vs ds) (hD : H1 D ≠ none) (s0 : Same H H1) (s1 : Same H1 H2) (g : NewD K H1 H2 v d) : DpAll K (hid (fresh H (upd H2 D o)) D) (vs ++ [v]) (ds ++ [d]) := by
  have k1 : Same (hid (fresh H H1) D) (hid (fresh H (upd H2 D o)) D) := fun a x e => by
    obtain ⟨n1, e1⟩ := hid_some e
    obtain ⟨e2, e3⟩ := fresh_inv e1
    rw [hid_ne n1, fresh_at e2, upd_ne n1]; exact s1 _ _ e3
  have k2 : Same (fresh H1 H2) (hid (fresh H (upd H2 D o)) D) := fun a x e => by
    obtain ⟨e2, e3⟩ := fresh_inv e
    have n1 : a ≠ D := fun q => hD (by rw [← q]; exact e2)
    rw [hid_ne n1, fresh_at (s0.free e2), upd_ne n1]; exact e3
  exact dps_app (dps_up h k1) (.cons (dp_up g k2) .nil)
theorem acc_done {D : Addr} (h : DpAll K (hid (fresh H H1) D) vs ds) : NewDs K H H1 vs ds := dps_up h hid_le
end
/-! lists in the place of tuples, at any depth -/
mutual
def lsD : PyData → PyData
  | .list ds => .list (lsDs ds)
  | .tuple ds => .list (lsDs ds)
  | .none => .none
  | .bool b => .bool b
  | .int i => .int i
  | .str x => .str x
  | .dict kvs => .dict kvs
def lsDs : List PyData → List PyData
  | [] => []
  | d :: ds => lsD d :: lsDs ds
end
theorem lsDs_len : ∀ ds : List PyData, (lsDs ds).length = ds.length
  | [] => by simp [lsDs]
  | d :: ds => by simp [lsDs, lsDs_len ds]
theorem lsDs_take : ∀ (ds : List PyData) (i : Nat) (d : PyData), ds[i]? = some d → (lsDs ds).take (i + 1) = (lsDs ds).take i ++ [lsD d]
  | [], _, _, e => by simp at e
  | x :: ds, 0, d, e => by simp at e; subst e; simp [lsDs]
  | x :: ds, i + 1, d, e => by
    have := lsDs_take ds i d (by simpa using e)
    simp only [lsDs, List.take_succ_cons]
    rw [this]; rfl
theorem lsDs_ints : ∀ ns : List Int, lsDs (ns.map PyData.int) = ns.map PyData.int
  | [] => by simp [lsDs]
  | n :: ns => by simp [lsDs, lsD, lsDs_ints ns]
theorem lsD_row (ns : List Int) : lsD (rowT ns) = rowL ns := by simp only [rowT, rowL, lsD, lsDs_ints]
theorem lsDs_rows : ∀ B : List (List Int), lsDs (B.map rowT) = B.map rowL
  | [] => by simp [lsDs]
  | r :: B => by simp [lsDs, lsD_row, lsDs_rows B]
theorem lsD_book (B : List (List Int)) : lsD (bookT B) = bookL B := by simp only [bookT, bookL, lsD, lsDs_rows]
end Af
/-! ### good books, standings -/
namespace Af
open PySem PySem.Spec PyProof.Rows L2
theorem foldl_max_ge : ∀ (ns : List Int) (n : Int), n ≤ ns.foldl max n ∧ ∀ x ∈ ns, x ≤ ns.foldl max n
  | [], n => ⟨Int.le_refl _, fun _ h => by cases h⟩
  | m :: ns, n => by
    obtain ⟨h1, h2⟩ := foldl_max_ge ns (max n m)
    refine ⟨Int.le_trans (Int.le_max_left n m) h1, fun x hx => ?_⟩
    rcases List.mem_cons.mp hx with rfl | hx
    · exact Int.le_trans (Int.le_max_right n x) h1
    · exact h2 x hx
theorem foldl_max_le {b : Int} : ∀ (ns : List Int) (n : Int), n ≤ b → (∀ x ∈ ns, x ≤ b) → ns.foldl max n ≤ b
  | [], n, h, _ => h
  | m :: ns, n, h, g => foldl_max_le ns (max n m) (Int.max_le.mpr ⟨h, g m List.mem_cons_self⟩) fun x hx => g x (List.mem_cons_of_mem _ hx)
/-- a book whose ladders have at most hi rungs -/
structure GoodB (B : List (List Int)) (hi : Int) : Prop where
  first : ∃ n, B[0]? = some [n]
  wide : ∀ (k : Nat) (n : Int) (ns r : List Int), B[k]? = some (n :: ns) → B[k + 1]? = some r → (r.length : Int) = ns.foldl max n
  pos : ∀ r ∈ B, ∀ x ∈ r, 1 ≤ x ∧ x ≤ hi
  full : ∀ r ∈ B, r ≠ []
def StandsTo (B : List (List Int)) (R : List Int) (k : Nat) : Prop := ∀ c, c < k → ∃ n r, lenAt B R c = some n ∧ R[c]? = some r ∧ 1 ≤ r ∧ r ≤ n
structure Stands (B : List (List Int)) (R : List Int) : Prop where
  len : R.length = B.length
  all : StandsTo B R B.length
theorem len_ex {B : List (List Int)} {hi : Int} {R : List Int} {k : Nat} (G : GoodB B hi) (hk : k < B.length) (S : StandsTo B R k) : ∃ n, lenAt B R k = some n ∧ 1 ≤ n ∧ n ≤ hi := by
  cases k with
  | zero =>
    obtain ⟨n, e⟩ := G.first
    refine ⟨n, ?_, G.pos [n] (List.mem_of_getElem? e) n List.mem_cons_self⟩
    show ((B[0]?).bind fun row => row[0]?) = some n
    rw [e]; rfl
  | succ k =>
    obtain ⟨m, r, e1, e2, r1, r2⟩ := S k (Nat.lt_succ_self k)
    have hk0 : k < B.length := by omega
    obtain ⟨row, e3⟩ : ∃ row, B[k]? = some row := ⟨_, List.getElem?_eq_getElem hk0⟩
    obtain ⟨row2, e4⟩ : ∃ row, B[k + 1]? = some row := ⟨_, List.getElem?_eq_getElem hk⟩
    have hm : m ∈ row := by
      cases k with
      | zero =>
        obtain ⟨rw0, g1, g2⟩ := lenAt_zero e1
        rw [e3] at g1; cases g1
        exact List.mem_of_getElem? g2
      | succ k =>
        obtain ⟨rw0, _, g1, _, _, g2⟩ := lenAt_succ e1
        rw [e3] at g1; cases g1
        exact List.mem_of_getElem? g2
    cases row with
    | nil => cases hm
    | cons n ns =>
      have hw := G.wide k n ns row2 e3 e4
      have hle : m ≤ ns.foldl max n := by
        rcases List.mem_cons.mp hm with rfl | hm
        · exact (foldl_max_ge ns m).1
        · exact (foldl_max_ge ns n).2 m hm
      have hlt : (r - 1).toNat < row2.length := by omega
      have e5 : row2[(r - 1).toNat]? = some row2[(r - 1).toNat] := List.getElem?_eq_getElem hlt
      exact ⟨_, lenAt_mk e4 e2 r1 e5, G.pos row2 (List.mem_of_getElem? e4) _ (List.mem_of_getElem? e5)⟩
/-- the lengths of all ladders -/
def lensL (B : List (List Int)) (R : List Int) : List Int := (List.range B.length).map fun c => (lenAt B R c).getD 0
theorem lensL_len (B : List (List Int)) (R : List Int) : (lensL B R).length = B.length := by unfold lensL; rw [List.length_map, List.length_range]
theorem lensL_get {B : List (List Int)} {R : List Int} {c : Nat} (h : c < B.length) : (lensL B R)[c]? = some ((lenAt B R c).getD 0) := by
  unfold lensL
  rw [List.getElem?_map, List.getElem?_range h]; rfl
theorem stand_len {B : List (List Int)} {R : List Int} (S : Stands B R) {c : Nat} (h : c < B.length) : lenAt B R c = some ((lenAt B R c).getD 0) := by
  obtain ⟨n, r, e, _⟩ := S.all c h
  rw [e]; rfl
theorem getD_of {o : Option Int} {n : Int} (h : o = some n) : o.getD 0 = n := by rw [h]; rfl
theorem getElem?_app {R : List Int} {x : Int} {c : Nat} (h : c < R.length) : (R ++ [x])[c]? = R[c]? := List.getElem?_append_left h
theorem stands_snoc {B : List (List Int)} {R : List Int} {n x : Int} (S : StandsTo B R R.length) (e : lenAt B R R.length = some n) (h1 : 1 ≤ x) (h2 : x ≤ n) : StandsTo B (R ++ [x]) (R.length + 1) := by
  intro c hc
  by_cases h : c < R.length
  · obtain ⟨m, r, e1, e2, e3⟩ := S c h
    refine ⟨m, r, ?_, ?_, e3⟩
    · rw [← e1]; exact lenAt_pre fun i hi => getElem?_app (by omega)
    · rw [getElem?_app h]; exact e2
  · have hc' : c = R.length := by omega
    subst hc'
    refine ⟨n, x, ?_, by simp, h1, h2⟩
    rw [← e]; exact lenAt_pre fun i hi => getElem?_app hi
theorem good_one {n hi : Int} (h1 : 1 ≤ n) (h2 : n ≤ hi) : GoodB [[n]] hi :=
  ⟨⟨n, rfl⟩, fun k m ns r e1 e2 => by cases k <;> simp at e2, fun r hr x hx => by
    obtain rfl : r = [n] := by simpa using hr
    obtain rfl : x = n := by simpa using hx
    exact ⟨h1, h2⟩, fun r hr => by
    obtain rfl : r = [n] := by simpa using hr
    exact fun z => nomatch z⟩
theorem good_snoc {B : List (List Int)} {hi n : Int} {ns row : List Int} (G : GoodB (B ++ [n :: ns]) hi) (hl : (row.length : Int) = ns.foldl max n) (hp : ∀ x ∈ row, 1 ≤ x ∧ x ≤ hi) : GoodB (B ++ [n :: ns] ++ [row]) hi := by
  have n1 : 1 ≤ n := (G.pos (n :: ns) (by simp) n List.mem_cons_self).1
  have m1 := (foldl_max_ge ns n).1
  refine ⟨?_, fun k m ms r e1 e2 => ?_, fun r hr x hx => ?_, fun r hr => ?_⟩
  · obtain ⟨z, e⟩ := G.first
    exact ⟨z, by rw [List.getElem?_append_left (by simp)]; exact e⟩
  · by_cases h : k + 1 < (B ++ [n :: ns]).length
    · rw [List.getElem?_append_left (by omega)] at e1
      rw [List.getElem?_append_left h] at e2
      exact G.wide k m ms r e1 e2
    · have hk : k + 1 < (B ++ [n :: ns] ++ [row]).length := (List.getElem?_eq_some_iff.mp e2).1
      simp only [List.length_append, List.length_cons, List.length_nil] at h hk
      have ek : k = B.length := by omega
      subst ek
      have e1' : (B ++ [n :: ns] ++ [row])[B.length]? = some (n :: ns) := by simp
      have e2' : (B ++ [n :: ns] ++ [row])[B.length + 1]? = some row := by simp
      rw [e1'] at e1; rw [e2'] at e2
      cases e1; cases e2
      exact hl
  · rcases List.mem_append.mp hr with h | h
    · exact G.pos r h x hx
    · obtain rfl : r = row := by simpa using h
      exact hp x hx
  · rcases List.mem_append.mp hr with h | h
    · exact G.full r h
    · obtain rfl : r = row := by simpa using h
      intro z; subst z; simp at hl; omega
/-! heaps with a box -/
theorem hid_eq {H H' : Hp} {b a : Addr} (h : hid H' b = hid H b) (ha : a ≠ b) : H' a = H a := by
  have := congrFun h a
  rwa [hid_ne ha, hid_ne ha] at this
theorem hid_eq_same {H H' : Hp} {b : Addr} (h : hid H' b = hid H b) : Same (hid H b) (hid H' b) := by rw [h]; exact Same.refl _
end Af
/-! ### small data: it can be shown -/
namespace Af
open PySem PySem.Spec PyProof.Rows L2
structure Sml (d : PyData) : Prop where
  shw : d.showable = true
  nod : d.hasDict = false
  shrt : d.leavesShort 13 = true
  lay : d.canLay0 = true
theorem sml_int {i : Int} (h : i.natAbs ≤ 1000000) : Sml (.int i) := by
  refine ⟨?_, by simp only [PyData.hasDict], ?_, by simp only [PyData.canLay0]⟩
  · simp only [PyData.showable]
    refine decide_eq_true ?_
    by_cases z : i.natAbs = 0
    · rw [z]; decide
    · have h1 : i.natAbs.log2 < 20 := (Nat.log2_lt z).mpr (by omega)
      omega
  · have h1 := int_text_length_le10 (a := i) (k := 7) (by decide) (by omega)
    simp only [PyData.leavesShort]
    refine decide_eq_true ?_
    show (Str.ofString (toString i)).length ≤ 13
    rw [PySem.ofString_length]; omega
theorem sml_bool (b : Bool) : Sml (.bool b) := ⟨by simp only [PyData.showable], by simp only [PyData.hasDict], by simp only [PyData.leavesShort], by simp only [PyData.canLay0]⟩
theorem sml_none : Sml .none := ⟨by simp only [PyData.showable], by simp only [PyData.hasDict], by simp only [PyData.leavesShort], by simp only [PyData.canLay0]⟩
theorem sml_all : ∀ {ds : List PyData}, (∀ d ∈ ds, Sml d) → PyData.showableAll ds = true ∧ PyData.hasDictAll ds = false ∧ PyData.leavesShortAll 13 ds = true ∧ PyData.canLayAll0 ds = true
  | [], _ => by simp [PyData.showableAll, PyData.hasDictAll, PyData.leavesShortAll, PyData.canLayAll0]
  | d :: ds, h => by
    have h1 := h d List.mem_cons_self
    have h2 := sml_all (ds := ds) fun x hx => h x (List.mem_cons_of_mem _ hx)
    simp [PyData.showableAll, PyData.hasDictAll, PyData.leavesShortAll, PyData.canLayAll0, h1.shw, h1.nod, h1.shrt, h1.lay, h2.1, h2.2.1, h2.2.2.1, h2.2.2.2]
theorem sml_list {ds : List PyData} (h : ∀ d ∈ ds, Sml d) : Sml (.list ds) := by
  have q := sml_all h
  exact ⟨by simp only [PyData.showable]; exact q.1, by simp only [PyData.hasDict]; exact q.2.1, by simp only [PyData.leavesShort]; exact q.2.2.1, by simp only [PyData.canLay0]; exact q.2.2.2⟩
theorem sml_tup {ds : List PyData} (h : ∀ d ∈ ds, Sml d) : Sml (.tuple ds) := by
  have q := sml_all h
  exact ⟨by simp only [PyData.showable]; exact q.1, by simp only [PyData.hasDict]; exact q.2.1, by simp only [PyData.leavesShort]; exact q.2.2.1, by simp only [PyData.canLay0]; exact q.2.2.2⟩
theorem Sml.fits {d : PyData} (S : Sml d) (h : d.bulk ≤ 1000000) : d.shown.length ≤ sizeLine := by
  have h1 := PyData.shown_le_bulk 13 (by decide) d S.shrt
  have h2 := sizeLine_eq
  omega
theorem sml_row {ns : List Int} (h : ∀ x ∈ ns, x.natAbs ≤ 1000000) : Sml (rowT ns) := sml_tup fun d hd => by
  obtain ⟨x, hx, rfl⟩ := List.mem_map.mp hd
  exact sml_int (h x hx)
theorem bulk_ints : ∀ ns : List Int, PyData.bulkAll (ns.map PyData.int) = ns.length
  | [] => by simp [PyData.bulkAll]
  | n :: ns => by simp [PyData.bulkAll, PyData.bulk, bulk_ints ns]; omega
theorem bulk_row (ns : List Int) : (rowT ns).bulk = ns.length := by simp only [rowT, PyData.bulk, bulk_ints]
theorem bulk_rowL (ns : List Int) : (rowL ns).bulk = ns.length := by simp only [rowL, PyData.bulk, bulk_ints]
theorem depth_row (ns : List Int) : (rowT ns).depth = 1 := by simp only [rowT, PyData.depth, depth_ints]
theorem depth_rowL (ns : List Int) : (rowL ns).depth = 1 := by simp only [rowL, PyData.depth, depth_ints]
theorem bulk_rows {m : Nat} : ∀ (B : List (List Int)), (∀ r ∈ B, r.length ≤ m) → PyData.bulkAll (B.map rowT) ≤ B.length * (m + 1)
  | [], _ => by simp [PyData.bulkAll]
  | r :: B, h => by
    have h1 := bulk_rows B fun x hx => h x (List.mem_cons_of_mem _ hx)
    have h2 := h r List.mem_cons_self
    simp only [List.map_cons, PyData.bulkAll, bulk_row, List.length_cons]
    have e : (B.length + 1) * (m + 1) = B.length * (m + 1) + (m + 1) := Nat.succ_mul _ _
    omega
theorem depth_rows : ∀ (B : List (List Int)), PyData.depthAll (B.map rowT) ≤ 1
  | [] => by simp [PyData.depthAll]
  | r :: B => by
    have h1 := depth_rows B
    simp only [List.map_cons, PyData.depthAll, depth_row]
    omega
theorem depth_book (B : List (List Int)) : (bookT B).depth ≤ 2 := by
  have := depth_rows B
  simp only [bookT, PyData.depth]; omega
theorem good_rows {B : List (List Int)} {hi : Nat} (G : GoodB B hi) (h1 : 1 ≤ hi) : ∀ r ∈ B, r.length ≤ hi := by
  intro r hr
  obtain ⟨k, hk, e⟩ := List.getElem_of_mem hr
  have e' : B[k]? = some r := by rw [List.getElem?_eq_getElem hk, e]
  cases k with
  | zero =>
    obtain ⟨n, e2⟩ := G.first
    rw [e'] at e2; cases e2
    exact h1
  | succ k =>
    have hk0 : k < B.length := by omega
    have e3 : B[k]? = some B[k] := List.getElem?_eq_getElem hk0
    have hm : B[k] ∈ B := List.getElem_mem hk0
    cases z : B[k] with
    | nil => exact absurd z (G.full _ hm)
    | cons n ns =>
      rw [z] at e3 hm
      have hw := G.wide k n ns r e3 e'
      have p1 := G.pos _ hm
      have := foldl_max_le ns n (p1 n List.mem_cons_self).2 fun x hx => (p1 x (List.mem_cons_of_mem _ hx)).2
      omega
theorem bulk_book {B : List (List Int)} {hi : Nat} (G : GoodB B hi) (h1 : 1 ≤ hi) (h2 : hi ≤ 100) (h3 : B.length ≤ 100) : (bookT B).bulk ≤ 11000 := by
  have h := bulk_rows B (good_rows G h1)
  simp only [bookT, PyData.bulk]
  have : B.length * (hi + 1) ≤ 100 * 101 := Nat.mul_le_mul h3 (by omega)
  omega
theorem sml_book {B : List (List Int)} {hi : Nat} (G : GoodB B hi) (h2 : hi ≤ 1000) : Sml (bookT B) := sml_tup fun d hd => by
  obtain ⟨r, hr, rfl⟩ := List.mem_map.mp hd
  exact sml_row fun x hx => by have := G.pos r hr x hx; omega
theorem stands_mem {B : List (List Int)} {hi : Int} {R : List Int} (G : GoodB B hi) (S : Stands B R) : ∀ x ∈ R, 1 ≤ x ∧ x ≤ hi := by
  intro x hx
  obtain ⟨c, hc, e⟩ := List.getElem_of_mem hx
  have hc' : c < B.length := by rw [← S.len]; exact hc
  obtain ⟨n, r, e1, e2, r1, r2⟩ := S.all c hc'
  rw [List.getElem?_eq_getElem hc, e] at e2
  cases e2
  obtain ⟨n', e3, _, e4⟩ := len_ex G hc' (fun i hi => S.all i (by omega))
  rw [e1] at e3; cases e3
  exact ⟨r1, by omega⟩
theorem sml_stand {B : List (List Int)} {hi : Int} {R : List Int} (G : GoodB B hi) (h : hi ≤ 1000) (S : Stands B R) : Sml (rowT R) := sml_row fun x hx => by
  have := stands_mem G S x hx; omega
/-- small enough for _law_same, _law_lists -/
structure Sz (d : PyData) : Prop where
  dep : d.depth < 10
  blk : d.bulk ≤ 1000000
/-- small enough for repr -/
structure Fit (d : PyData) : Prop where
  shw : d.showable = true
  nod : d.hasDict = false
  dep : d.depth ≤ 60
  len : d.shown.length ≤ sizeLine
theorem fit_of {d : PyData} (S : Sml d) (z : Sz d) : Fit d := ⟨S.shw, S.nod, by have := z.dep; omega, S.fits z.blk⟩
theorem sz_row {ns : List Int} (h : ns.length ≤ 1000) : Sz (rowT ns) := ⟨by rw [depth_row]; decide, by rw [bulk_row]; omega⟩
theorem sz_rowL {ns : List Int} (h : ns.length ≤ 1000) : Sz (rowL ns) := ⟨by rw [depth_rowL]; decide, by rw [bulk_rowL]; omega⟩
theorem sz_book {B : List (List Int)} {hi : Nat} (G : GoodB B hi) (h1 : 1 ≤ hi) (h2 : hi ≤ 100) (h3 : B.length ≤ 100) : Sz (bookT B) :=
  ⟨by have := depth_book B; omega, by have := bulk_book G h1 h2 h3; omega⟩
end Af
/-! ### enumerate of a tuple -/
namespace Af
open PySem PySem.Spec PyProof.Rows L2
theorem draws_tup {prog : Program} {w : World} {A : Around} (hh : A.handled = none) (it l : Addr) (hne : l ≠ it) (items : Array Value) :
    Draws prog w A it [it, l] items.size (fun i v => items[i]? = some v) (fun i h => h.IsTupleIter it l i ∧ h.IsTuple l items) where
  live := fun _ _ st => let ⟨o, ho, _⟩ := st.1; ⟨o, ho⟩
  frame := fun _ _ _ st hk => by
    obtain ⟨⟨o, ho, r⟩, ⟨o2, ho2, r2⟩⟩ := st
    exact ⟨⟨o, hk it (by simp) o ho, r⟩, ⟨o2, hk l (by simp) o2 ho2, r2⟩⟩
  item := fun i s Q E hi st hQ => RZ.nextOf_tuple_item st.1 st.2 (x := items[i]) (by simp [hi]) fun h' hit' hs' => hQ _ h' s.toks (by simp [hi]) ⟨hit', st.2.extBut hs'.extBut hne⟩ hs'
  done := fun s Q E st hE => RZ.nextOf_tuple_end hh st.1 st.2 (by simp) hE
set_option maxHeartbeats 1000000 in
theorem meets_enum_tup (l : Addr) (items : Array Value) (n : Nat) (dct : Option Addr) (sl : Array (Option Value)) :
    Meets (Builtin.«enumerate.__new__» ⟨[.type "enumerate", .ref l], []⟩) (fun _ R s => s.heap.get? l = some { cls := .type "tuple", dict := dct, data := .seq items n, slots := sl } ∧
      R (.ok (.ret (.ref (s.heap.push { cls := .type "tuple_iterator", data := .fields #[.ref l, .int 0 0] }).objs.size)))
        { s with heap := (s.heap.push { cls := .type "tuple_iterator", data := .fields #[.ref l, .int 0 0] }).push { cls := .type "enumerate", data := .fields #[.none, .bool false, .ref s.heap.objs.size, rawInt 0, .none, .none] } }) :=
  .of_wp fun prog w A R s h => by
    obtain ⟨hp, g, d, tk, os⟩ := s
    obtain ⟨hl, h⟩ := h
    have sbe := sub_enumerate
    have hT : Heap.IsTuple (Shared.heap ⟨hp, g, d, tk, os⟩) l items := ⟨_, hl, rfl, n, rfl⟩
    wp_walk using AutoSeq1.wpAny_loadPart' hl
    refine wpAny_stack_any fun st => wpAny_pure ?_
    split
    · rename_i c _ _ _ _ _
      cases (c == Value.type "enumerate")
      · wp_walk using AutoSeq1.wpAny_loadPart' hl, wpAny_pyIter_tuple hT
        exact ⟨_, rfl, h⟩
      · wp_walk using AutoSeq1.wpAny_loadPart' hl, wpAny_pyIter_tuple hT
        exact ⟨_, rfl, h⟩
    · wp_walk using AutoSeq1.wpAny_loadPart' hl, wpAny_pyIter_tuple hT
      exact ⟨_, rfl, h⟩
theorem call_enum_tup {prog : Program} {w : World} {A : Around} {E : Value → Shared → Prop} {s : Shared} {l : Addr} {items : Array Value} {Q : Value → Shared → Prop} (hL : s.heap.IsTuple l items)
    (h : ∀ h', IsEnum h' (s.heap.objs.size + 1) s.heap.objs.size 0 .none → h'.IsTupleIter s.heap.objs.size l 0 → h'.objs.size = s.heap.objs.size + 2 →
      (∀ b o, s.heap.get? b = some o → h'.get? b = some o) → Q (.ref (s.heap.objs.size + 1)) { s with heap := h' }) :
    wpAny (model prog w) A (call (.type "enumerate") [.ref l]) Q E s := by
  obtain ⟨⟨c, dct, dt, sl⟩, hl, hc, n, hd⟩ := hL
  replace hc : c = .type "tuple" := hc
  replace hd : dt = .seq items n := hd
  subst hc hd
  refine callType_new F.called_enumerate (by decide) (F.typeCall_enumerate_1 _) (F.newCall_enumerate_1 _) (fun obj => F.args_object_init_2 obj _) F.entry_enumerate_new (meets_enum_tup l items n dct sl) ⟨hl, ?_⟩
  have hz : (s.heap.push { cls := .type "tuple_iterator", data := .fields #[.ref l, .int 0 0] }).objs.size = s.heap.objs.size + 1 := Heap.size_push ..
  show _ ∧ _
  rw [hz]
  have he : IsEnum ((s.heap.push { cls := .type "tuple_iterator", data := .fields #[.ref l, .int 0 0] }).push { cls := .type "enumerate", data := .fields #[.none, .bool false, .ref s.heap.objs.size, rawInt 0, .none, .none] }) (s.heap.objs.size + 1) s.heap.objs.size 0 .none := by
    have z := Heap.get?_push_size (s.heap.push { cls := .type "tuple_iterator", data := .fields #[.ref l, .int 0 0] }) (o := { cls := .type "enumerate", data := .fields #[.none, .bool false, .ref s.heap.objs.size, rawInt 0, .none, .none] }) rfl
    rw [hz] at z; exact z
  exact ⟨⟨_, he, rfl⟩, h _ he ⟨_, Heap.get?_push_of_some _ (Heap.get?_push_size _ rfl), rfl, rfl⟩ (by rw [Heap.size_push, hz]) fun b o x => Heap.get?_push_of_some _ (Heap.get?_push_of_some _ x)⟩
/-- the tuple at a, each item in a new pair with its place -/
def ItT (K : PySem.W.Frag) (a : Addr) : It :=
  ⟨fun i H => ∃ (xs : List V) (x : V), SqT K H a xs ∧ xs[i]? = some x, fun i H v H' => ∃ Tq x, v = .ref Tq ∧ H Tq = none ∧ H' = upd H Tq (.tup [.int (i : Nat), x]) ∧ ∀ xs, SqT K H a xs → xs[i]? = some x, fun i H => ∃ xs : List V, SqT K H a xs ∧ xs.length = i⟩
theorem turn_enumT {P : Program} {w : World} {K : PySem.W.Frag} {elts : List Expr} {kk : Nat} {tpos : Pos} (a e it : Addr) (hae : a ≠ e) (hai : a ≠ it) :
    Turn P w K (.Tuple elts kk tpos) (ItT K a) [e, it] e (fun i h => (∃ old, IsEnum h e it ((i : Nat) : Int) old) ∧ h.IsTupleIter it a i ∧ e ≠ it) where
  mem := by simp
  obj := fun i h st b hb => by
    obtain ⟨⟨old, he⟩, ⟨o, ho, hc, hd⟩, _⟩ := st
    rcases (show b = e ∨ b = it by simpa using hb) with z | z
    · rw [z]; exact ⟨_, he, fun v q => nomatch q⟩
    · rw [z]; exact ⟨o, ho, fun v q => by rw [hd] at q; cases q⟩
  keep := fun i h h' st k => by
    obtain ⟨⟨old, he⟩, ⟨o, ho, r⟩, hne⟩ := st
    exact ⟨⟨old, k e (by simp) _ he⟩, ⟨o, k it (by simp) o ho, r⟩, hne⟩
  item := by
    intro X hP hw hK hc i pins s σ H E I hf st hg
    subst hP hw hK
    obtain ⟨⟨old, he⟩, hit, hne⟩ := st
    obtain ⟨xs, x, hq, hx⟩ := hg
    obtain ⟨its, rv, pt, _⟩ := I.tuple hq
    obtain ⟨u, hu, ru⟩ := rv.get hx
    have hel : e < s.heap.objs.size := Heap.lt_size he
    have hil : it < s.heap.objs.size := by obtain ⟨_, q, _⟩ := hit; exact Heap.lt_size q
    have hlt : i < its.toArray.size := by simpa using (List.getElem?_eq_some_iff.mp hu).1
    refine wpAny_pyNext_enum_itemD (draws_tup (A := X.A.in1) (I.ok.hd hc) it a hai its.toArray) he ⟨hit, pt⟩ hlt hne (by simp [hae.symm, hne]) fun x' h' tk hx' ho hst' hT hsz hk => ?_
    have ex : x' = u := by
      have z : its[i]? = some x' := by simpa using hx'
      rw [hu] at z; exact (Option.some.inj z).symm
    subst ex
    refine ⟨_, rfl, wpAny_letOwnedTupleGo_enum (s := { s with heap := h', toks := tk + 1 }) ho fun h2 he' sb => ?_⟩
    have hT2 : h2.get? s.heap.objs.size = some { cls := .type "tuple", data := .seq #[.int i tk, x'] } := (sb.2 _ (Nat.ne_of_gt hel)).trans hT
    have new : ObjOk X.prog X.w (upd H s.heap.objs.size (.tup [.int (i : Nat), x])) h2 s.heap.objs.size (.tup [.int (i : Nat), x]) :=
      ⟨by show 2 ≤ sizeLine; decide, [.int i tk, x'], .cons ⟨_, rfl⟩ (.cons ru .nil), ⟨_, hT2, rfl, _, rfl⟩⟩
    have I1 : Inv X pins σ (upd H s.heap.objs.size (.tup [.int (i : Nat), x])) { s with heap := h2, toks := tk + 1 } :=
      I.turnedNew (ch := [e, it]) (fun b ob hb q => (sb.2 b (fun z => hb (by simp [z]))).trans (hk b ob (fun z => hb (by simp [z])) (fun z => hb (by simp [z])) q)) hf (Nat.le_refl _) new
    refine ⟨.ref s.heap.objs.size, _, I1, rfl, ⟨_, x, rfl, I.hok.fresh (Nat.le_refl _), rfl, fun ys hy => by rw [I.tuple_inj hy hq]; exact hx⟩, ⟨⟨x', ?_⟩, ?_, hne⟩, fun b hb => ?_⟩
    · have e1 : ((i + 1 : Nat) : Int) = (i : Int) + 1 := by omega
      rw [e1]; exact he'
    · obtain ⟨⟨o, ho', r⟩, _⟩ := hst'
      exact ⟨o, (sb.2 it (Ne.symm hne)).trans ho', r⟩
    · have hb' : b < s.heap.objs.size := by
        rcases (show b = e ∨ b = it by simpa using hb) with z | z
        · rw [z]; exact hel
        · rw [z]; exact hil
      rw [upd_ne (Nat.ne_of_lt hb')]
      exact (hf b hb).1
  done := by
    intro X hP hw hK hc i pins s σ H E I hf st hg
    subst hP hw hK
    obtain ⟨⟨old, he⟩, hit, hne⟩ := st
    obtain ⟨xs, hq, hx⟩ := hg
    obtain ⟨its, rv, pt, _⟩ := I.tuple hq
    obtain ⟨f0, f1, f2, f3, f4, f5⟩ := hf it (by simp)
    have hl := rv.length
    have ei : i = its.toArray.size := by simp; omega
    rw [ei] at hit
    exact wpAny_pyNext_enum_endD (draws_tup (A := X.A.in1) (I.ok.hd hc) it a hai its.toArray) he ⟨hit, pt⟩ fun h' eb => ⟨rfl, I.turned (t' := s.toks) (fun b o hb q => eb b o hb q) f0 f1 f3 f4 f5⟩
  self := fun A i s Q E st h => let ⟨⟨_, he⟩, _⟩ := st; wpAny_pyIter_enum he h
def iEnumT (K : PySem.W.Frag) (ta : TA) : TI := fun σ H R => ta σ H fun vs H1 => ∃ a xs, vs = [.ref a] ∧ SqT K H1 a xs ∧ R (ItT K a) H1
theorem pi_enumT {X : Cx} {e : Expr} {ta : TA} {p pos tpos : Pos} {elts : List Expr} {kk : Nat} (hg : Gl X "enumerate") (hm : X.mg "enumerate" = none) (ha : PA X [e] ta) (hs : starEach [e] X.env = [(false, eval e X.env)] := by rfl) :
    PI X (.Tuple elts kk tpos) (.Call (.Name "enumerate" p) [e] [] pos) (iEnumT X.K ta) := by
  refine ⟨fun pins s σ H R I h => Call_ (ld_blt I hg hm boot_enumerate (PyProof.Rows.callWith_type1 (thn (ha.run pos pins s σ H _ I h) fun us s1 ⟨vs, H1, I1, r1, q1⟩ => ?_) hs rfl))⟩
  obtain ⟨a, xs, rfl, hq, q⟩ := q1
  cases r1 with
  | cons r rr =>
    cases rr
    cases r
    obtain ⟨its, rv, pt, _⟩ := I1.tuple hq
    obtain ⟨oa, hoa, _⟩ := id pt
    have hal := Heap.lt_size hoa
    refine call_enum_tup (show s1.heap.IsTuple a its.toArray from pt) fun h' he hit hsz hk => wpAny_pyIter_enum he ?_
    have I2 : Inv X pins σ H1 { s1 with heap := h' } := I1.kept (t' := s1.toks) hk
    refine ⟨s1.heap.objs.size + 1, [s1.heap.objs.size + 1, s1.heap.objs.size], _, _, H1, rfl, I2, turn_enumT a (s1.heap.objs.size + 1) s1.heap.objs.size (Nat.ne_of_lt (Nat.lt_succ_of_lt hal)) (Nat.ne_of_lt hal), ⟨⟨.none, he⟩, hit, Nat.succ_ne_self _⟩, fun b hb => ?_, q⟩
    have hle : s1.heap.objs.size ≤ b := by
      rcases (show b = s1.heap.objs.size + 1 ∨ b = s1.heap.objs.size by simpa using hb) with z | z
      · rw [z]; exact Nat.le_add_right _ _
      · rw [z]; exact Nat.le_refl _
    exact I1.fpOk hle (I1.hok.fresh hle)
theorem walk_enumT {K : PySem.W.Frag} {a : Addr} {xs : List V} : Walk (ItT K a) xs.length (fun H => SqT K H a xs) (YPair (fun i => some (.int (i : Nat))) (fun i => xs[i]?)) := by
  refine ⟨fun i _ hi q => ⟨xs, xs[i], q, by simp [hi]⟩, fun _ q => ⟨xs, q, rfl⟩, fun i H v H' _ q y => ?_⟩
  obtain ⟨Tq, x, h1, h2, h3, h4⟩ := y
  exact ⟨Tq, .int (i : Nat), x, h1, h2, h3, rfl, h4 xs q⟩
end Af
/-! ### states; who is blocked, who goes -/
namespace Af
open PySem PySem.Spec PyProof.Rows L2
def StateD (d : PyData) (R F : List Int) : Prop := ∃ sd fd, SeqD d [sd, fd] ∧ RowD sd R ∧ RowD fd F
def stateT (R F : List Int) : PyData := .tuple [rowT R, rowT F]
def stateL (R F : List Int) : PyData := .list [rowL R, rowL F]
theorem stateT_state (R F : List Int) : StateD (stateT R F) R F := ⟨_, _, .t _, rowT_row R, rowT_row F⟩
theorem stateL_state (R F : List Int) : StateD (stateL R F) R F := ⟨_, _, .l _, rowL_row R, rowL_row F⟩
theorem lsD_state (R F : List Int) : lsD (stateT R F) = stateL R F := by simp only [stateT, stateL, lsD, lsDs, lsD_row]
/-- a, b = a list or a tuple of two -/
def gSeq (K : PySem.W.Frag) (n : Nat) (t : TGs) : TG := fun v σ H Q => ∃ a xs, v = .ref a ∧ Sq K H a xs ∧ xs.length = n ∧ t xs σ H Q
theorem pg_seq {X : Cx} {es : List Expr} {k : Nat} {pos : Pos} {t : TGs} {n : Nat} (hc : X.calm = true) (h : PGs X es t)
    (hn : (assignEach es X.env).length = n := by rfl) (hst : (assignEach es X.env).findIdx? (·.1) = none := by rfl) : PG X (.Tuple es k pos) (gSeq X.K n t) := by
  refine ⟨fun pins s σ H v u Q I r hw => ?_⟩
  obtain ⟨a, xs, e1, hq, hl, hw⟩ := hw
  rcases hq with hq | hq
  · exact (pg_unl hc h hn hst).run pins s σ H v u Q I r ⟨a, xs, e1, hq, hl, hw⟩
  · exact (pg_tup hc h hn hst).run pins s σ H v u Q I r ⟨a, xs, e1, hq, hl, hw⟩
theorem state_at {K : PySem.W.Frag} {H : Hp} {v : V} {d : PyData} {R F : List Int} (h : Dp K H v d) (s : StateD d R F) : ∃ a r f sd fd, v = .ref a ∧ Sq K H a [r, f] ∧ Dp K H r sd ∧ RowD sd R ∧ Dp K H f fd ∧ RowD fd F := by
  obtain ⟨sd, fd, hs, h1, h2⟩ := s
  obtain ⟨a, xs, rfl, hq, ha⟩ := dp_seq h hs
  cases ha with
  | cons p1 ha =>
    cases ha with
    | cons p2 ha =>
      cases ha
      exact ⟨a, _, _, sd, fd, rfl, hq, p1, h1, p2, h2⟩
theorem state_tup {K : PySem.W.Frag} {H : Hp} {v : V} {R F : List Int} (h : Dp K H v (stateT R F)) : ∃ a ra fa, v = .ref a ∧ SqT K H a [.ref ra, .ref fa] ∧ SqT K H ra (R.map V.int) ∧ SqT K H fa (F.map V.int) := by
  cases h with
  | tup h1 h2 =>
    cases h2 with
    | cons p1 h2 =>
      cases h2 with
      | cons p2 h2 =>
        cases h2
        cases p1 with
        | tup g1 g2 =>
          cases p2 with
          | tup k1 k2 =>
            rw [dps_ints_inv g2] at g1
            rw [dps_ints_inv k2] at k1
            exact ⟨_, _, _, rfl, h1, g1, k1⟩
def endR (l f : Int) : Int := if f = 1 then l else 1
def isBl (B : List (List Int)) (R F : List Int) (c : Nat) : Bool := decide (R[c]?.getD 0 = endR ((lenAt B R c).getD 0) (F[c]?.getD 0))
def castL (cs : List Nat) : List Int := cs.map fun c : Nat => (c : Int)
def blockedN (B : List (List Int)) (R F : List Int) (n : Nat) : List Nat := (List.range n).filter (isBl B R F)
def freeN (B : List (List Int)) (R F : List Int) (n : Nat) : List Nat := (List.range n).filter fun c => !isBl B R F c
def moverO (B : List (List Int)) (R F : List Int) : Option Nat := (freeN B R F B.length).getLast?
def movV : Option Nat → V
  | none => .non
  | some c => .int c
def movD : Option Nat → PyData
  | none => .none
  | some c => .int c
theorem mov_dp {K : PySem.W.Frag} {H : Hp} (o : Option Nat) : Dp K H (movV o) (movD o) := by
  cases o with
  | none => exact .non
  | some c => exact .int c
theorem blockedN_succ (B : List (List Int)) (R F : List Int) (n : Nat) : blockedN B R F (n + 1) = blockedN B R F n ++ (if isBl B R F n = true then [n] else []) := by
  unfold blockedN
  rw [List.range_succ, List.filter_append, List.filter_cons, List.filter_nil]
theorem freeN_succ (B : List (List Int)) (R F : List Int) (n : Nat) : freeN B R F (n + 1) = freeN B R F n ++ (if isBl B R F n = true then [] else [n]) := by
  unfold freeN
  rw [List.range_succ, List.filter_append, List.filter_cons, List.filter_nil]
  cases isBl B R F n <;> rfl
theorem blockedN_len (B : List (List Int)) (R F : List Int) (n : Nat) : (blockedN B R F n).length ≤ n := by
  have := List.length_filter_le (isBl B R F) (List.range n)
  rw [List.length_range] at this; exact this
theorem freeN_len (B : List (List Int)) (R F : List Int) (n : Nat) : (freeN B R F n).length ≤ n := by
  have := List.length_filter_le (fun c => !isBl B R F c) (List.range n)
  rw [List.length_range] at this; exact this
theorem mem_blockedN {B : List (List Int)} {R F : List Int} {n c : Nat} : c ∈ blockedN B R F n ↔ c < n ∧ isBl B R F c = true := by
  unfold blockedN; rw [List.mem_filter, List.mem_range]
theorem mem_freeN {B : List (List Int)} {R F : List Int} {n c : Nat} : c ∈ freeN B R F n ↔ c < n ∧ isBl B R F c = false := by
  unfold freeN; rw [List.mem_filter, List.mem_range]; simp
theorem castL_len (cs : List Nat) : (castL cs).length = cs.length := by unfold castL; rw [List.length_map]
theorem castL_app (cs ds : List Nat) : castL (cs ++ ds) = castL cs ++ castL ds := by unfold castL; rw [List.map_append]
theorem inV_cast (cs : List Nat) (c : Nat) : inV (.int c) ((castL cs).map V.int) = decide (c ∈ cs) := by
  unfold inV castL
  rw [List.map_map, Bool.eq_iff_iff, List.any_eq_true, decide_eq_true_iff]
  constructor
  · rintro ⟨x, hx, e⟩
    obtain ⟨d, hd, rfl⟩ := List.mem_map.mp hx
    have e' : ((d : Int) == (c : Int)) = true := e
    have : d = c := by have := beq_iff_eq.mp e'; omega
    exact this ▸ hd
  · intro h
    exact ⟨.int c, List.mem_map.mpr ⟨c, h, rfl⟩, by show ((c : Int) == (c : Int)) = true; exact beq_self_eq_true _⟩
theorem flat_cast (cs : List Nat) : ((castL cs).map V.int).all flatV = true := by
  rw [List.all_eq_true]
  intro x hx
  obtain ⟨i, _, rfl⟩ := List.mem_map.mp hx
  rfl
theorem in_blocked {B : List (List Int)} {R F : List Int} {n c : Nat} (h : c < n) : decide (c ∈ blockedN B R F n) = isBl B R F c := by
  rw [Bool.eq_iff_iff, decide_eq_true_iff, mem_blockedN]
  exact ⟨fun z => z.2, fun z => ⟨h, z⟩⟩
/-- faces -/
def FacesOk (F : List Int) : Prop := ∀ f ∈ F, f = 1 ∨ f = -1
/-- one beat -/
def goB (B : List (List Int)) (F : List Int) : Nat → List Int → List Int
  | 0, R => R
  | n + 1, R => goB B F n (R ++ [endR ((lenAt B R R.length).getD 0) (F[R.length]?.getD 0)])
def beatO (B : List (List Int)) (R F : List Int) : Option Nat → List Int × List Int
  | none => (R, F.map fun f => -f)
  | some g => (goB B F (B.length - (g + 1)) (R.take g ++ [R[g]?.getD 0 + F[g]?.getD 0]), F.take (g + 1) ++ (F.drop (g + 1)).map fun f => -f)
def beatM (B : List (List Int)) (S : List Int × List Int) : List Int × List Int := beatO B S.1 S.2 (moverO B S.1 S.2)
theorem sz_state {R F : List Int} (h1 : R.length ≤ 1000) (h2 : F.length ≤ 1000) : Sz (stateT R F) :=
  ⟨by simp only [PyData.depth, PyData.depthAll, stateT, depth_row]; omega, by simp only [PyData.bulk, PyData.bulkAll, stateT, bulk_row]; omega⟩
theorem sml_faces {F : List Int} (h : FacesOk F) : Sml (rowT F) := sml_row fun x hx => by
  rcases h x hx with rfl | rfl <;> decide
theorem sml_state {B : List (List Int)} {hi : Int} {R F : List Int} (G : GoodB B hi) (h : hi ≤ 1000) (S : Stands B R) (hF : FacesOk F) : Sml (stateT R F) := sml_tup fun d hd => by
  rcases List.mem_cons.mp hd with rfl | hd
  · exact sml_stand G h S
  · obtain rfl : d = rowT F := by simpa using hd
    exact sml_faces hF
theorem fit_pair {B : List (List Int)} {hi : Nat} {R F : List Int} (G : GoodB B hi) (h1 : 1 ≤ hi) (h2 : hi ≤ 100) (h3 : B.length ≤ 100) (S : Stands B R) (hF : FacesOk F) (hl : F.length = B.length) : Fit (.list [bookT B, stateT R F]) := by
  have e := S.len
  refine fit_of (sml_list fun d hd => ?_) ⟨?_, ?_⟩
  · rcases List.mem_cons.mp hd with rfl | hd
    · exact sml_book G (by omega)
    · obtain rfl : d = stateT R F := by simpa using hd
      exact sml_state G (by omega) S hF
  · have := depth_book B
    simp only [PyData.depth, PyData.depthAll, stateT, depth_row]; omega
  · have := bulk_book G h1 h2 h3
    simp only [PyData.bulk, PyData.bulkAll, stateT, bulk_row]; omega
theorem sz_list2 {x y : PyData} (h1 : x.depth ≤ 8) (h2 : y.depth ≤ 8) (h3 : x.bulk ≤ 100000) (h4 : y.bulk ≤ 100000) : Sz (.list [x, y]) :=
  ⟨by simp only [PyData.depth, PyData.depthAll]; omega, by simp only [PyData.bulk, PyData.bulkAll]; omega⟩
theorem sz_list3 {x y z : PyData} (h1 : x.depth ≤ 8) (h2 : y.depth ≤ 8) (g : z.depth ≤ 8) (h3 : x.bulk ≤ 100000) (h4 : y.bulk ≤ 100000) (g2 : z.bulk ≤ 100000) : Sz (.list [x, y, z]) :=
  ⟨by simp only [PyData.depth, PyData.depthAll]; omega, by simp only [PyData.bulk, PyData.bulkAll]; omega⟩
theorem mov_sz (o : Option Nat) : (movD o).depth ≤ 8 ∧ (movD o).bulk ≤ 100000 := by cases o <;> simp [movD, PyData.depth, PyData.bulk]
end Af
/-! ### beats: the mathematics -/
namespace Af
open PySem PySem.Spec PyProof.Rows L2
theorem goB_len (B : List (List Int)) (F : List Int) : ∀ (n : Nat) (R : List Int), (goB B F n R).length = R.length + n
  | 0, R => rfl
  | n + 1, R => by
    show (goB B F n _).length = _
    rw [goB_len B F n, List.length_append, List.length_singleton]; omega
theorem goB_snoc (B : List (List Int)) (F : List Int) : ∀ (n : Nat) (R : List Int), goB B F (n + 1) R = goB B F n R ++ [endR ((lenAt B (goB B F n R) (goB B F n R).length).getD 0) (F[(goB B F n R).length]?.getD 0)]
  | 0, R => rfl
  | n + 1, R => goB_snoc B F n (R ++ [endR ((lenAt B R R.length).getD 0) (F[R.length]?.getD 0)])
theorem goB_pre (B : List (List Int)) (F : List Int) : ∀ (n : Nat) (R : List Int) (i : Nat), i < R.length → (goB B F n R)[i]? = R[i]?
  | 0, R, i, _ => rfl
  | n + 1, R, i, h => by
    show (goB B F n _)[i]? = _
    rw [goB_pre B F n _ i (by rw [List.length_append]; omega), List.getElem?_append_left h]
theorem goB_get (B : List (List Int)) (F : List Int) : ∀ (n : Nat) (R : List Int) (i : Nat), R.length ≤ i → i < R.length + n → (goB B F n R)[i]? = some (endR ((lenAt B (goB B F n R) i).getD 0) (F[i]?.getD 0))
  | 0, R, i, h1, h2 => by omega
  | n + 1, R, i, h1, h2 => by
    rw [goB_snoc]
    have hl := goB_len B F n R
    by_cases h : i < R.length + n
    · rw [List.getElem?_append_left (by omega), goB_get B F n R i h1 h]
      rw [lenAt_pre (R := goB B F n R ++ _) (S := goB B F n R) fun j hj => List.getElem?_append_left (by omega)]
    · have e : i = (goB B F n R).length := by omega
      rw [lenAt_pre (R := goB B F n R ++ _) (S := goB B F n R) fun j hj => List.getElem?_append_left (by omega)]
      rw [e, List.getElem?_append_right (Nat.le_refl _), Nat.sub_self]; rfl
theorem endR_mem {n f : Int} (h : 1 ≤ n) : 1 ≤ endR n f ∧ endR n f ≤ n := by unfold endR; split <;> omega
theorem goB_stands {B : List (List Int)} {hi : Int} {F : List Int} (G : GoodB B hi) : ∀ (n : Nat) (R : List Int), R.length + n ≤ B.length → StandsTo B R R.length → StandsTo B (goB B F n R) (R.length + n)
  | 0, R, _, h => h
  | n + 1, R, hl, h => by
    obtain ⟨m, e, m1, m2⟩ := len_ex G (by omega) h
    have q := stands_snoc (x := endR m (F[R.length]?.getD 0)) h e (endR_mem m1).1 (endR_mem m1).2
    have e2 : goB B F (n + 1) R = goB B F n (R ++ [endR m (F[R.length]?.getD 0)]) := by
      show goB B F n (R ++ [endR ((lenAt B R R.length).getD 0) (F[R.length]?.getD 0)]) = _
      rw [e]; rfl
    have z := goB_stands (F := F) G n (R ++ [endR m (F[R.length]?.getD 0)]) (by rw [List.length_append, List.length_singleton]; omega) (by rw [List.length_append, List.length_singleton]; exact q)
    rw [e2]
    rw [List.length_append, List.length_singleton] at z
    rw [show R.length + (n + 1) = R.length + 1 + n by omega]; exact z
/-! who goes -/
def movN (B : List (List Int)) (R F : List Int) (n : Nat) : Option Nat := (freeN B R F n).getLast?
theorem movN_succ (B : List (List Int)) (R F : List Int) (n : Nat) : movN B R F (n + 1) = if isBl B R F n = true then movN B R F n else some n := by
  unfold movN
  rw [freeN_succ]
  split
  · rw [List.append_nil]
  · rw [List.getLast?_append]; rfl
theorem movN_none {B : List (List Int)} {R F : List Int} : ∀ {n : Nat}, movN B R F n = none → ∀ c, c < n → isBl B R F c = true
  | 0, _, c, h => absurd h (Nat.not_lt_zero c)
  | n + 1, e, c, h => by
    rw [movN_succ] at e
    by_cases hb : isBl B R F n = true
    · rw [if_pos hb] at e
      by_cases hc : c = n
      · rw [hc]; exact hb
      · exact movN_none e c (by omega)
    · rw [if_neg hb] at e; cases e
theorem movN_some {B : List (List Int)} {R F : List Int} : ∀ {n g : Nat}, movN B R F n = some g → g < n ∧ isBl B R F g = false ∧ ∀ c, g < c → c < n → isBl B R F c = true
  | 0, g, e => by cases e
  | n + 1, g, e => by
    rw [movN_succ] at e
    by_cases hb : isBl B R F n = true
    · rw [if_pos hb] at e
      obtain ⟨h1, h2, h3⟩ := movN_some e
      refine ⟨by omega, h2, fun c c1 c2 => ?_⟩
      by_cases hc : c = n
      · rw [hc]; exact hb
      · exact h3 c c1 (by omega)
    · rw [if_neg hb] at e
      cases e
      exact ⟨by omega, by simpa using hb, fun c c1 c2 => by omega⟩
theorem movN_all {B : List (List Int)} {R F : List Int} : ∀ {n : Nat}, (∀ c, c < n → isBl B R F c = true) → movN B R F n = none
  | 0, _ => rfl
  | n + 1, h => by
    rw [movN_succ, if_pos (h n (by omega))]
    exact movN_all fun c hc => h c (by omega)
theorem movN_is {B : List (List Int)} {R F : List Int} {g : Nat} : ∀ {n : Nat}, g < n → isBl B R F g = false → (∀ c, g < c → c < n → isBl B R F c = true) → movN B R F n = some g
  | 0, h, _, _ => absurd h (Nat.not_lt_zero g)
  | n + 1, h1, h2, h3 => by
    rw [movN_succ]
    by_cases hg : g = n
    · subst hg; rw [if_neg (by rw [h2]; exact Bool.false_ne_true)]
    · rw [if_pos (h3 n (by omega) (by omega))]
      exact movN_is (by omega) h2 fun c c1 c2 => h3 c c1 (by omega)
theorem isBl_iff {B : List (List Int)} {R F : List Int} {c : Nat} {n r f : Int} (e1 : lenAt B R c = some n) (e2 : R[c]? = some r) (e3 : F[c]? = some f) : (isBl B R F c = true) ↔ r = endR n f := by
  unfold isBl
  rw [e1, e2, e3, decide_eq_true_iff]; rfl
/-! one beat -/
def negL (F : List Int) : List Int := F.map fun f => -f
theorem negL_len (F : List Int) : (negL F).length = F.length := by unfold negL; rw [List.length_map]
theorem negL_ok {F : List Int} (h : FacesOk F) : FacesOk (negL F) := fun x hx => by
  obtain ⟨f, hf, rfl⟩ := List.mem_map.mp hx
  rcases h f hf with rfl | rfl
  · exact .inr rfl
  · exact .inl rfl
theorem negL_neg (F : List Int) : negL (negL F) = F := by
  unfold negL
  rw [List.map_map]
  have : ((fun f : Int => -f) ∘ fun f : Int => -f) = id := by funext x; simp
  rw [this, List.map_id]
theorem negL_get (F : List Int) (c : Nat) : (negL F)[c]? = (F[c]?).map fun f => -f := by unfold negL; rw [List.getElem?_map]
/-- a good state -/
structure Ok (B : List (List Int)) (S : List Int × List Int) : Prop where
  st : Stands B S.1
  fl : S.2.length = B.length
  fo : FacesOk S.2
def negS (S : List Int × List Int) : List Int × List Int := (S.1, negL S.2)
theorem negS_neg (S : List Int × List Int) : negS (negS S) = S := by unfold negS; rw [negL_neg]
theorem Ok.neg {B : List (List Int)} {S : List Int × List Int} (h : Ok B S) : Ok B (negS S) := ⟨h.st, by show (negL S.2).length = _; rw [negL_len]; exact h.fl, negL_ok h.fo⟩
theorem mover_new {B : List (List Int)} {hi : Int} {R F : List Int} {g : Nat} (G : GoodB B hi) (h : Ok B (R, F)) (hg : moverO B R F = some g) :
    ∃ n r f, g < B.length ∧ lenAt B R g = some n ∧ R[g]? = some r ∧ F[g]? = some f ∧ 1 ≤ r ∧ r ≤ n ∧ r ≠ endR n f ∧ (f = 1 ∨ f = -1) ∧ 1 ≤ r + f ∧ r + f ≤ n := by
  obtain ⟨h1, h2, h3⟩ := movN_some (n := B.length) hg
  obtain ⟨n, r, e1, e2, r1, r2⟩ := h.st.all g h1
  have hgF : g < F.length := by have := h.fl; simp only at this; omega
  have e3 : F[g]? = some F[g] := List.getElem?_eq_getElem hgF
  have hf := h.fo F[g] (List.getElem_mem hgF)
  have hne : r ≠ endR n F[g] := fun e => by
    have z := (isBl_iff (F := F) e1 e2 e3).mpr e
    rw [h2] at z; cases z
  refine ⟨n, r, F[g], h1, e1, e2, e3, r1, r2, hne, hf, ?_, ?_⟩ <;> unfold endR at hne <;> rcases hf with hf | hf <;> rw [hf] at hne ⊢ <;> simp at hne <;> omega
theorem take_stands {B : List (List Int)} {R : List Int} {g : Nat} {n v : Int} (S : Stands B R) (hg : g < B.length) (e : lenAt B R g = some n) (h1 : 1 ≤ v) (h2 : v ≤ n) : StandsTo B (R.take g ++ [v]) (g + 1) ∧ (R.take g ++ [v]).length = g + 1 := by
  have hl : (R.take g).length = g := by rw [List.length_take, S.len]; omega
  have hpre : ∀ i, i < g → (R.take g)[i]? = R[i]? := fun i hi => by rw [List.getElem?_take_of_lt hi]
  have hs : StandsTo B (R.take g) (R.take g).length := fun c hc => by
    rw [hl] at hc
    obtain ⟨m, r, e1, e2, e3⟩ := S.all c (by omega)
    exact ⟨m, r, by rw [lenAt_pre fun i hi => hpre i (by omega)]; exact e1, by rw [hpre c hc]; exact e2, e3⟩
  have z := stands_snoc (x := v) hs (by rw [hl, lenAt_pre hpre]; exact e) h1 h2
  rw [hl] at z
  exact ⟨z, by rw [List.length_append, hl]; rfl⟩
theorem beat_ok {B : List (List Int)} {hi : Int} {S : List Int × List Int} (G : GoodB B hi) (h : Ok B S) : Ok B (beatM B S) := by
  obtain ⟨R, F⟩ := S
  unfold beatM
  cases hm : moverO B R F with
  | none => exact ⟨h.st, by show (F.map _).length = _; rw [List.length_map]; exact h.fl, negL_ok h.fo⟩
  | some g =>
    obtain ⟨n, r, f, hg, e1, e2, e3, r1, r2, hne, hf, v1, v2⟩ := mover_new G h hm
    obtain ⟨s1, s2⟩ := take_stands (v := r + f) h.st hg e1 v1 v2
    have hfl : F.length = B.length := h.fl
    have z := goB_stands (F := F) G (B.length - (g + 1)) (R.take g ++ [r + f]) (by rw [s2]; omega) (by rw [s2]; exact s1)
    have zl := goB_len B F (B.length - (g + 1)) (R.take g ++ [r + f])
    rw [s2] at z zl
    have eb : (beatO B R F (some g)).1 = goB B F (B.length - (g + 1)) (R.take g ++ [r + f]) := by
      show goB B F _ (R.take g ++ [R[g]?.getD 0 + F[g]?.getD 0]) = _
      rw [e2, e3]; rfl
    refine ⟨⟨?_, ?_⟩, ?_, fun x hx => ?_⟩
    · show (beatO B R F (some g)).1.length = _
      rw [eb, zl]; omega
    · show StandsTo B (beatO B R F (some g)).1 _
      rw [eb]
      rw [show g + 1 + (B.length - (g + 1)) = B.length by omega] at z; exact z
    · show (F.take (g + 1) ++ (F.drop (g + 1)).map fun f => -f).length = _
      rw [List.length_append, List.length_map, List.length_take, List.length_drop]; omega
    · rcases List.mem_append.mp (show x ∈ F.take (g + 1) ++ (F.drop (g + 1)).map fun f => -f from hx) with hx | hx
      · exact h.fo x (List.mem_of_mem_take hx)
      · exact negL_ok (F := F.drop (g + 1)) (fun y hy => h.fo y (List.mem_of_mem_drop hy)) x hx
theorem goB_back {B : List (List Int)} {R F : List Int} : ∀ (n k : Nat), k + n ≤ R.length → (∀ c, k ≤ c → c < k + n → R[c]? = some (endR ((lenAt B R c).getD 0) (F[c]?.getD 0))) → goB B F n (R.take k) = R.take (k + n)
  | 0, k, _, _ => rfl
  | n + 1, k, hl, h => by
    have hk : (R.take k).length = k := by rw [List.length_take]; omega
    have e : endR ((lenAt B (R.take k) (R.take k).length).getD 0) (F[(R.take k).length]?.getD 0) = endR ((lenAt B R k).getD 0) (F[k]?.getD 0) := by
      rw [hk, lenAt_pre fun i hi => List.getElem?_take_of_lt hi]
    show goB B F n (R.take k ++ [_]) = _
    rw [e]
    have e2 := h k (Nat.le_refl _) (by omega)
    have e3 : R.take k ++ [endR ((lenAt B R k).getD 0) (F[k]?.getD 0)] = R.take (k + 1) := by
      rw [List.take_add_one, e2]; rfl
    rw [e3, goB_back n (k + 1) (by omega) fun c c1 c2 => h c (by omega) (by omega)]
    rw [show k + 1 + n = k + (n + 1) by omega]
theorem beat_rev {B : List (List Int)} {hi : Int} {S : List Int × List Int} (G : GoodB B hi) (h : Ok B S) : beatM B (negS (beatM B S)) = negS S := by
  obtain ⟨R, F⟩ := S
  have hfl : F.length = B.length := h.fl
  have hRl : R.length = B.length := h.st.len
  cases hm : moverO B R F with
  | none =>
    have e : beatM B (R, F) = (R, negL F) := by unfold beatM; rw [show moverO B (R, F).1 (R, F).2 = none from hm]; rfl
    rw [e, show negS (R, negL F) = (R, F) from by unfold negS; rw [negL_neg], e]; rfl
  | some g =>
    obtain ⟨n, r, f, hg, e1, e2, e3, r1, r2, hne, hf, v1, v2⟩ := mover_new G h hm
    obtain ⟨_, _, hbl⟩ := movN_some (n := B.length) hm
    obtain ⟨s1, s2⟩ := take_stands (v := r + f) h.st hg e1 v1 v2
    let R' := goB B F (B.length - (g + 1)) (R.take g ++ [r + f])
    let F' := F.take (g + 1) ++ (F.drop (g + 1)).map fun f => -f
    have eT : beatM B (R, F) = (R', F') := by
      unfold beatM
      rw [show moverO B (R, F).1 (R, F).2 = some g from hm]
      show (goB B F _ (R.take g ++ [R[g]?.getD 0 + F[g]?.getD 0]), _) = _
      rw [e2, e3]; rfl
    have hR'l : R'.length = B.length := by
      have := goB_len B F (B.length - (g + 1)) (R.take g ++ [r + f])
      rw [s2] at this
      show (goB _ _ _ _).length = _
      omega
    have preR : ∀ i, i < g → R'[i]? = R[i]? := fun i hi => by
      show (goB _ _ _ _)[i]? = _
      rw [goB_pre B F _ _ i (by rw [s2]; omega), List.getElem?_append_left (by rw [List.length_take]; omega), List.getElem?_take_of_lt hi]
    have atR : R'[g]? = some (r + f) := by
      show (goB _ _ _ _)[g]? = _
      rw [goB_pre B F _ _ g (by rw [s2]; omega), List.getElem?_append_right (by rw [List.length_take]; omega), List.length_take]
      rw [show g - min g R.length = 0 by omega]; rfl
    have lenG : lenAt B R' g = some n := by rw [lenAt_pre preR]; exact e1
    have postR : ∀ c, g < c → c < B.length → R'[c]? = some (endR ((lenAt B R' c).getD 0) (F[c]?.getD 0)) := fun c c1 c2 =>
      goB_get B F _ _ c (by rw [s2]; omega) (by rw [s2]; omega)
    have NFpre : ∀ c, c ≤ g → (negL F')[c]? = (F[c]?).map fun f => -f := fun c hc => by
      rw [negL_get]
      show ((F.take (g + 1) ++ _)[c]?).map _ = _
      rw [List.getElem?_append_left (by rw [List.length_take]; omega), List.getElem?_take_of_lt (by omega)]
    have NFpost : ∀ c, g < c → (negL F')[c]? = F[c]? := fun c hc => by
      rw [negL_get]
      show ((F.take (g + 1) ++ (F.drop (g + 1)).map fun f => -f)[c]?).map _ = _
      by_cases hcl : c < F.length
      · rw [List.getElem?_append_right (by rw [List.length_take]; omega), List.length_take, List.getElem?_map, List.getElem?_drop]
        rw [show g + 1 + (c - min (g + 1) F.length) = c by omega, List.getElem?_eq_getElem hcl]
        simp
      · rw [List.getElem?_eq_none (by rw [List.length_append, List.length_map, List.length_take, List.length_drop]; omega), List.getElem?_eq_none (by omega)]; rfl
    have hm2 : moverO B R' (negL F') = some g := by
      refine movN_is (n := B.length) hg ?_ fun c c1 c2 => ?_
      · have z := isBl_iff (F := negL F') lenG atR (by rw [NFpre g (Nat.le_refl _), e3]; rfl)
        cases hb : isBl B R' (negL F') g with
        | false => rfl
        | true =>
          have z2 := z.mp hb
          unfold endR at z2 hne
          rcases hf with hf | hf <;> rw [hf] at z2 hne <;> simp at z2 hne <;> omega
      · unfold isBl
        rw [postR c c1 c2, NFpost c c1]
        exact decide_eq_true rfl
    have back : goB B (negL F') (B.length - (g + 1)) (R.take (g + 1)) = R := by
      rw [goB_back (B.length - (g + 1)) (g + 1) (by omega) fun c c1 c2 => ?_]
      · rw [show g + 1 + (B.length - (g + 1)) = R.length by omega, List.take_length]
      · have hb := hbl c (by omega) (by omega)
        obtain ⟨n2, r3, g1, g2, _, _⟩ := h.st.all c (by omega)
        have g3 : F[c]? = some F[c] := List.getElem?_eq_getElem (by omega)
        have z := (isBl_iff (F := F) g1 g2 g3).mp hb
        have g1' : lenAt B R c = some n2 := g1
        have g2' : R[c]? = some r3 := g2
        rw [NFpost c (by omega), g1', g2', g3, z]; rfl
    rw [eT]
    unfold beatM
    show beatO B R' (negL F') (moverO B R' (negL F')) = _
    rw [hm2]
    show (goB B (negL F') (B.length - (g + 1)) (R'.take g ++ [R'[g]?.getD 0 + (negL F')[g]?.getD 0]), (negL F').take (g + 1) ++ ((negL F').drop (g + 1)).map fun f => -f) = (R, negL F)
    have t1 : R'.take g ++ [R'[g]?.getD 0 + (negL F')[g]?.getD 0] = R.take (g + 1) := by
      rw [atR, NFpre g (Nat.le_refl _), e3, List.take_add_one, e2]
      have t0 : R'.take g = R.take g := by
        apply List.ext_getElem?
        intro i
        by_cases hi : i < g
        · rw [List.getElem?_take_of_lt hi, List.getElem?_take_of_lt hi, preR i hi]
        · rw [List.getElem?_eq_none (by rw [List.length_take]; omega), List.getElem?_eq_none (by rw [List.length_take]; omega)]
      rw [t0]
      show R.take g ++ [(r + f) + (-f)] = R.take g ++ [r]
      rw [show r + f + -f = r by omega]
    rw [t1, back]
    congr 1
    apply List.ext_getElem?
    intro i
    have hNl : (negL F').length = B.length := by
      rw [negL_len]
      show (F.take (g + 1) ++ (F.drop (g + 1)).map fun f => -f).length = _
      rw [List.length_append, List.length_map, List.length_take, List.length_drop]; omega
    by_cases hi : i ≤ g
    · rw [List.getElem?_append_left (by rw [List.length_take]; omega), List.getElem?_take_of_lt (by omega), NFpre i hi, negL_get]
    · rw [List.getElem?_append_right (by rw [List.length_take]; omega), List.length_take, List.getElem?_map, List.getElem?_drop]
      rw [show g + 1 + (i - min (g + 1) (negL F').length) = i by omega, NFpost i (by omega), negL_get F i]
/-! beats along -/
def alongL (B : List (List Int)) : Nat → List Int × List Int → List (List Int × List Int)
  | 0, S => [S]
  | n + 1, S => alongL B n S ++ [beatM B ((alongL B n S).getLast?.getD S)]
def itB (B : List (List Int)) : Nat → List Int × List Int → List Int × List Int
  | 0, S => S
  | n + 1, S => beatM B (itB B n S)
theorem alongL_len (B : List (List Int)) : ∀ (n : Nat) (S : List Int × List Int), (alongL B n S).length = n + 1
  | 0, _ => rfl
  | n + 1, S => by
    show (alongL B n S ++ [_]).length = _
    rw [List.length_append, alongL_len B n S]; rfl
theorem alongL_last (B : List (List Int)) : ∀ (n : Nat) (S : List Int × List Int), (alongL B n S).getLast? = some (itB B n S)
  | 0, _ => rfl
  | n + 1, S => by
    show (alongL B n S ++ [_]).getLast? = _
    rw [List.getLast?_append, alongL_last B n S]; rfl
theorem alongL_succ (B : List (List Int)) (n : Nat) (S : List Int × List Int) : alongL B (n + 1) S = alongL B n S ++ [beatM B (itB B n S)] := by
  show alongL B n S ++ [beatM B ((alongL B n S).getLast?.getD S)] = _
  rw [alongL_last]; rfl
theorem itB_ok {B : List (List Int)} {hi : Int} (G : GoodB B hi) : ∀ (n : Nat) {S : List Int × List Int}, Ok B S → Ok B (itB B n S)
  | 0, _, h => h
  | n + 1, _, h => beat_ok G (itB_ok G n h)
def stD (S : List Int × List Int) : PyData := stateT S.1 S.2
end Af
namespace Af
open PySem PySem.Spec PyProof.Rows L2
theorem st_sz {B : List (List Int)} {S : List Int × List Int} (h : Ok B S) (hl : B.length ≤ 1000) : (stD S).depth ≤ 8 ∧ (stD S).bulk ≤ 100000 := by
  have h1 := h.st.len
  have h2 := h.fl
  refine ⟨?_, ?_⟩
  · simp only [stD, stateT, PyData.depth, PyData.depthAll, depth_row]; omega
  · simp only [stD, stateT, PyData.bulk, PyData.bulkAll, bulk_row]; omega
theorem st_zz {B : List (List Int)} {S : List Int × List Int} (h : Ok B S) (hl : B.length ≤ 1000) : Sz (stD S) := by
  have := st_sz h hl
  exact ⟨by omega, by omega⟩
theorem st_three {B : List (List Int)} {S1 S2 S3 : List Int × List Int} (h1 : Ok B S1) (h2 : Ok B S2) (h3 : Ok B S3) (hl : B.length ≤ 1000) : Sz (.list [stD S1, stD S2, stD S3]) :=
  sz_list3 (st_sz h1 hl).1 (st_sz h2 hl).1 (st_sz h3 hl).1 (st_sz h1 hl).2 (st_sz h2 hl).2 (st_sz h3 hl).2
theorem st_two {B : List (List Int)} {S1 S2 : List Int × List Int} (h1 : Ok B S1) (h2 : Ok B S2) (hl : B.length ≤ 1000) : Sz (.list [stD S1, stD S2]) :=
  sz_list2 (st_sz h1 hl).1 (st_sz h2 hl).1 (st_sz h1 hl).2 (st_sz h2 hl).2
theorem eqv_ints : ∀ ns : List Int, PyData.eqvAll (ns.map PyData.int) (ns.map PyData.int) = true
  | [] => by simp [PyData.eqvAll]
  | n :: ns => by simp [PyData.eqvAll, PyData.eqv, eqv_ints ns]
theorem eqv_state (R F : List Int) : PyData.eqv (stateT R F) (stateT R F) = true := by
  simp [stateT, rowT, PyData.eqv, PyData.eqvAll, eqv_ints]
theorem shaped_state (R F : List Int) : SeqAt.shaped (stateT R F) = true := by
  have h1 : (stateT R F).canLay0 = true := by
    have a : ∀ ns : List Int, PyData.canLayAll0 (ns.map PyData.int) = true := fun ns => by
      induction ns with
      | nil => simp [PyData.canLayAll0]
      | cons n ns ih => simp [PyData.canLayAll0, PyData.canLay0, ih]
    simp [stateT, rowT, PyData.canLay0, PyData.canLayAll0, a]
  have h2 : (stateT R F).depth ≤ 64 := by simp only [stateT, PyData.depth, PyData.depthAll, depth_row]; omega
  show ((stateT R F).canLay0 && decide ((stateT R F).depth ≤ 64)) = true
  rw [h1, decide_eq_true h2]; rfl
end Af
namespace Af
open PySem PySem.Spec PyProof.Rows L2
/-! ### what is written out: new data -/
def tNew (K : PySem.W.Frag) (d : PyData) : TE := fun _ H Q => ∀ v H', Same H H' → NewD K H H' v d → Q v H'
def tNewT (K : PySem.W.Frag) (d : PyData) : TE := fun _ H Q => ∀ p H', Same H H' → H p = none → H' p ≠ none → NewD K H H' (.ref p) d → Q (.ref p) H'
def tNews (K : PySem.W.Frag) (ds : List PyData) : TA := fun _ H Q => ∀ vs H', Same H H' → NewDs K H H' vs ds → Q vs H'
section
variable {X : Cx} {e : Expr} {es : List Expr} {d : PyData} {ds : List PyData}
theorem pe_mono {t t' : TE} (h : PE X e t) (i : ∀ σ H Q, t' σ H Q → t σ H Q) : PE X e t' := ⟨fun pins s σ H Q I q => h.run pins s σ H Q I (i σ H Q q)⟩
theorem pn_int {i j pos} : PE X (.Constant (.int i) j pos) (tNew X.K (.int i)) := pe_mono pe_int fun σ H Q q => q _ H (Same.refl _) (.int i)
theorem pn_non {j pos} : PE X (.Constant .none j pos) (tNew X.K .none) := pe_mono pe_non fun σ H Q q => q _ H (Same.refl _) .non
theorem pn_neg {i j p pos} : PE X (.UnaryOp .USub (.Constant (.int i) j p) pos) (tNew X.K (.int (-i))) := pe_mono (pe_un un_neg pe_int) fun σ H Q q => ⟨i, rfl, q _ H (Same.refl _) (.int (-i))⟩
theorem pn_nil : PA X [] (tNews X.K []) := ⟨fun pos pins s σ H Q I q => pa_nil.run pos pins s σ H Q I (q [] H (Same.refl _) .nil)⟩
theorem pn_cons (ha : PE X e (tNew X.K d)) (hr : PA X es (tNews X.K ds)) (hs : starEach (e :: es) X.env = (false, eval e X.env) :: starEach es X.env := by rfl) : PA X (e :: es) (tNews X.K (d :: ds)) :=
  ⟨fun pos pins s σ H Q I q => (pa_cons ha hr hs).run pos pins s σ H Q I fun v H1 s1 h1 vs H2 s2 h2 => q (v :: vs) H2 (s1.trans s2) (.cons (h1.up s2) (dps_up h2 (fresh_down s1)))⟩
theorem pn_tupT {k pos} (h : PA X es (tNews X.K ds)) (hz : ds.length ≤ 1000 := by decide) : PE X (.Tuple es k pos) (tNewT X.K (.tuple ds)) := pe_mono (pe_tup h) fun σ H Q q vs H' s' hd =>
  ⟨by rw [hd.len]; exact Nat.le_of_lt (small1000 hz), fun p np => q p _ (s'.trans (same_new np)) (s'.free np) (by rw [upd_same]; exact fun z => nomatch z) (new_tup (s'.free np) upd_same (hd.up (same_new np)))⟩
theorem pn_tup {k pos} (h : PA X es (tNews X.K ds)) (hz : ds.length ≤ 1000 := by decide) : PE X (.Tuple es k pos) (tNew X.K (.tuple ds)) := pe_mono (pn_tupT h hz) fun σ H Q q p H' s' _ _ hd => q _ H' s' hd
theorem pn_lst {pos} (h : PA X es (tNews X.K ds)) (hz : ds.length ≤ 1000 := by decide) : PE X (.List es pos) (tNew X.K (.list ds)) := pe_mono (pe_lst h) fun σ H Q q vs H' s' hd =>
  ⟨by rw [hd.len]; exact Nat.le_of_lt (small1000 hz), fun p np => q _ _ (s'.trans (same_new np)) (new_lst (s'.free np) upd_same (hd.up (same_new np)))⟩
end
/-! ### checkers -/
def standsB (B : List (List Int)) (R : List Int) : Bool := R.length == B.length && (List.range B.length).all fun c => match lenAt B R c, R[c]? with
  | some n, some r => decide (1 ≤ r) && decide (r ≤ n)
  | _, _ => false
theorem stands_of {B : List (List Int)} {R : List Int} (h : standsB B R = true) : Stands B R := by
  unfold standsB at h
  rw [Bool.and_eq_true, beq_iff_eq, List.all_eq_true] at h
  refine ⟨h.1, fun c hc => ?_⟩
  have := h.2 c (List.mem_range.mpr hc)
  cases e1 : lenAt B R c with
  | none => rw [e1] at this; cases this
  | some n =>
    cases e2 : R[c]? with
    | none => rw [e1, e2] at this; cases this
    | some r =>
      rw [e1, e2] at this
      have := Bool.and_eq_true_iff.mp this
      exact ⟨n, r, rfl, rfl, of_decide_eq_true this.1, of_decide_eq_true this.2⟩
def okB (B : List (List Int)) (S : List Int × List Int) : Bool := standsB B S.1 && (S.2.length == B.length && S.2.all fun f => f == 1 || f == -1)
theorem ok_of {B : List (List Int)} {S : List Int × List Int} (h : okB B S = true) : Ok B S := by
  unfold okB at h
  rw [Bool.and_eq_true, Bool.and_eq_true, beq_iff_eq, List.all_eq_true] at h
  refine ⟨stands_of h.1, h.2.1, fun f hf => ?_⟩
  have := h.2.2 f hf
  rw [Bool.or_eq_true, beq_iff_eq, beq_iff_eq] at this
  exact this
def goodB (B : List (List Int)) (hi : Int) : Bool := (match B[0]? with | some [_] => true | _ => false) && ((List.range B.length).all fun k => match B[k]?, B[k + 1]? with
  | some (n :: ns), some r => decide ((r.length : Int) = ns.foldl max n)
  | _, _ => true) && (B.all fun r => !r.isEmpty && r.all fun x => decide (1 ≤ x) && decide (x ≤ hi))
theorem good_of {B : List (List Int)} {hi : Int} (h : goodB B hi = true) : GoodB B hi := by
  unfold goodB at h
  rw [Bool.and_eq_true, Bool.and_eq_true, List.all_eq_true, List.all_eq_true] at h
  obtain ⟨⟨h1, h2⟩, h3⟩ := h
  refine ⟨?_, fun k n ns r e1 e2 => ?_, fun r hr x hx => ?_, fun r hr e => ?_⟩
  · match e : B[0]?, h1 with
    | some [n], _ => exact ⟨n, rfl⟩
  · have hk : k < B.length := (List.getElem?_eq_some_iff.mp e1).1
    have := h2 k (List.mem_range.mpr hk)
    rw [e1, e2] at this
    exact of_decide_eq_true this
  · have := h3 r hr
    rw [Bool.and_eq_true, List.all_eq_true] at this
    have := Bool.and_eq_true_iff.mp (this.2 x hx)
    exact ⟨of_decide_eq_true this.1, of_decide_eq_true this.2⟩
  · have := h3 r hr
    rw [e] at this; cases this
theorem st_small {B : List (List Int)} {S : List Int × List Int} (h : Ok B S) (hl : B.length ≤ 100) : (stD S).depth ≤ 4 ∧ (stD S).bulk ≤ 500 := by
  have h1 := h.st.len
  have h2 := h.fl
  refine ⟨?_, ?_⟩
  · simp only [stD, stateT, PyData.depth, PyData.depthAll, depth_row]; omega
  · simp only [stD, stateT, PyData.bulk, PyData.bulkAll, bulk_row]; omega
theorem sts_small {B : List (List Int)} (hl : B.length ≤ 100) : ∀ L : List (List Int × List Int), (∀ S ∈ L, Ok B S) → PyData.depthAll (L.map stD) ≤ 4 ∧ PyData.bulkAll (L.map stD) ≤ 501 * L.length
  | [], _ => by simp [PyData.depthAll, PyData.bulkAll]
  | S :: L, h => by
    have i := sts_small hl L fun x hx => h x (List.mem_cons_of_mem _ hx)
    have j := st_small (h S List.mem_cons_self) hl
    simp only [List.map_cons, PyData.depthAll, PyData.bulkAll, List.length_cons]
    omega
theorem along_ok {B : List (List Int)} {hi : Int} (G : GoodB B hi) : ∀ (n : Nat) {S : List Int × List Int}, Ok B S → ∀ x ∈ alongL B n S, Ok B x
  | 0, S, h => fun x hx => by
    obtain rfl : x = S := by simpa [alongL] using hx
    exact h
  | n + 1, S, h => fun x hx => by
    rw [alongL_succ] at hx
    rcases List.mem_append.mp hx with hx | hx
    · exact along_ok G n h x hx
    · obtain rfl : x = beatM B (itB B n S) := by simpa using hx
      exact beat_ok G (itB_ok G n h)
theorem along_list {B : List (List Int)} {hi : Int} (G : GoodB B hi) (hl : B.length ≤ 100) {n : Nat} (hn : n ≤ 60) {S : List Int × List Int} (h : Ok B S) :
    (PyData.list ((alongL B n S).map stD)).depth ≤ 8 ∧ (PyData.list ((alongL B n S).map stD)).bulk ≤ 100000 := by
  have i := sts_small hl _ (along_ok G n h)
  have j := alongL_len B n S
  simp only [PyData.depth, PyData.bulk]
  omega
theorem last_at {α : Type} {l : List α} {n : Nat} {x : α} (hl : l.length = n + 1) (h : l[n]? = some x) : ∃ k, l = k ++ [x] := by
  refine ⟨l.take n, ?_⟩
  apply List.ext_getElem?
  intro i
  by_cases hi : i < n
  · rw [List.getElem?_append_left (by rw [List.length_take]; omega), List.getElem?_take_of_lt hi]
  · by_cases hi2 : i = n
    · subst hi2
      rw [List.getElem?_append_right (by rw [List.length_take]; omega), List.length_take, h, show i - min i l.length = 0 by omega]; rfl
    · rw [List.getElem?_eq_none (by omega), List.getElem?_eq_none (by simp; omega)]
theorem dps_take1 {K : PySem.W.Frag} {H : Hp} : ∀ {vs : List V} {ds : List PyData}, DpAll K H vs ds → DpAll K H (vs.take 1) (ds.take 1)
  | [], [], _ => .nil
  | [], _ :: _, h => by cases h
  | _ :: _, [], h => by cases h
  | v :: vs, d :: ds, h => by
    cases h with
    | cons a _ => exact .cons a .nil
theorem cut_take1 (xs : List V) : cutV xs none (some 1) = xs.take 1 := by
  unfold cutV
  rw [show (some 1 : Option Int) = some ((1 : Nat) : Int) from rfl, HT.sIx_nat, HT.sIx_none, List.drop_zero, Nat.sub_zero]
  cases xs with
  | nil => rfl
  | cons a l => rw [show min 1 (a :: l).length = 1 by simp only [List.length_cons]; omega]
/-- a state that is written out -/
theorem new_st {K : PySem.W.Frag} {H : Hp} {t1 t2 t3 : Addr} {A F : List Int} (n1 : H t1 = none) (n2 : (upd H t1 (.tup (A.map V.int))) t2 = none) (n3 : (upd (upd H t1 (.tup (A.map V.int))) t2 (.tup (F.map V.int))) t3 = none) :
    NewD K H (upd (upd (upd H t1 (.tup (A.map V.int))) t2 (.tup (F.map V.int))) t3 (.tup [.ref t1, .ref t2])) (.ref t3) (stD (A, F)) := by
  have s1 := same_new (o := .tup (A.map V.int)) n1
  have s2 := same_new (o := .tup (F.map V.int)) n2
  have s3 := same_new (o := .tup [.ref t1, .ref t2]) n3
  refine new_tup ((s1.trans s2).free n3) upd_same (.cons (new_tup n1 ((s2.trans s3) _ _ upd_same) (new_ints A)) (.cons (new_tup (s1.free n2) (s3 _ _ upd_same) (new_ints F)) .nil))
end Af
namespace Af
open PySem PySem.Spec PyProof.Rows L2
def topS (i : Nat) : Stmt := PySem.Challenge.pw_aboutface_k06_known_beats.main.body.getD i (.Pass ⟨0, 0, 0, 0⟩)
abbrev sLengthOf : Stmt := topS 1
theorem scLengthOf : FnScope ["book", "rungs", "climber"] ["book", "rungs", "climber"] (defScope sLengthOf) := ⟨rfl, rfl, rfl, by decide +kernel, rfl, by decide +kernel, by decide +kernel⟩
abbrev sLengths : Stmt := topS 2
theorem scLengths : FnScope ["book", "standing", "climber"] ["book", "standing"] (defScope sLengths) := ⟨rfl, rfl, rfl, by decide +kernel, rfl, by decide +kernel, by decide +kernel⟩
abbrev sEndRung : Stmt := topS 4
theorem scEndRung : FnScope ["length", "face"] ["length", "face"] (defScope sEndRung) := ⟨rfl, rfl, rfl, by decide +kernel, rfl, by decide +kernel, by decide +kernel⟩
abbrev sBlocked : Stmt := topS 5
theorem scBlocked : FnScope ["book", "state", "standing", "faces", "ladders", "climber"] ["book", "state"] (defScope sBlocked) := ⟨rfl, rfl, rfl, by decide +kernel, rfl, by decide +kernel, by decide +kernel⟩
abbrev sMover : Stmt := topS 6
theorem scMover : FnScope ["book", "state", "stuck", "free", "climber"] ["book", "state"] (defScope sMover) := ⟨rfl, rfl, rfl, by decide +kernel, rfl, by decide +kernel, by decide +kernel⟩
abbrev sTurned : Stmt := topS 7
theorem scTurned : FnScope ["state", "standing", "faces", "face"] ["state"] (defScope sTurned) := ⟨rfl, rfl, rfl, by decide +kernel, rfl, by decide +kernel, by decide +kernel⟩
abbrev sBeat : Stmt := topS 8
theorem scBeat : FnScope ["book", "state", "goer", "standing", "faces", "rungs", "climber", "kept", "negated", "face"] ["book", "state"] (defScope sBeat) := ⟨rfl, rfl, rfl, by decide +kernel, rfl, by decide +kernel, by decide +kernel⟩
abbrev sBeatsAlong : Stmt := topS 9
theorem scBeatsAlong : FnScope ["book", "state", "many", "standing", "faces", "states", "number"] ["book", "state", "many"] (defScope sBeatsAlong) := ⟨rfl, rfl, rfl, by decide +kernel, rfl, by decide +kernel, by decide +kernel⟩
abbrev sLawBox : Stmt := topS 11
theorem scLawBox : FnScope ["_law_script", "_law_k", "_law_cell"] ["_law_script", "_law_k"] (defScope sLawBox) := ⟨rfl, rfl, rfl, by decide +kernel, rfl, by decide +kernel, by decide +kernel⟩
abbrev sLawTake : Stmt := topS 12
theorem scLawTake : FnScope ["_law_box_here", "_law_span", "_law_found", "_law_once"] ["_law_box_here", "_law_span"] (defScope sLawTake) := ⟨rfl, rfl, rfl, by decide +kernel, rfl, by decide +kernel, by decide +kernel⟩
abbrev sLawCells : Stmt := topS 13
theorem scLawCells : FnScope ["_law_script", "_law_most", "_law_cells_here", "_law_k", "_law_cell"] ["_law_script", "_law_most"] (defScope sLawCells) := ⟨rfl, rfl, rfl, by decide +kernel, rfl, by decide +kernel, by decide +kernel⟩
abbrev sLawSame : Stmt := topS 14
theorem scLawSame : FnScope ["_law_found", "_law_due", "_law_mine", "_law_its"] ["_law_found", "_law_due"] (defScope sLawSame) := ⟨rfl, rfl, rfl, by decide +kernel, rfl, by decide +kernel, by decide +kernel⟩
abbrev sLawOneRight : Stmt := topS 15
theorem scLawOneRight : FnScope ["_law_long", "_law_up", "_law_rung", "_law_due"] ["_law_long"] (defScope sLawOneRight) := ⟨rfl, rfl, rfl, by decide +kernel, rfl, by decide +kernel, by decide +kernel⟩
abbrev sLawTwoRight : Stmt := topS 16
theorem scLawTwoRight : FnScope ["_law_long", "_law_shelf", "_law_here", "_law_looks", "_law_rung", "_law_due"] ["_law_long"] (defScope sLawTwoRight) := ⟨rfl, rfl, rfl, by decide +kernel, rfl, by decide +kernel, by decide +kernel⟩
abbrev sLawThreeRight : Stmt := topS 17
theorem scLawThreeRight : FnScope ["_law_shelf", "_law_told"] [] (defScope sLawThreeRight) := ⟨rfl, rfl, rfl, by decide +kernel, rfl, by decide +kernel, by decide +kernel⟩
abbrev sLawRight : Stmt := topS 18
theorem scLawRight : FnScope ["_law_box_here"] ["_law_box_here"] (defScope sLawRight) := ⟨rfl, rfl, rfl, by decide +kernel, rfl, by decide +kernel, by decide +kernel⟩
abbrev sLaw : Stmt := topS 19
theorem scLaw : FnScope ["_law_script", "_law_cells_here", "_law_k", "_law_box_here", "_law_turn"] ["_law_script"] (defScope sLaw) := ⟨rfl, rfl, rfl, by decide +kernel, rfl, by decide +kernel, by decide +kernel⟩
end Af
namespace Af
open PySem PySem.Spec PyProof.Rows L2
section
variable {P : Program} {w : World} {K : PySem.W.Frag} {mg : Str → Option Value} {base : Heap}
/-! length_of -/
def spLengthOf (K : PySem.W.Frag) : Sp := fun vs H Q _ => ∃ (b r : V) (c : Nat) (bd rd : PyData) (B : List (List Int)) (R : List Int) (n : Int), vs = [b, r, .int c] ∧ Dp K H b bd ∧ BookD bd B ∧ Dp K H r rd ∧ RowD rd R ∧ lenAt B R c = some n ∧ Q (.int n) H
theorem ok_length_of {f : Addr} {fd : FuncData} {k : Nat} (F : Fun K "length_of" "length_of" sLengthOf f fd) : FnOk P w K mg base CX0 (k + 1) f fd ["book", "rungs", "climber"] (spLengthOf K) := by
  refine F.ok scLengthOf (fun vs H Q E h => ?_) (fun cdv A outer s H vs Q E hr h => ?_)
  · obtain ⟨_, _, _, _, _, _, _, _, rfl, _⟩ := h; rfl
  obtain ⟨b, r, c, bd, rd, B, R, n, rfl, hb, hB, hr', hR, hl, q⟩ := h
  refine ⟨_, pss_cons (ps_if (pt_cmpR op_eq (pv 2) pe_int (nomark _)) (pss_one (ps_ret (pe_ix ix_seq (pe_ix ix_seq (pv 0) pe_int (fun _ _ => rfl)) pe_int (fun _ _ => rfl)))) pss_nil)
    (pss_one (ps_ret (pe_ix ix_seq (pe_ix ix_seq (pv 0) (pv 2) (fun _ _ => rfl)) (pe_op op_sub (pe_ix ix_seq (pv 1) (pe_op op_sub (pv 2) pe_int) (fun _ _ => rfl)) pe_int) (fun _ _ => rfl)))), ?_⟩
  refine ⟨_, rfl, rfl, _, rfl, ?_⟩
  refine ite2 (fun e => ?_) (fun e => ?_)
  · have e0 : c = 0 := by have := V.int.inj (of_decide_eq_true e); omega
    subst e0
    obtain ⟨row, e1, e2⟩ := lenAt_zero hl
    obtain ⟨a, xs, ra, rfl, h1, h2, h3⟩ := book_row hb hB e1
    exact ⟨_, rfl, ix_of h1 (atI_nat (j := 0) h2) (ix_of h3 (atI_nat (j := 0) (by rw [List.getElem?_map, e2]; rfl)) q)⟩
  · cases c with
    | zero => exact absurd (decide_eq_true rfl) e
    | succ c =>
      obtain ⟨row, r1, e1, e2, e3, e4⟩ := lenAt_succ hl
      obtain ⟨a, xs, ra, rfl, h1, h2, h3⟩ := book_row hb hB e1
      obtain ⟨sa, rfl, h4⟩ := row_at hr' hR
      have z1 : ((c + 1 : Nat) : Int) - 1 = (c : Nat) := by omega
      have z2 : r1 - 1 = (((r1 - 1).toNat : Nat) : Int) := by omega
      refine ⟨_, rfl, _, rfl, ix_of h1 (atI_nat (j := c + 1) h2) ?_⟩
      refine ⟨_, rfl, _, rfl, _, _, rfl, rfl, ?_⟩
      show rIx K (V.ref sa) (V.int (((c + 1 : Nat) : Int) - 1)) H _
      rw [z1]
      refine ix_of h4 (atI_nat (j := c) (by rw [List.getElem?_map, e2]; rfl)) ⟨_, _, rfl, rfl, ?_⟩
      show rIx K (V.ref ra) (V.int (r1 - 1)) H _
      rw [z2]
      exact ix_of h3 (atI_nat (by rw [List.getElem?_map, e4]; rfl)) q
end
end Af
namespace Af
open PySem PySem.Spec PyProof.Rows L2
section
variable {P : Program} {w : World} {K : PySem.W.Frag} {mg : Str → Option Value} {base : Heap}
/-! _law_take: some number below the span -/
def spTake : Sp := fun vs H Q _ => ∃ (bx : Addr) (span : Int) (m : Nat), vs = [.ref bx, .int span] ∧ Box H bx m ∧ m ≤ 1000000000 ∧ 1 ≤ span ∧ span ≤ 10000000 ∧
  ∀ (r : Int) (H' : Hp), 0 ≤ r → r < span → Box H' bx (m + 1) → hid H' bx = hid H bx → Q (.int r) H'
theorem ok_take {f : Addr} {fd : FuncData} {k : Nat} (F : Fun K "_law_take" "_law_take" sLawTake f fd) : FnOk P w K mg base CX0 (k + 1) f fd ["_law_box_here", "_law_span"] spTake := by
  refine F.ok scLawTake (fun vs H Q E h => ?_) (fun cdv A outer s H vs Q E hr h => ?_)
  · obtain ⟨_, _, _, rfl, _⟩ := h; rfl
  obtain ⟨bx, span, m, rfl, hB, hm, s1, s2, q⟩ := h
  refine ⟨_, pss_cons (ps_if (pt_cmpR op_gt (pe_ix ix_list (pv 0) pe_int (fun _ _ => rfl)) pe_int (nomark _))
      (pss_cons (ps_set (i := 2) scLawTake.nd rfl (.inl rfl) (pe_op op_mod (pe_ix ix_list (pv 0) pe_int (fun _ _ => rfl)) (pv 1)))
      (pss_cons (ps_asg (pe_op op_fdiv (pe_ix ix_list (pv 0) pe_int (fun _ _ => rfl)) (pv 1)) (pg_sub (pv 0) pe_int set_list))
      (pss_one (ps_ret (pv 2))))) pss_nil)
    (pss_cons (ps_if (pt_cmpR op_gt (pv 1) (pe_op op_pow pe_int pe_int) (nomark _)) pss_never pss_nil)
    (pss_cons (ps_asg (pe_op op_add (pe_ix ix_list (pv 0) pe_int (fun _ _ => rfl)) pe_int) (pg_sub (pv 0) pe_int set_list))
    (pss_cons (ps_set (i := 3) scLawTake.nd rfl (.inl rfl) (pe_op op_mod (pe_op op_pow (pe_op op_add (pe_ix ix_list (pv 0) pe_int (fun _ _ => rfl)) (pe_op op_mul pe_int (pe_ix ix_list (pv 0) pe_int (fun _ _ => rfl)))) pe_int) pe_int))
    (pss_one (ps_ret (pe_op op_mod (pe_op op_fdiv (pe_op op_mod (pe_op op_add (pe_op op_mul (pv 3) (pe_op op_add (pe_op op_mod (pv 3) pe_int) pe_int)) (pe_op op_mul (pe_ix ix_list (pv 0) pe_int (fun _ _ => rfl)) pe_int)) pe_int) pe_int) (pv 1))))))), ?_⟩
  obtain ⟨a, b, c, hb, a0, b0, b1, c0, c1⟩ := hB
  have hL : SqL K H bx [.int a, .int b, .int c] := SqL.of hb
  refine ⟨_, rfl, bx, _, 0, _, rfl, rfl, hL, atI_nat (j := 0) rfl, _, _, rfl, rfl, _, rfl, ?_⟩
  refine ite2 (fun e => ?_) (fun e => ?_)
  · refine ⟨_, rfl, bx, _, 0, _, rfl, rfl, hL, atI_nat (j := 0) rfl, _, rfl, _, _, rfl, rfl, (show (0 : Int) < span by omega), ?_⟩
    refine ⟨_, rfl, bx, _, 0, _, rfl, rfl, hL, atI_nat (j := 0) rfl, _, rfl, _, _, rfl, rfl, ⟨(show (0 : Int) < span by omega), (show span < 1073741824 by omega)⟩, ?_⟩
    refine ⟨_, rfl, bx, _, 0, 0, rfl, rfl, hb, rfl, ?_⟩
    refine ⟨_, rfl, q (a % span) _ (Int.emod_nonneg _ (by omega)) (Int.emod_lt_of_pos _ (by omega)) ?_ hid_upd⟩
    exact ⟨a / span, b, c, upd_same, Int.ediv_nonneg a0 (by omega), b0, b1, c0, by omega⟩
  · refine ⟨_, rfl, _, _, rfl, rfl, ⟨by decide, by decide, by decide⟩, _, _, rfl, rfl, _, rfl, ?_⟩
    refine ite2 (fun e2 => ?_) (fun _ => ?_)
    · have z : (10 : Int) ^ (7 : Int).toNat < span := of_decide_eq_true e2
      have z2 : (10 : Int) ^ (7 : Int).toNat = 10000000 := by decide
      omega
    · refine ⟨_, rfl, bx, _, 2, _, rfl, rfl, hL, atI_nat (j := 2) rfl, _, _, rfl, rfl, ?_⟩
      refine ⟨_, rfl, bx, _, 2, 2, rfl, rfl, hb, rfl, ?_⟩
      show _
      have hb2 : (upd H bx (.lst [.int a, .int b, .int (c + 1)])) bx = some (.lst [.int a, .int b, .int (c + 1)]) := upd_same
      have hL2 : SqL K (upd H bx (.lst [.int a, .int b, .int (c + 1)])) bx [.int a, .int b, .int (c + 1)] := SqL.of hb2
      refine ⟨_, rfl, bx, _, 1, _, rfl, rfl, hL2, atI_nat (j := 1) rfl, _, rfl, bx, _, 2, _, rfl, rfl, hL2, atI_nat (j := 2) rfl, _, _, rfl, rfl, .inl ⟨by decide, by decide⟩, _, _, rfl, rfl, _, _, rfl, rfl, ⟨by decide, by decide, ?_⟩, _, _, rfl, rfl, (show (0 : Int) < 2147483647 by decide), ?_⟩
      · show (b + 39373 * (c + 1)).natAbs < 2 ^ 64
        have : b < 4611686018427387904 := b1
        have e64 : (2 : Nat) ^ 64 = 18446744073709551616 := by decide
        omega
      · generalize ho : (b + 39373 * (c + 1)) ^ (5 : Int).toNat % 2147483647 = once
        have o1 : 0 ≤ once := by rw [← ho]; exact Int.emod_nonneg _ (by decide)
        have o2 : once < 2147483647 := by rw [← ho]; exact Int.emod_lt_of_pos _ (by decide)
        refine ⟨_, rfl, _, rfl, _, _, rfl, rfl, (show (0 : Int) < 40009 by decide), _, _, rfl, rfl, _, _, rfl, rfl, .inl ⟨by omega, by omega⟩, _, rfl, bx, _, 2, _, rfl, rfl, hL2, atI_nat (j := 2) rfl, _, _, rfl, rfl, .inr ⟨by decide, by decide⟩, _, _, rfl, rfl, _, _, rfl, rfl, (show (0 : Int) < 2147483629 by decide), _, _, rfl, rfl, ⟨by decide, by decide⟩, _, rfl, _, _, rfl, rfl, (show (0 : Int) < span by omega), ?_⟩
        exact q _ _ (Int.emod_nonneg _ (by omega)) (Int.emod_lt_of_pos _ (by omega)) ⟨a, b, c + 1, upd_same, a0, b0, b1, by omega, by omega⟩ hid_upd
end
end Af
namespace Af
open PySem PySem.Spec PyProof.Rows L2
section
variable {P : Program} {w : World} {K : PySem.W.Frag} {mg : Str → Option Value} {base : Heap}
/-! _law_box -/
theorem b01 (b : Bool) : -(2 ^ 64) < (if b = true then (1 : Int) else 0) ∧ (if b = true then (1 : Int) else 0) < 2 ^ 64 := by cases b <;> exact ⟨by decide, by decide⟩
theorem b01n (b : Bool) : 0 ≤ (if b = true then (1 : Int) else 0) := by cases b <;> decide
def spBox (K : PySem.W.Frag) : Sp := fun vs H Q _ => ∃ (a : Addr) (ns : List Int) (k : Nat), vs = [.ref a, .int k] ∧ SqL K H a (ns.map V.int) ∧ k ≤ 1000 ∧
  ∀ (p : Addr) (H' : Hp), H p = none → Same H (hid H' p) → Box H' p 0 → Q (.ref p) H'
theorem ok_box {f : Addr} {fd : FuncData} {k : Nat} (T : Bl mg) (F : Fun K "_law_box" "_law_box" sLawBox f fd) : FnOk P w K mg base CX0 (k + 1) f fd ["_law_script", "_law_k"] (spBox K) := by
  refine F.ok scLawBox (fun vs H Q E h => ?_) (fun cdv A outer s H vs Q E hr h => ?_)
  · obtain ⟨_, _, _, rfl, _⟩ := h; rfl
  obtain ⟨a, ns, k, rfl, hS, hk, q⟩ := h
  refine ⟨_, C8.pss_cut (ps_set (i := 2) scLawBox.nd rfl (.inl rfl) (pe_ifExp (pt_cmpR op_lt (pv 1) (pe_callB call_len_seq rfl T.len bLen (pa_cons (pv 0) pa_nil)) (nomark _)) (pe_ix ix_list (pv 0) (pv 1) (fun _ _ => rfl)) pe_int))
    (pss_one (ps_ret (pe_lst (pa_cons (pe_op op_mul (pe_callB call_abs rfl T.abs bAbs (pa_cons (pv 2) pa_nil)) (pe_callTy call_int1 rfl T.int bInt (pa_cons (pe_cmpR op_ge (pe_callB call_abs rfl T.abs bAbs (pa_cons (pv 2) pa_nil)) (pe_op op_pow pe_int pe_int) (nomark _)) pa_nil)))
      (pa_cons (pe_op op_add (pe_op op_add (pe_op op_mod (pv 2) pe_int) (pe_op op_mul pe_int (pv 1))) pe_int) (pa_cons pe_int pa_nil)))))), ?_⟩
  refine ⟨fun σ H' => ∃ c : Int, σ = [some (.ref a), some (.int k), some (.int c)] ∧ H' = H, ?_, ?_⟩
  · refine ⟨_, rfl, _, rfl, a, _, rfl, .inl hS, _, _, rfl, rfl, _, rfl, ?_⟩
    refine ite2 (fun e => ?_) (fun e => ?_)
    · have hlt : k < ns.length := by
        have z : (k : Int) < (((ns.map V.int).length : Nat) : Int) := of_decide_eq_true e
        rw [List.length_map] at z; omega
      exact ⟨_, rfl, _, rfl, a, _, _, _, rfl, rfl, hS, atI_nat (by rw [List.getElem?_map, List.getElem?_eq_getElem hlt]; rfl), _, rfl, rfl⟩
    · exact ⟨_, rfl, rfl⟩
  · rintro σ H' ⟨c, rfl, rfl⟩
    have hi : ∀ x : Int, 0 ≤ (if x < 0 then -x else x) := fun x => by split <;> omega
    refine ⟨_, rfl, _, rfl, _, rfl, _, rfl, _, _, rfl, rfl, ⟨by decide, by decide, by decide⟩, _, _, rfl, rfl, .inr ⟨_, rfl, _, _, rfl, rfl, .inr ?_, ?_⟩⟩
    · exact b01 _
    · refine ⟨_, rfl, _, _, rfl, rfl, (show (0 : Int) < 2305843009213693951 by decide), _, rfl, _, _, rfl, rfl, .inl ⟨by decide, by decide⟩, _, _, rfl, rfl, _, _, rfl, rfl, (by show 3 ≤ sizeLine; decide), fun p hp => ?_⟩
      have m1 : 0 ≤ c % 2305843009213693951 := Int.emod_nonneg _ (by decide)
      have m2 : c % 2305843009213693951 < 2305843009213693951 := Int.emod_lt_of_pos _ (by decide)
      refine q p _ hp (fun b o e => ?_) ⟨_, _, _, upd_same, ?_, ?_, ?_, by decide, by decide⟩
      · have nb := ne_of_none e hp
        rw [hid_ne nb, upd_ne nb]; exact e
      · exact Int.mul_nonneg (hi c) (b01n _)
      · omega
      · have e62 : (2 : Int) ^ 62 = 4611686018427387904 := by decide
        rw [e62]; omega
end
end Af
namespace Af
open PySem PySem.Spec PyProof.Rows L2
section
variable {P : Program} {w : World} {K : PySem.W.Frag} {mg : Str → Option Value} {base : Heap}
/-! _law_cells -/
theorem cut_ints (ns : List Int) (lo hi : Option Int) : cutV (ns.map V.int) lo hi = ((ns.drop (HT.sIx ns.length 0 lo)).take (HT.sIx ns.length ns.length hi - HT.sIx ns.length 0 lo)).map V.int := by
  unfold cutV
  rw [List.length_map, List.map_take, List.map_drop]
theorem ixN_nat {n j : Nat} (h : j < n) : ixN n (j : Int) = some j := by
  unfold ixN
  rw [if_pos (by omega), if_pos (by omega), Int.toNat_natCast]
theorem shaped_flat {d : PyData} (h1 : d.canLay0 = true) (h2 : d.depth ≤ 64) : SeqAt.shaped d = true := by
  show (d.canLay0 && decide (d.depth ≤ 64)) = true
  rw [h1, decide_eq_true h2]; rfl
theorem lay_ints : ∀ ns : List Int, PyData.canLayAll0 (ns.map PyData.int) = true
  | [] => by simp [PyData.canLayAll0]
  | n :: ns => by simp [PyData.canLayAll0, PyData.canLay0, lay_ints ns]
theorem shaped_ints (ns : List Int) : SeqAt.shaped (.list (ns.map PyData.int)) = true :=
  shaped_flat (by simp only [PyData.canLay0]; exact lay_ints ns) (by simp only [PyData.depth]; rw [depth_ints]; decide)
theorem eqv_ints_nil (ns : List Int) : PyData.eqv (.list (ns.map PyData.int)) (.list []) = ns.isEmpty := by
  cases ns <;> simp [PyData.eqv, PyData.eqvAll]
theorem dp_lst_ints {K : PySem.W.Frag} {H : Hp} {p : Addr} {ns : List Int} (h : H p = some (.lst (ns.map V.int))) : Dp K H (.ref p) (.list (ns.map PyData.int)) := .lst (SqL.of h) (dps_ints ns)
def spCells (K : PySem.W.Frag) : Sp := fun vs H Q _ => ∃ (a : Addr) (ns : List Int) (most : Nat), vs = [.ref a, .int most] ∧ SqL K H a (ns.map V.int) ∧ ns.length ≤ 63 ∧ 1 ≤ most ∧ most ≤ 10 ∧
  ∀ (p : Addr) (H' : Hp) (cs : List Int), H p = none → Same H H' → H' p = some (.lst (cs.map V.int)) → cs.length ≤ most → 1 ≤ cs.length → Q (.ref p) H'
theorem ok_cells {f : Addr} {fd : FuncData} {k : Nat} (T : Bl mg) (F : Fun K "_law_cells" "_law_cells" sLawCells f fd) : FnOk P w K mg base CX0 (k + 1) f fd ["_law_script", "_law_most"] (spCells K) := by
  refine F.ok scLawCells (fun vs H Q E h => ?_) (fun cdv A outer s H vs Q E hr h => ?_)
  · obtain ⟨_, _, _, rfl, _⟩ := h; rfl
  obtain ⟨a, ns, most, rfl, hS, h63, m1, m2, q⟩ := h
  have hu := hr.units
  refine ⟨_, pss_cons (ps_set (i := 2) scLawCells.nd rfl (.inl rfl) (pe_callTy call_list_of rfl T.list bList (pa_cons (pe_slice sl_list (pv 0) po_none (po_some (pv 1))) pa_nil)))
    (pss_cons (ps_for PassesOwn.never rfl (pi_enum rfl T.enum (pa_cons (pe_slice sl_list (pv 0) (po_some (pv 1)) (po_some pe_int)) pa_nil))
        (pg_tup rfl (pgs_cons (pg_name (i := 3) scLawCells.nd rfl (.inl rfl)) (pgs_cons (pg_name (i := 4) scLawCells.nd rfl (.inl rfl)) pgs_nil)))
        (pss_one (ps_asg (pe_op op_add (pe_ix ix_list (pv 2) (pe_op op_mod (pv 3) (pv 1)) (fun _ _ => rfl)) (pe_op op_mul (pv 4) (pe_op op_add (pv 3) pe_int))) (pg_sub (pv 2) (pe_op op_mod (pv 3) (pv 1)) set_list))))
    (pss_one (ps_ret (pe_ifExp (pt_cmpR (op_neD hu) (pv 2) (pe_lst pa_nil) (nomark _)) (pv 2) (pe_lst (pa_cons pe_int pa_nil)))))), ?_⟩
  -- list(script[:most])
  refine ⟨_, rfl, _, rfl, _, rfl, a, _, rfl, hS, fun c nc => ?_⟩
  rw [cut_ints, HT.sIx_nat, HT.sIx_none, List.drop_zero, Nat.sub_zero]
  refine ⟨c, _, rfl, .inl (SqL.of upd_same), fun p np => ?_⟩
  have s1 := same_new (o := .lst ((ns.take (min most ns.length)).map V.int)) nc
  have s2 := same_new (o := .lst ((ns.take (min most ns.length)).map V.int)) np
  have np0 : H p = none := s1.free np
  have hp : (upd (upd H c (.lst ((ns.take (min most ns.length)).map V.int))) p (.lst ((ns.take (min most ns.length)).map V.int))) p = some (.lst ((ns.take (min most ns.length)).map V.int)) := upd_same
  have s12 := s1.trans s2
  generalize upd (upd H c (.lst ((ns.take (min most ns.length)).map V.int))) p (.lst ((ns.take (min most ns.length)).map V.int)) = H1 at hp s12
  -- script[most:63]
  refine ⟨_, rfl, _, rfl, _, rfl, 63, rfl, a, _, rfl, s12.seq hS, fun e ne => ?_⟩
  rw [cut_ints, HT.sIx_nat, show HT.sIx ns.length ns.length (some (63 : Int)) = min 63 ns.length from HT.sIx_nat ns.length ns.length 63]
  generalize hsl : (ns.drop (min most ns.length)).take (min 63 ns.length - min most ns.length) = sl
  refine ⟨e, _, rfl, SqL.of upd_same, ?_⟩
  have nep : e ≠ p := fun z => by rw [z, hp] at ne; cases ne
  have s3 := same_new (o := .lst (sl.map V.int)) ne
  refine for_it (walk_enum (xs := sl.map V.int)) (fun i σ H3 => ∃ (y3 y4 : Option V) (cs : List Int), σ = [some (.ref a), some (.int most), some (.ref p), y3, y4] ∧ cs.length = min most ns.length ∧ H3 p = some (.lst (cs.map V.int)) ∧ Same H H3 ∧ H3 e = some (.lst (sl.map V.int)))
    ⟨none, none, _, rfl, by rw [List.length_take]; omega, (s3 _ _ hp), s12.trans s3, upd_same⟩ (fun i σ H3 _ ⟨_, _, _, _, _, _, _, he⟩ => SqL.of he) (fun i x σ H3 H4 hi hP hy => ?_) (fun σ H3 hP => ?_)
  · obtain ⟨y3, y4, cs, rfl, hc, hp3, sm, he⟩ := hP
    obtain ⟨Tt, x1, x2, rfl, nT, rfl, e1, e2⟩ := hy
    have e1' : x1 = .int (i : Nat) := (Option.some.inj e1).symm
    subst e1'
    obtain ⟨v, e3, rfl⟩ : ∃ v, sl[i]? = some v ∧ V.int v = x2 := by
      have e2' : (sl.map V.int)[i]? = some x2 := e2
      rw [List.getElem?_map] at e2'
      cases z : sl[i]? with
      | none => rw [z] at e2'; cases e2'
      | some v => rw [z] at e2'; exact ⟨v, rfl, Option.some.inj e2'⟩
    have hlen : most < ns.length := by
      have z : i < sl.length := (List.getElem?_eq_some_iff.mp e3).1
      rw [← hsl, List.length_take, List.length_drop] at z
      omega
    have hcl : cs.length = most := by omega
    have hT := same_new (o := .tup [.int (i : Nat), .int v]) nT
    have hpT : (upd H3 Tt (.tup [.int (i : Nat), .int v])) p = some (.lst (cs.map V.int)) := hT _ _ hp3
    have ej : ((i : Nat) : Int) % (most : Int) = ((i % most : Nat) : Int) := rfl
    have jl : i % most < cs.length := by rw [hcl]; exact Nat.mod_lt _ (by omega)
    refine ⟨Tt, _, rfl, .inl (.inl upd_same), rfl, _, _, rfl, _, _, rfl, rfl, ?_⟩
    refine ⟨_, rfl, _, rfl, _, rfl, _, _, rfl, rfl, (show (0 : Int) < most by omega), ?_⟩
    refine ⟨p, _, ((i % most : Nat) : Int), _, rfl, rfl, SqL.of hpT, atI_nat (j := i % most) (by rw [List.getElem?_map, List.getElem?_eq_getElem jl]; rfl), ?_⟩
    refine ⟨_, rfl, _, rfl, _, _, rfl, rfl, _, _, rfl, rfl, .inr ⟨by omega, ?_⟩, _, _, rfl, rfl, ?_⟩
    · have z : i < sl.length := (List.getElem?_eq_some_iff.mp e3).1
      rw [← hsl, List.length_take, List.length_drop] at z
      have : ((i : Nat) : Int) + 2 < 18446744073709551616 := by omega
      exact this
    refine ⟨_, rfl, _, rfl, _, rfl, _, _, rfl, rfl, (show (0 : Int) < most by omega), ?_⟩
    refine ⟨p, _, ((i % most : Nat) : Int), i % most, rfl, rfl, hpT, ixN_nat (by rw [List.length_map]; exact jl), ?_⟩
    refine ⟨_, _, cs.set (i % most) (cs[i % most] + v * ((i : Nat) + 2)), rfl, by rw [List.length_set]; exact hc, ?_, fun b o eb => ?_, ?_⟩
    · rw [upd_same, List.map_set]
    · rw [upd_ne (ne_of_none eb np0)]; exact hT _ _ (sm _ _ eb)
    · rw [upd_ne nep]; exact hT _ _ he
  · obtain ⟨y3, y4, cs, rfl, hc, hp3, sm, he⟩ := hP
    refine ⟨_, rfl, by show 0 ≤ sizeLine; decide, fun z nz => ?_⟩
    have sz := same_new (o := .lst []) nz
    refine ⟨_, _, dp_lst_ints (sz _ _ hp3), .lst (SqL.of upd_same) .nil, shaped_ints cs, shaped_ints [], _, rfl, ?_⟩
    rw [eqv_ints_nil]
    refine ite2 (fun e0 => ?_) (fun e0 => ?_)
    · have h1 : 1 ≤ cs.length := by cases cs with | nil => cases e0 | cons _ _ => simp
      exact ⟨_, rfl, q p _ cs np0 (sm.trans sz) (sz _ _ hp3) (by omega) h1⟩
    · refine ⟨by show 1 ≤ sizeLine; decide, fun r nr => ?_⟩
      have sr := same_new (o := .lst [.int 0]) nr
      exact q r _ [0] (sm.free (sz.free nr)) (sm.trans (sz.trans sr)) upd_same (by simpa using m1) (by simp)
end
end Af
namespace Af
open PySem PySem.Spec PyProof.Rows L2
section
variable {P : Program} {w : World} {K : PySem.W.Frag} {mg : Str → Option Value} {base : Heap}
theorem yesT {σ : L2.St} {H : Hp} {A B : Hp → Prop} (h : A H) : tYes σ H (fun b H3 => if b = true then A H3 else B H3) := by
  show (if true = true then A H else B H)
  exact iteT h
/-! zip of two tuples, walked -/
theorem walk_zipT {K : PySem.W.Frag} {a b : Addr} {xs ys : List V} {n : Nat} (hn : n = min xs.length ys.length) : Walk (RZ.ItzT K a b) n (fun H => SqT K H a xs ∧ SqT K H b ys) (YPair (fun i => xs[i]?) (fun i => ys[i]?)) := by
  subst hn
  refine ⟨fun i _ hi q => ?_, fun _ q => ⟨xs, ys, q.1, q.2, by omega⟩, fun i H v H' _ q y => ?_⟩
  · exact ⟨xs, ys, xs[i]'(by omega), ys[i]'(by omega), q.1, q.2, List.getElem?_eq_getElem (by omega), List.getElem?_eq_getElem (by omega)⟩
  · obtain ⟨T, x, z, h1, h2, h3, h4, h5⟩ := y
    exact ⟨T, x, z, h1, h2, h3, h4 xs q.1, h5 ys q.2⟩
theorem qT {Q : VK} {H : Hp} {b : Bool} (e : b = true) (h : Q (.bl true) H) : Q (.bl b) H := by rw [e]; exact h
/-! _law_same of one datum, twice -/
def spSame (K : PySem.W.Frag) (n : Nat) : Sp := fun vs H Q _ => ∃ (x y : V) (d : PyData), vs = [x, y] ∧ Dp K H x d ∧ Dp K H y d ∧ d.depth < n ∧ d.bulk ≤ 1000000 ∧ ∀ H', Same H H' → Q (.bl true) H'
theorem ok_same1 {f : Addr} {fd : FuncData} {n : Nat} (T : Bl mg) (D : Df K mg "_law_same" sLawSame ["_law_found", "_law_due"] f fd) (G : FnOk P w K mg base CX0 n f fd ["_law_found", "_law_due"] (spSame K n)) :
    FnOk P w K mg base CX0 (n + 1) f fd ["_law_found", "_law_due"] (spSame K (n + 1)) := by
  refine D.F.ok scLawSame (fun vs H Q E h => ?_) (fun cdv A outer s H vs Q E hr h => ?_)
  · obtain ⟨_, _, _, rfl, _⟩ := h; rfl
  obtain ⟨x, y, d, rfl, hx, hy, hd, hb, q⟩ := h
  have nd := scLawSame.nd
  refine ⟨_, pss_cons (ps_if (pt_val (pe_callB call_isD2 rfl T.isi bIsi (pa_cons (pv 1) (pa_cons (pe_tup (pa_cons (pe_bltn (v := .ty "list") rfl T.list bList rfl) (pa_cons (pe_bltn (v := .ty "tuple") rfl T.tuple bTuple rfl) pa_nil))) pa_nil))))
      (pss_cons (ps_if (PW.pt (pw_or (pt_cmpR op_ne (pe_callB call_isD rfl T.isi bIsi (pa_cons (pv 0) (pa_cons (pe_bltn (v := .ty "list") rfl T.list bList rfl) pa_nil))) (pe_callB call_isD rfl T.isi bIsi (pa_cons (pv 1) (pa_cons (pe_bltn (v := .ty "list") rfl T.list bList rfl) pa_nil))) (nomark _))
          (pw_or1 (pt_cmpR op_ne (pe_callB call_isD rfl T.isi bIsi (pa_cons (pv 0) (pa_cons (pe_bltn (v := .ty "tuple") rfl T.tuple bTuple rfl) pa_nil))) (pe_callB call_isD rfl T.isi bIsi (pa_cons (pv 1) (pa_cons (pe_bltn (v := .ty "tuple") rfl T.tuple bTuple rfl) pa_nil))) (nomark _)))))
          pss_never pss_nil)
      (pss_one (ps_ret (pe_and (pe_cmpR op_eq (pe_callB call_len_seq rfl T.len bLen (pa_cons (pv 0) pa_nil)) (pe_callB call_len_seq rfl T.len bLen (pa_cons (pv 1) pa_nil)) (nomark _))
        (pe_one (pe_callB (cr_all rfl) rfl T.all bAll (pa_cons
          (pe_lc (own := [("_law_mine", 2), ("_law_its", 3)]) (g := gTup K 2 (gCons (gName 2) (gCons (gName 3) gNil))) (tt := tYes) rfl nd (RZ.pi_zipA rfl T.zip (pa_cons (pv 0) (pa_cons (pv 1) pa_nil)))
            (blkOk_by (N := ["_law_found", "_law_due", "_law_mine", "_law_its"]) (sc := defScope sLawSame) (by decide +kernel))
            (fun _ _ _ _ _ => pg_tup rfl (pgs_cons (pg_name (i := 2) nd rfl (.inl rfl)) (pgs_cons (pg_name (i := 3) nd rfl (.inl rfl)) pgs_nil)))
            (fun _ _ _ _ _ => pts_nil)
            (fun _ _ _ _ _ => pe_do D G hr rfl (pa_cons (pv 2) (pa_cons (pv 3) pa_nil)))) pa_nil))))))) pss_nil)
    (pss_cons (ps_if (PW.pt (pw_or (pt_cmp (pc_isN (pv 1))) (pw_or1 (pt_val (pe_callB call_isD2 rfl T.isi bIsi (pa_cons (pv 1) (pa_cons (pe_tup (pa_cons (pe_bltn (v := .ty "str") rfl T.str bStr rfl) (pa_cons (pe_bltn (v := .ty "bool") rfl T.bool bBool rfl) pa_nil))) pa_nil)))))))
      (pss_one (ps_ret (pe_and (pe_cmpR op_eq (pv 0) (pv 1) (nomark _)) (pe_and (pe_cmpR op_eq (pe_callB call_isD rfl T.isi bIsi (pa_cons (pv 0) (pa_cons (pe_bltn (v := .ty "bool") rfl T.bool bBool rfl) pa_nil))) (pe_callB call_isD rfl T.isi bIsi (pa_cons (pv 1) (pa_cons (pe_bltn (v := .ty "bool") rfl T.bool bBool rfl) pa_nil))) (nomark _))
        (pe_one (pe_cmpR op_eq (pe_cmp (pc_isN (pv 0))) (pe_cmp (pc_isN (pv 1))) (nomark _))))))) pss_nil)
    (pss_one (ps_ret (pe_and (pe_callB call_isD rfl T.isi bIsi (pa_cons (pv 0) (pa_cons (pe_bltn (v := .ty "int") rfl T.int bInt rfl) pa_nil)))
      (pe_and (pe_not (pe_callB call_isD rfl T.isi bIsi (pa_cons (pv 0) (pa_cons (pe_bltn (v := .ty "bool") rfl T.bool bBool rfl) pa_nil)))) (pe_one (pe_cmpR op_eq (pv 0) (pv 1) (nomark _)))))))), ?_⟩
  refine ⟨_, rfl, by show 2 ≤ sizeLine; decide, fun tp ntp => ?_⟩
  have s1 := same_new (o := .tup [.ty "list", .ty "tuple"]) ntp
  refine ⟨_, tp, "list", "tuple", d, rfl, upd_same, by decide, by decide, dp_up hy s1, _, rfl, ?_⟩
  generalize hH1 : upd H tp (.tup [.ty "list", .ty "tuple"]) = H1
  rw [hH1] at s1
  have hx1 := dp_up hx s1
  have hy1 := dp_up hy s1
  cases d with
  | list ds =>
    obtain ⟨a, xs, rfl, ha, hxa⟩ : ∃ a xs, x = .ref a ∧ SqL K H1 a xs ∧ DpAll K H1 xs ds := by cases hx1 with | lst h1 h2 => exact ⟨_, _, rfl, h1, h2⟩
    obtain ⟨b, ys, rfl, hb', hya⟩ : ∃ b ys, y = .ref b ∧ SqL K H1 b ys ∧ DpAll K H1 ys ds := by cases hy1 with | lst h1 h2 => exact ⟨_, _, rfl, h1, h2⟩
    have lx := dps_len hxa
    have ly := dps_len hya
    simp only [PyData.depth] at hd
    simp only [PyData.bulk] at hb
    refine ite2 (fun _ => ?_) (fun e => (e rfl).elim)
    refine ⟨_, rfl, _, "list", _, rfl, by decide, hx1, _, rfl, _, "list", _, rfl, by decide, hy1, rfl, _, rfl, iteNS rfl ?_⟩
    refine ⟨_, rfl, _, "tuple", _, rfl, by decide, hx1, _, rfl, _, "tuple", _, rfl, by decide, hy1, rfl, _, rfl, iteNS rfl ?_⟩
    refine ⟨_, rfl, a, xs, rfl, .inl ha, _, rfl, b, ys, rfl, .inl hb', rfl, _, rfl, ite2 (fun _ => ?_) (fun e => (e (decide_eq_true (by rw [lx, ly]))).elim)⟩
    refine ⟨_, rfl, _, rfl, a, b, xs, ys, rfl, .inl ⟨ha, hb', fun Dd nD => ?_⟩⟩
    have sD := same_new (o := .lst []) nD
    refine lc_it (walk_zip (xs := xs) (ys := ys) rfl) (fun i H3 => H3 Dd = some (.lst (List.replicate i (.bl true))) ∧ Same H1 H3) ⟨upd_same, sD⟩ (fun i H3 _ hP => ⟨hP.2.seq ha, hP.2.seq hb'⟩) (fun i v H3 H4 hi hP hy => ?_) (fun H3 hP => ?_)
    · obtain ⟨Tt, x1, x2, rfl, nT, rfl, e1, e2⟩ := hy
      obtain ⟨hD, sm⟩ := hP
      have hi2 : i < ds.length := by omega
      have sT := same_new (o := .tup [x1, x2]) nT
      obtain ⟨d1, g1, p1⟩ := dps_get' hxa (show xs[i]? = some x1 from e1)
      obtain ⟨d2, g2, p2⟩ := dps_get' hya (show ys[i]? = some x2 from e2)
      obtain rfl : d1 = d2 := Option.some.inj (g1.symm.trans g2)
      have hm : d1 ∈ ds := List.mem_of_getElem? g1
      have hdep := depth_mem hm
      have hbul := bulk_mem hm
      refine ⟨Tt, _, rfl, .inl (.inl upd_same), rfl, _, _, rfl, _, _, rfl, rfl, rfl, yesT ?_⟩
      refine ⟨_, rfl, _, rfl, x1, x2, d1, rfl, dp_up p1 (sm.trans sT), dp_up p2 (sm.trans sT), by omega, by omega, fun H5 s5 => ?_⟩
      refine ⟨_, s5 _ _ (sT _ _ hD), ?_, ?_, fun c o ec => ?_⟩
      · rw [List.length_replicate]
        have := bulk_len ds
        have := sizeLine_eq
        omega
      · rw [upd_same, List.replicate_succ']
      · rw [upd_ne (ne_of_none ec nD)]; exact s5 _ _ (sT _ _ (sm _ _ ec))
    · obtain ⟨hD, sm⟩ := hP
      refine ⟨Dd, List.replicate (min xs.length ys.length) true, rfl, SqL.of (by rw [List.map_replicate]; exact hD), ?_⟩
      rw [show (List.replicate (min xs.length ys.length) true).all id = true from by rw [List.all_eq_true]; intro z hz; rw [(List.mem_replicate.mp hz).2]; rfl]
      exact q _ (s1.trans sm)
  | tuple ds =>
    obtain ⟨a, xs, rfl, ha, hxa⟩ : ∃ a xs, x = .ref a ∧ SqT K H1 a xs ∧ DpAll K H1 xs ds := by cases hx1 with | tup h1 h2 => exact ⟨_, _, rfl, h1, h2⟩
    obtain ⟨b, ys, rfl, hb', hya⟩ : ∃ b ys, y = .ref b ∧ SqT K H1 b ys ∧ DpAll K H1 ys ds := by cases hy1 with | tup h1 h2 => exact ⟨_, _, rfl, h1, h2⟩
    have lx := dps_len hxa
    have ly := dps_len hya
    simp only [PyData.depth] at hd
    simp only [PyData.bulk] at hb
    refine ite2 (fun _ => ?_) (fun e => (e rfl).elim)
    refine ⟨_, rfl, _, "list", _, rfl, by decide, hx1, _, rfl, _, "list", _, rfl, by decide, hy1, rfl, _, rfl, iteNS rfl ?_⟩
    refine ⟨_, rfl, _, "tuple", _, rfl, by decide, hx1, _, rfl, _, "tuple", _, rfl, by decide, hy1, rfl, _, rfl, iteNS rfl ?_⟩
    refine ⟨_, rfl, a, xs, rfl, .inr ha, _, rfl, b, ys, rfl, .inr hb', rfl, _, rfl, ite2 (fun _ => ?_) (fun e => (e (decide_eq_true (by rw [lx, ly]))).elim)⟩
    refine ⟨_, rfl, _, rfl, a, b, xs, ys, rfl, .inr ⟨ha, hb', fun Dd nD => ?_⟩⟩
    have sD := same_new (o := .lst []) nD
    refine lc_it (walk_zipT (xs := xs) (ys := ys) rfl) (fun i H3 => H3 Dd = some (.lst (List.replicate i (.bl true))) ∧ Same H1 H3) ⟨upd_same, sD⟩ (fun i H3 _ hP => ⟨sqt_mono hP.2 ha, sqt_mono hP.2 hb'⟩) (fun i v H3 H4 hi hP hy => ?_) (fun H3 hP => ?_)
    · obtain ⟨Tt, x1, x2, rfl, nT, rfl, e1, e2⟩ := hy
      obtain ⟨hD, sm⟩ := hP
      have hi2 : i < ds.length := by omega
      have sT := same_new (o := .tup [x1, x2]) nT
      obtain ⟨d1, g1, p1⟩ := dps_get' hxa (show xs[i]? = some x1 from e1)
      obtain ⟨d2, g2, p2⟩ := dps_get' hya (show ys[i]? = some x2 from e2)
      obtain rfl : d1 = d2 := Option.some.inj (g1.symm.trans g2)
      have hm : d1 ∈ ds := List.mem_of_getElem? g1
      have hdep := depth_mem hm
      have hbul := bulk_mem hm
      refine ⟨Tt, _, rfl, .inl (.inl upd_same), rfl, _, _, rfl, _, _, rfl, rfl, rfl, yesT ?_⟩
      refine ⟨_, rfl, _, rfl, x1, x2, d1, rfl, dp_up p1 (sm.trans sT), dp_up p2 (sm.trans sT), by omega, by omega, fun H5 s5 => ?_⟩
      refine ⟨_, s5 _ _ (sT _ _ hD), ?_, ?_, fun c o ec => ?_⟩
      · rw [List.length_replicate]
        have := bulk_len ds
        have := sizeLine_eq
        omega
      · rw [upd_same, List.replicate_succ']
      · rw [upd_ne (ne_of_none ec nD)]; exact s5 _ _ (sT _ _ (sm _ _ ec))
    · obtain ⟨hD, sm⟩ := hP
      refine ⟨Dd, List.replicate (min xs.length ys.length) true, rfl, SqL.of (by rw [List.map_replicate]; exact hD), ?_⟩
      rw [show (List.replicate (min xs.length ys.length) true).all id = true from by rw [List.all_eq_true]; intro z hz; rw [(List.mem_replicate.mp hz).2]; rfl]
      exact q _ (s1.trans sm)
  | none =>
    cases hx1; cases hy1
    refine ite2 (fun e => nomatch e) (fun _ => ?_)
    refine ⟨_, rfl, _, rfl, ite2 (fun _ => ?_) (fun e => (e rfl).elim)⟩
    refine iteT ?_
    refine ⟨_, rfl, _, rfl, rfl, _, rfl, ite2 (fun _ => ?_) (fun e => (e (decide_eq_true rfl)).elim)⟩
    refine ⟨_, rfl, _, "bool", _, rfl, by decide, .non, _, rfl, _, "bool", _, rfl, by decide, .non, rfl, _, rfl, ite2 (fun _ => ?_) (fun e => (e (decide_eq_true rfl)).elim)⟩
    refine ⟨_, rfl, _, rfl, rfl, ?_⟩
    exact qT (decide_eq_true rfl) (q _ s1)
  | bool z =>
    cases hx1; cases hy1
    refine ite2 (fun e => nomatch e) (fun _ => ?_)
    refine ⟨_, rfl, _, rfl, ite2 (fun e => nomatch e) (fun _ => ?_)⟩
    refine ⟨_, rfl, by show 2 ≤ sizeLine; decide, fun t2 nt2 => ?_⟩
    have s2 := same_new (o := .tup [.ty "str", .ty "bool"]) nt2
    refine ⟨_, t2, "str", "bool", _, rfl, upd_same, by decide, by decide, .bl z, _, rfl, ?_⟩
    refine ite2 (fun _ => ?_) (fun e => (e rfl).elim)
    refine ⟨_, rfl, _, rfl, rfl, _, rfl, ite2 (fun _ => ?_) (fun e => (e (decide_eq_true rfl)).elim)⟩
    refine ⟨_, rfl, _, "bool", _, rfl, by decide, .bl z, _, rfl, _, "bool", _, rfl, by decide, .bl z, rfl, _, rfl, ite2 (fun _ => ?_) (fun e => (e (decide_eq_true rfl)).elim)⟩
    refine ⟨_, rfl, _, rfl, rfl, ?_⟩
    exact qT (decide_eq_true rfl) (q _ (s1.trans s2))
  | str z =>
    cases hx1; cases hy1
    refine ite2 (fun e => nomatch e) (fun _ => ?_)
    refine ⟨_, rfl, _, rfl, ite2 (fun e => nomatch e) (fun _ => ?_)⟩
    refine ⟨_, rfl, by show 2 ≤ sizeLine; decide, fun t2 nt2 => ?_⟩
    have s2 := same_new (o := .tup [.ty "str", .ty "bool"]) nt2
    refine ⟨_, t2, "str", "bool", _, rfl, upd_same, by decide, by decide, .str z, _, rfl, ?_⟩
    refine ite2 (fun _ => ?_) (fun e => (e rfl).elim)
    refine ⟨_, rfl, _, rfl, rfl, _, rfl, ite2 (fun _ => ?_) (fun e => (e (decide_eq_true rfl)).elim)⟩
    refine ⟨_, rfl, _, "bool", _, rfl, by decide, .str z, _, rfl, _, "bool", _, rfl, by decide, .str z, rfl, _, rfl, ite2 (fun _ => ?_) (fun e => (e (decide_eq_true rfl)).elim)⟩
    refine ⟨_, rfl, _, rfl, rfl, ?_⟩
    exact qT (decide_eq_true rfl) (q _ (s1.trans s2))
  | int z =>
    cases hx1; cases hy1
    refine ite2 (fun e => nomatch e) (fun _ => ?_)
    refine ⟨_, rfl, _, rfl, ite2 (fun e => nomatch e) (fun _ => ?_)⟩
    refine ⟨_, rfl, by show 2 ≤ sizeLine; decide, fun t2 nt2 => ?_⟩
    have s2 := same_new (o := .tup [.ty "str", .ty "bool"]) nt2
    refine ⟨_, t2, "str", "bool", _, rfl, upd_same, by decide, by decide, .int z, _, rfl, ?_⟩
    refine ite2 (fun e => nomatch e) (fun _ => ?_)
    refine ⟨_, rfl, _, "int", _, rfl, by decide, .int z, _, rfl, ite2 (fun _ => ?_) (fun e => (e rfl).elim)⟩
    refine ⟨_, rfl, _, "bool", _, rfl, by decide, .int z, _, rfl, _, rfl, ite2 (fun _ => ?_) (fun e => (e rfl).elim)⟩
    refine ⟨_, rfl, _, rfl, rfl, ?_⟩
    exact qT (decide_eq_true rfl) (q _ (s1.trans s2))
  | dict kvs => cases hx1
theorem ok_same {f : Addr} {fd : FuncData} (T : Bl mg) (D : Df K mg "_law_same" sLawSame ["_law_found", "_law_due"] f fd) : ∀ n : Nat, FnOk P w K mg base CX0 n f fd ["_law_found", "_law_due"] (spSame K n)
  | 0 => ⟨fun vs H Q E h => by obtain ⟨_, _, _, _, _, _, z, _⟩ := h; omega, fun A fr s H ar us vs Q E _ _ _ _ h => by obtain ⟨_, _, _, _, _, _, z, _⟩ := h; omega⟩
  | n + 1 => ok_same1 T D (ok_same T D n)
end
end Af
namespace Af
open PySem PySem.Spec PyProof.Rows L2
section
variable {P : Program} {w : World} {K : PySem.W.Frag} {mg : Str → Option Value} {base : Heap}
/-! lengths -/
def spLengths (K : PySem.W.Frag) : Sp := fun vs H Q _ => ∃ (b r : V) (bd rd : PyData) (B : List (List Int)) (R L : List Int), vs = [b, r] ∧ Dp K H b bd ∧ BookD bd B ∧ Dp K H r rd ∧ RowD rd R ∧ B.length ≤ 1000 ∧ L.length = B.length ∧
  (∀ c n, L[c]? = some n → lenAt B R c = some n) ∧ ∀ (p : Addr) (H' : Hp), H p = none → Same H H' → H' p = some (.tup (L.map V.int)) → Q (.ref p) H'
theorem ok_lengths {f fL : Addr} {fd fdL : FuncData} {k : Nat} (T : Bl mg) (F : Fun K "lengths" "lengths" sLengths f fd) (DL : Df K mg "length_of" sLengthOf ["book", "rungs", "climber"] fL fdL)
    (GL : FnOk P w K mg base CX0 k fL fdL ["book", "rungs", "climber"] (spLengthOf K)) : FnOk P w K mg base CX0 (k + 1) f fd ["book", "standing"] (spLengths K) := by
  refine F.ok scLengths (fun vs H Q E h => ?_) (fun cdv A outer s H vs Q E hr h => ?_)
  · obtain ⟨_, _, _, _, _, _, _, rfl, _⟩ := h; rfl
  obtain ⟨b, r, bd, rd, B, R, L, rfl, hb, hB, hr', hR, hlen, hL, hl, q⟩ := h
  have nd := scLengths.nd
  refine ⟨_, pss_one (ps_ret (pe_callTy call_tuple_of rfl T.tuple bTuple (pa_cons
    (pe_lc (own := [("climber", 2)]) (g := gName 2) (tt := tYes) rfl nd (pi_range1 rfl T.range (pa_cons (pe_callB call_len_seq rfl T.len bLen (pa_cons (pv 0) pa_nil)) pa_nil))
      (blkOk_by (N := ["book", "standing", "climber"]) (sc := defScope sLengths) (by decide +kernel))
      (fun _ _ _ _ _ => pg_name (i := 2) nd rfl (.inl rfl)) (fun _ _ _ _ _ => pts_nil) (fun _ _ _ _ _ => pe_do DL GL hr rfl (pa_cons (pv 0) (pa_cons (pv 1) (pa_cons (pv 2) pa_nil))))) pa_nil))), ?_⟩
  obtain ⟨a, xs, rfl, ha, hxl⟩ := book_len hb hB
  refine ⟨_, rfl, a, xs, rfl, ha, _, rfl, by omega, by omega, fun D nD => ?_⟩
  have sD := same_new (o := .lst []) nD
  have en : ((xs.length : Nat) : Int).toNat = B.length := by omega
  rw [en]
  refine lc_range (lo := 0) (n := B.length) (fun i H3 => H3 D = some (.lst ((L.take i).map V.int)) ∧ Same H H3) ⟨upd_same, sD⟩ (fun i H3 hi hP => ?_) (fun H3 hP => ?_)
  · obtain ⟨hD, sm⟩ := hP
    have hiL : i < L.length := by omega
    have e1 : L[i]? = some L[i] := List.getElem?_eq_getElem hiL
    refine ⟨rfl, yesT ?_⟩
    refine ⟨_, rfl, _, rfl, _, rfl, _, _, i, bd, rd, B, R, _, ?_, dp_up hb sm, hB, dp_up hr' sm, hR, hl i _ e1, ?_⟩
    · show [V.ref a, r, V.int (0 + (i : Int))] = _
      rw [Int.zero_add]
    · refine ⟨_, hD, ?_, ?_, fun c o ec => ?_⟩
      · rw [List.length_map, List.length_take]
        exact small1000 (by omega)
      · rw [upd_same, List.take_add_one, e1, List.map_append]; rfl
      · rw [upd_ne (ne_of_none ec nD)]; exact sm _ _ ec
  · obtain ⟨hD, sm⟩ := hP
    rw [← hL, List.take_length] at hD
    refine ⟨D, _, rfl, .inl ⟨SqL.of hD, fun p np => ?_⟩⟩
    exact q p _ (sm.free np) (sm.trans (same_new np)) upd_same
end
end Af
namespace Af
open PySem PySem.Spec PyProof.Rows L2
section
variable {P : Program} {w : World} {K : PySem.W.Frag} {mg : Str → Option Value} {base : Heap}
/-! end_rung -/
def spEnd : Sp := fun vs H Q _ => ∃ l f : Int, vs = [.int l, .int f] ∧ Q (.int (endR l f)) H
theorem ok_end {f : Addr} {fd : FuncData} {k : Nat} (F : Fun K "end_rung" "end_rung" sEndRung f fd) : FnOk P w K mg base CX0 (k + 1) f fd ["length", "face"] spEnd := by
  refine F.ok scEndRung (fun vs H Q E h => ?_) (fun cdv A outer s H vs Q E hr h => ?_)
  · obtain ⟨_, _, rfl, _⟩ := h; rfl
  obtain ⟨l, fc, rfl, q⟩ := h
  refine ⟨_, pss_one (ps_ret (pe_ifExp (pt_cmpR op_eq (pv 1) pe_int (nomark _)) (pv 0) pe_int)), ?_⟩
  refine ⟨_, rfl, rfl, _, rfl, ?_⟩
  refine ite2 (fun e => ?_) (fun e => ?_)
  · have e1 : fc = 1 := V.int.inj (of_decide_eq_true e)
    refine ⟨_, rfl, ?_⟩
    unfold endR at q
    rw [if_pos e1] at q; exact q
  · have e1 : ¬ fc = 1 := fun z => e (decide_eq_true (by rw [z]))
    unfold endR at q
    rw [if_neg e1] at q; exact q
/-! blocked -/
def spBlocked (K : PySem.W.Frag) : Sp := fun vs H Q _ => ∃ (b st : V) (bd sd : PyData) (B : List (List Int)) (R F : List Int), vs = [b, st] ∧ Dp K H b bd ∧ BookD bd B ∧ Dp K H st sd ∧ StateD sd R F ∧ B.length ≤ 1000 ∧ Stands B R ∧ F.length = B.length ∧
  ∀ (p : Addr) (H' : Hp), H p = none → Same H H' → H' p = some (.lst ((castL (blockedN B R F B.length)).map V.int)) → Q (.ref p) H'
theorem lens_of {B : List (List Int)} {R : List Int} (S : Stands B R) : ∀ c n, (lensL B R)[c]? = some n → lenAt B R c = some n := fun c n e => by
  have hc : c < B.length := by rw [← lensL_len B R]; exact (List.getElem?_eq_some_iff.mp e).1
  rw [lensL_get hc] at e
  rw [stand_len S hc]; exact e
theorem ok_blocked {f fL fE : Addr} {fd fdL fdE : FuncData} {k : Nat} (T : Bl mg) (F : Fun K "blocked" "blocked" sBlocked f fd)
    (DL : Df K mg "lengths" sLengths ["book", "standing"] fL fdL) (GL : FnOk P w K mg base CX0 k fL fdL ["book", "standing"] (spLengths K))
    (DE : Df K mg "end_rung" sEndRung ["length", "face"] fE fdE) (GE : FnOk P w K mg base CX0 k fE fdE ["length", "face"] spEnd) :
    FnOk P w K mg base CX0 (k + 1) f fd ["book", "state"] (spBlocked K) := by
  refine F.ok scBlocked (fun vs H Q E h => ?_) (fun cdv A outer s H vs Q E hr h => ?_)
  · obtain ⟨_, _, _, _, _, _, _, rfl, _⟩ := h; rfl
  obtain ⟨b, st, bd, sd, B, R, Fc, rfl, hb, hB, hst, hSt, hlen, hS, hF, q⟩ := h
  have nd := scBlocked.nd
  refine ⟨_, pss_cons (ps_asg (pv 1) (pg_seq rfl (pgs_cons (pg_name (i := 2) nd rfl (.inr rfl)) (pgs_cons (pg_name (i := 3) nd rfl (.inr rfl)) pgs_nil))))
    (pss_cons (ps_set (i := 4) nd rfl (.inr rfl) (pe_do DL GL hr rfl (pa_cons (pv 0) (pa_cons (pv 2) pa_nil))))
    (pss_one (ps_ret (pe_lc (own := [("climber", 5)]) (g := gName 5)
      (tt := tTest (tOp rEq (tOp (rIx K) (tVar 2) (tVar 5)) (tCall spEnd [] E0 (tCons (tOp (rIx K) (tVar 4) (tVar 5)) (tCons (tOp (rIx K) (tVar 3) (tVar 5)) tNil))))) rfl nd
      (pi_range1 rfl T.range (pa_cons (pe_callB call_len_seq rfl T.len bLen (pa_cons (pv 0) pa_nil)) pa_nil))
      (blkOk_by (N := ["book", "state", "standing", "faces", "ladders", "climber"]) (sc := defScope sBlocked) (by decide +kernel))
      (fun _ _ _ _ _ => pg_name (i := 5) nd rfl (.inl rfl))
      (fun _ _ _ _ _ => pts_one (pt_cmpR op_eq (pe_ix ix_seq (pv 2) (pv 5) (fun _ _ => rfl)) (pe_do DE GE hr rfl (pa_cons (pe_ix ix_seq (pv 4) (pv 5) (fun _ _ => rfl)) (pa_cons (pe_ix ix_seq (pv 3) (pv 5) (fun _ _ => rfl)) pa_nil))) (nomark _)))
      (fun _ _ _ _ _ => pv 5))))), ?_⟩
  obtain ⟨a, r, fc, rd, fcd, rfl, hq, hr', hR, hf', hFd⟩ := state_at hst hSt
  refine ⟨_, rfl, a, _, rfl, hq, rfl, _, _, rfl, _, _, rfl, rfl, ?_⟩
  refine ⟨_, rfl, _, rfl, _, _, bd, rd, B, R, lensL B R, rfl, hb, hB, hr', hR, hlen, lensL_len B R, lens_of hS, fun lp H1 nlp s1 elp => ?_⟩
  obtain ⟨ba, xs, rfl, hba, hxl⟩ := book_len (dp_up hb s1) hB
  refine ⟨_, rfl, ba, xs, rfl, hba, _, rfl, by omega, by omega, fun D nD => ?_⟩
  have sD := same_new (o := .lst []) nD
  have en : ((xs.length : Nat) : Int).toNat = B.length := by omega
  rw [en]
  obtain ⟨ra, rfl, hra⟩ := row_at hr' hR
  obtain ⟨fa, rfl, hfa⟩ := row_at hf' hFd
  refine lc_range (lo := 0) (n := B.length) (fun i H3 => H3 D = some (.lst ((castL (blockedN B R Fc i)).map V.int)) ∧ Same H1 H3) ⟨upd_same, sD⟩ (fun i H3 hi hP => ?_) (fun H3 hP => ?_)
  · obtain ⟨hD, sm⟩ := hP
    obtain ⟨n, rr, e1, e2, _, _⟩ := hS.all i hi
    have hiF : i < Fc.length := by omega
    have e3 : Fc[i]? = some Fc[i] := List.getElem?_eq_getElem hiF
    have hL : (lensL B R)[i]? = some n := by rw [lensL_get hi, e1]; rfl
    have ei : (0 : Int) + (i : Int) = (i : Nat) := Int.zero_add _
    refine ⟨rfl, ?_⟩
    rw [ei]
    refine ⟨_, rfl, _, rfl, ix_of (sq_mono (s1.trans sm) hra) (atI_nat (j := i) (by rw [List.getElem?_map, e2]; rfl)) ?_⟩
    refine ⟨_, rfl, _, rfl, ix_of (xs := (lensL B R).map V.int) (.inr (.inl (.inl (sm _ _ elp)))) (atI_nat (j := i) (by rw [List.getElem?_map, hL]; rfl)) ?_⟩
    refine ⟨_, rfl, _, rfl, ix_of (sq_mono (s1.trans sm) hfa) (atI_nat (j := i) (by rw [List.getElem?_map, e3]; rfl)) ?_⟩
    refine ⟨_, _, rfl, rfl, _, rfl, ?_⟩
    have eb : isBl B R Fc i = decide (V.int rr = V.int (endR n Fc[i])) := by
      unfold isBl
      rw [e2, e1, e3, Bool.eq_iff_iff, decide_eq_true_iff, decide_eq_true_iff]
      show rr = endR n Fc[i] ↔ _
      exact ⟨fun z => by rw [z], fun z => V.int.inj z⟩
    rw [← eb]
    refine ite2 (fun c => ?_) (fun c => ?_)
    · refine ⟨_, rfl, _, hD, ?_, ?_, fun c o ec => ?_⟩
      · rw [List.length_map, castL_len]
        exact small1000 (by have := blockedN_len B R Fc i; omega)
      · rw [upd_same, blockedN_succ, if_pos c, castL_app, List.map_append]; rfl
      · rw [upd_ne (ne_of_none ec nD)]; exact sm _ _ ec
    · refine ⟨?_, sm⟩
      rw [hD, blockedN_succ, if_neg c, List.append_nil]
  · obtain ⟨hD, sm⟩ := hP
    exact q D H3 (s1.free nD) (s1.trans sm) hD
/-! mover -/
def spMover (K : PySem.W.Frag) : Sp := fun vs H Q _ => ∃ (b st : V) (bd sd : PyData) (B : List (List Int)) (R F : List Int), vs = [b, st] ∧ Dp K H b bd ∧ BookD bd B ∧ Dp K H st sd ∧ StateD sd R F ∧ B.length ≤ 1000 ∧ Stands B R ∧ F.length = B.length ∧
  ∀ H', Same H H' → Q (movV (moverO B R F)) H'
theorem ok_mover {f fB : Addr} {fd fdB : FuncData} {k : Nat} (T : Bl mg) (F : Fun K "mover" "mover" sMover f fd)
    (DB : Df K mg "blocked" sBlocked ["book", "state"] fB fdB) (GB : FnOk P w K mg base CX0 k fB fdB ["book", "state"] (spBlocked K)) :
    FnOk P w K mg base CX0 (k + 1) f fd ["book", "state"] (spMover K) := by
  refine F.ok scMover (fun vs H Q E h => ?_) (fun cdv A outer s H vs Q E hr h => ?_)
  · obtain ⟨_, _, _, _, _, _, _, rfl, _⟩ := h; rfl
  obtain ⟨b, st, bd, sd, B, R, Fc, rfl, hb, hB, hst, hSt, hlen, hS, hF, q⟩ := h
  have nd := scMover.nd
  refine ⟨_, pss_cons (ps_set (i := 2) nd rfl (.inr rfl) (pe_do DB GB hr rfl (pa_cons (pv 0) (pa_cons (pv 1) pa_nil))))
    (pss_cons (ps_setLc (i := 3) (own := [("climber", 4)]) (g := gName 4) (tt := tTest (tOp (rIn K true) (tVar 4) (tVar 2))) rfl nd rfl rfl (sw_true rfl rfl rfl (by decide +kernel))
      (pi_range1 rfl T.range (pa_cons (pe_callB call_len_seq rfl T.len bLen (pa_cons (pv 0) pa_nil)) pa_nil))
      (blkOk_by (N := ["book", "state", "stuck", "free", "climber"]) (sc := defScope sMover) (by decide +kernel))
      (fun _ _ _ _ _ => pg_name (i := 4) nd rfl (.inl rfl))
      (fun _ _ _ _ _ => pts_one (pt_cmpR op_notIn_seq (pv 4) (pv 2) rfl))
      (fun _ _ _ _ _ => pv 4))
    (pss_one (ps_ret (pe_ifExp (pt_cmpR op_gt (pe_callB call_len_seq rfl T.len bLen (pa_cons (pv 3) pa_nil)) pe_int (nomark _)) (pe_ix ix_list (pv 3) (pe_un un_neg pe_int) (fun _ _ => rfl)) pe_non)))), ?_⟩
  refine ⟨_, rfl, _, rfl, b, st, bd, sd, B, R, Fc, rfl, hb, hB, hst, hSt, hlen, hS, hF, fun sp H1 nsp s1 esp => ?_⟩
  obtain ⟨ba, xs, rfl, hba, hxl⟩ := book_len (dp_up hb s1) hB
  refine ⟨_, rfl, ba, xs, rfl, hba, _, rfl, by omega, by omega, fun D nD => ?_⟩
  have sD := same_new (o := .lst []) nD
  have en : ((xs.length : Nat) : Int).toNat = B.length := by omega
  rw [en]
  refine lc_range (lo := 0) (n := B.length) (fun i H3 => H3 D = some (.lst ((castL (freeN B R Fc i)).map V.int)) ∧ Same H1 H3) ⟨upd_same, sD⟩ (fun i H3 hi hP => ?_) (fun H3 hP => ?_)
  · obtain ⟨hD, sm⟩ := hP
    have ei : (0 : Int) + (i : Int) = (i : Nat) := Int.zero_add _
    refine ⟨rfl, ?_⟩
    rw [ei]
    refine ⟨_, rfl, _, rfl, sp, _, rfl, .inl (SqL.of (sm _ _ esp)), rfl, flat_cast _, _, rfl, ?_⟩
    rw [inV_cast, in_blocked hi]
    show if (!isBl B R Fc i) = true then _ else _
    cases hb' : isBl B R Fc i with
    | true =>
      refine iteF ⟨?_, sm⟩
      rw [hD, freeN_succ, if_pos hb', List.append_nil]
    | false =>
      refine iteT ⟨_, rfl, _, hD, ?_, ?_, fun c o ec => ?_⟩
      · rw [List.length_map, castL_len]
        exact small1000 (by have := freeN_len B R Fc i; omega)
      · rw [upd_same, freeN_succ, if_neg (by rw [hb']; exact Bool.false_ne_true), castL_app, List.map_append]; rfl
      · rw [upd_ne (ne_of_none ec nD)]; exact sm _ _ ec
  · obtain ⟨hD, sm⟩ := hP
    refine ⟨_, rfl, D, _, rfl, .inl (SqL.of hD), _, _, rfl, rfl, _, rfl, ?_⟩
    have hmo : moverO B R Fc = (freeN B R Fc B.length).getLast? := rfl
    generalize freeN B R Fc B.length = fr at hD hmo
    rcases List.eq_nil_or_concat fr with rfl | ⟨fr0, l, rfl⟩
    · refine iteF ?_
      have z := q H3 (s1.trans sm)
      rw [hmo] at z; exact z
    · have z := q H3 (s1.trans sm)
      rw [hmo, List.concat_eq_append, List.getLast?_append] at z
      refine ite2 (fun _ => ?_) (fun c => ?_)
      · rw [List.concat_eq_append, castL_app, List.map_append] at hD
        exact ⟨_, rfl, 1, rfl, D, _, -1, _, rfl, rfl, SqL.of hD, atI_last _ _, z⟩
      · exact (c (decide_eq_true (by rw [List.length_map, castL_len, List.concat_eq_append, List.length_append]; simp))).elim
end
end Af
namespace Af
open PySem PySem.Spec PyProof.Rows L2
section
variable {P : Program} {w : World} {K : PySem.W.Frag} {mg : Str → Option Value} {base : Heap}
/-- a slice of a list or a tuple -/
theorem sl_seq {X : Cx} : SlR X (fun x lo hi H Q => ∃ (a : Addr) (xs : List V), x = .ref a ∧ Sq X.K H a xs ∧ ∀ (p : Addr) (H' : Hp), Same H H' → Sq X.K H' p (cutV xs lo hi) → Q (.ref p) H') := by
  intro pins s σ H x v vl vu lo hi sl Q I rx hs pl pu h
  obtain ⟨a, xs, rfl, hq, q⟩ := h
  rcases hq with hq | hq
  · exact sl_list pins s σ H _ v vl vu lo hi sl Q I rx hs pl pu ⟨a, xs, rfl, hq, fun p np => q p _ (same_new np) (.inl (SqL.of upd_same))⟩
  · refine sl_tupA pins s σ H _ v vl vu lo hi sl Q I rx hs pl pu ⟨a, xs, rfl, hq, fun e => q a H (Same.refl _) (.inr ?_), fun _ p np => q p _ (same_new np) (.inr (.inl (.inl upd_same)))⟩
    have z : cutV xs lo hi = xs := by
      unfold cutV
      rw [e.1, e.2, List.drop_zero, Nat.sub_zero, List.take_length]
    rw [z]; exact hq
/-! turned -/
def spTurned (K : PySem.W.Frag) : Sp := fun vs H Q _ => ∃ (z : Addr) (st : V) (sd : PyData) (R F : List Int), vs = [st] ∧ H z ≠ none ∧ Dp K (hid H z) st sd ∧ StateD sd R F ∧ F.length ≤ 1000 ∧
  ∀ (p : Addr) (H' : Hp), Same H H' → Dp K (hid H' z) (.ref p) (stateT R (negL F)) → Q (.ref p) H'
/-- tuple(x) of a list or tuple of ints -/
theorem tup_of {K : PySem.W.Frag} {H : Hp} {z a : Addr} {ns : List Int} {Q : VK} (hz : H z ≠ none) (h : Sq K (hid H z) a (ns.map V.int)) (q : ∀ (p : Addr) (H' : Hp), Same H H' → Dp K (hid H' z) (.ref p) (rowT ns) → Q (.ref p) H') :
    ∃ (p : Addr) (ys : List V), [V.ref a] = [.ref p] ∧ ((SqL K H p ys ∧ ∀ l, H l = none → Q (.ref l) (upd H l (.tup ys))) ∨ (SqT K H p ys ∧ Q (.ref p) H)) := by
  rcases h with h | h
  · refine ⟨a, _, rfl, .inl ⟨hid_le.seq h, fun l nl => q l _ (same_new nl) (.tup (.inl (.inl ?_)) (dps_ints ns))⟩⟩
    rw [hid_ne (fun e => hz (by rw [← e]; exact nl)), upd_same]
  · exact ⟨a, _, rfl, .inr ⟨sqt_mono hid_le h, q a H (Same.refl _) (.tup h (dps_ints ns))⟩⟩
theorem call_tupZ {X : Cx} : CallR X (.type "tuple") (fun xs H Q => ∃ (z a : Addr) (ns : List Int), xs = [.ref a] ∧ H z ≠ none ∧ Sq X.K (hid H z) a (ns.map V.int) ∧ ∀ (p : Addr) (H' : Hp), Same H H' → Dp X.K (hid H' z) (.ref p) (rowT ns) → Q (.ref p) H') := by
  intro pins s σ H xs us Q I r h
  obtain ⟨z, a, ns, rfl, hz, hq, q⟩ := h
  exact call_tuple_of pins s σ H _ us Q I r (tup_of hz hq q)
theorem ok_turned {f : Addr} {fd : FuncData} {k : Nat} (T : Bl mg) (F : Fun K "turned" "turned" sTurned f fd) : FnOk P w K mg base CX0 (k + 1) f fd ["state"] (spTurned K) := by
  refine F.ok scTurned (fun vs H Q E h => ?_) (fun cdv A outer s H vs Q E hr h => ?_)
  · obtain ⟨_, _, _, _, _, rfl, _⟩ := h; rfl
  obtain ⟨z, st, sd, R, Fc, rfl, hz, hst, hSt, hF, q⟩ := h
  have nd := scTurned.nd
  refine ⟨_, pss_cons (ps_asg (pv 0) (pg_seq rfl (pgs_cons (pg_name (i := 1) nd rfl (.inl rfl)) (pgs_cons (pg_name (i := 2) nd rfl (.inl rfl)) pgs_nil))))
    (pss_one (ps_ret (pe_tup (pa_cons (pe_callTy call_tupZ rfl T.tuple bTuple (pa_cons (pv 1) pa_nil)) (pa_cons (pe_callTy call_tuple_of rfl T.tuple bTuple (pa_cons
      (pe_lc (own := [("face", 3)]) (g := gName 3) (tt := tYes) rfl nd (pi_seq (pv 2)) (blkOk_by (N := ["state", "standing", "faces", "face"]) (sc := defScope sTurned) (by decide +kernel))
        (fun _ _ _ _ _ => pg_name (i := 3) nd rfl (.inl rfl)) (fun _ _ _ _ _ => pts_nil) (fun _ _ _ _ _ => pe_un un_neg (pv 3))) pa_nil)) pa_nil))))), ?_⟩
  obtain ⟨a, r, fc, rd, fcd, rfl, hq, hr', hR, hf', hFd⟩ := state_at hst hSt
  obtain ⟨ra, rfl, hra⟩ := row_at hr' hR
  obtain ⟨fa, rfl, hfa⟩ := row_at hf' hFd
  refine ⟨_, rfl, a, _, rfl, sq_mono hid_le hq, rfl, _, _, rfl, _, _, rfl, rfl, ?_⟩
  refine ⟨_, rfl, z, ra, R, rfl, hz, hra, fun t H1 s1 ht => ?_⟩
  obtain ⟨bb, hbb⟩ := hfa.kind
  have hbb1 := hbb.up (hid_le.trans s1)
  refine ⟨_, rfl, fa, _, bb, rfl, hbb1, fun J wJ => fun D nD => ?_⟩
  have sD := same_new (o := .lst []) nD
  refine lc_it wJ (fun i H3 => H3 D = some (.lst ((negL (Fc.take i)).map V.int)) ∧ Same H1 H3) ⟨upd_same, sD⟩ (fun i H3 _ hP => hbb1.up hP.2) (fun i v H3 H4 hi hP hy => ?_) (fun H3 hP => ?_)
  · obtain ⟨hD, sm⟩ := hP
    obtain ⟨rfl, e1⟩ := hy
    rw [List.getElem?_map] at e1
    cases e : Fc[i]? with
    | none => rw [e] at e1; cases e1
    | some x =>
      rw [e] at e1
      cases e1
      refine ⟨rfl, yesT ?_⟩
      refine ⟨_, rfl, _, rfl, _, hD, ?_, ?_, fun c o ec => ?_⟩
      · rw [List.length_map, negL_len, List.length_take]; exact small1000 (by omega)
      · rw [upd_same, List.take_add_one, e]
        show _ = some (HO.lst ((negL (Fc.take i ++ [x])).map V.int))
        unfold negL
        rw [List.map_append, List.map_append]; rfl
      · rw [upd_ne (ne_of_none ec nD)]; exact sm _ _ ec
  · obtain ⟨hD, sm⟩ := hP
    rw [List.length_map, List.take_length] at hD
    refine ⟨D, _, rfl, .inl ⟨SqL.of hD, fun u nu => ?_⟩⟩
    have su := same_new (o := .tup ((negL Fc).map V.int)) nu
    refine ⟨by show 2 ≤ sizeLine; decide, fun p np => ?_⟩
    have sp := same_new (o := .tup [.ref t, .ref u]) np
    have c1 := s1.trans sm
    have nuz : u ≠ z := fun e => hz (by rw [← e]; exact c1.free nu)
    have npz : p ≠ z := fun e => hz (by rw [← e]; exact (c1.trans su).free np)
    refine q p _ ((c1.trans su).trans sp) (.tup (.inl (.inl (by rw [hid_ne npz, upd_same]))) (.cons (dp_up ht (hid_mono (sm.trans (su.trans sp)))) (.cons (.tup (.inl (.inl (hid_mono sp _ _ (by rw [hid_ne nuz, upd_same])))) (dps_ints (negL Fc))) .nil)))
/-! beat -/
def spBeat (K : PySem.W.Frag) : Sp := fun vs H Q _ => ∃ (z : Addr) (b st : V) (bd sd : PyData) (B : List (List Int)) (hi : Int) (S : List Int × List Int), vs = [b, st] ∧ H z ≠ none ∧ Dp K H b bd ∧ BookD bd B ∧ Dp K (hid H z) st sd ∧ StateD sd S.1 S.2 ∧ B.length ≤ 1000 ∧ GoodB B hi ∧ Ok B S ∧
  ∀ (p : Addr) (H' : Hp), Same H H' → Dp K (hid H' z) (.ref p) (stD (beatM B S)) → Q (.ref p) H'
theorem ok_beat {f fM fT fL fE : Addr} {fd fdM fdT fdL fdE : FuncData} {k : Nat} (T : Bl mg) (F : Fun K "beat" "beat" sBeat f fd)
    (DM : Df K mg "mover" sMover ["book", "state"] fM fdM) (GM : FnOk P w K mg base CX0 k fM fdM ["book", "state"] (spMover K))
    (DT : Df K mg "turned" sTurned ["state"] fT fdT) (GT : FnOk P w K mg base CX0 k fT fdT ["state"] (spTurned K))
    (DL : Df K mg "length_of" sLengthOf ["book", "rungs", "climber"] fL fdL) (GL : FnOk P w K mg base CX0 k fL fdL ["book", "rungs", "climber"] (spLengthOf K))
    (DE : Df K mg "end_rung" sEndRung ["length", "face"] fE fdE) (GE : FnOk P w K mg base CX0 k fE fdE ["length", "face"] spEnd) :
    FnOk P w K mg base CX0 (k + 1) f fd ["book", "state"] (spBeat K) := by
  refine F.ok scBeat (fun vs H Q E h => ?_) (fun cdv A outer s H vs Q E hr h => ?_)
  · obtain ⟨_, _, _, _, _, _, _, _, rfl, _⟩ := h; rfl
  obtain ⟨z, b, st, bd, sd, B, hi, ⟨R, Fc⟩, rfl, hz, hb, hB, hst, hSt, hlen, hG, hOk, q⟩ := h
  have nd := scBeat.nd
  have hS : Stands B R := hOk.st
  have hFl : Fc.length = B.length := hOk.fl
  have hRl : R.length = B.length := hS.len
  refine ⟨_, pss_cons (ps_set (i := 2) nd rfl (.inl rfl) (pe_do DM GM hr rfl (pa_cons (pv 0) (pa_cons (pv 1) pa_nil))))
    (pss_cons (ps_if (pt_cmp (pc_isN (pv 2))) (pss_one (ps_ret (pe_do DT GT hr rfl (pa_cons (pv 1) pa_nil)))) pss_nil)
    (pss_cons (ps_asg (pv 1) (pg_seq rfl (pgs_cons (pg_name (i := 3) nd rfl (.inl rfl)) (pgs_cons (pg_name (i := 4) nd rfl (.inl rfl)) pgs_nil))))
    (pss_cons (ps_set (i := 5) nd rfl (.inl rfl) (pe_callTy call_list_of rfl T.list bList (pa_cons (pe_slice sl_seq (pv 3) po_none (po_some (pv 2))) pa_nil)))
    (pss_cons (ps_expr (pe_bm PySem.F.plainAttrs_list PySem.F.slot_list_append PySem.F.type_list_append mt_append (pv 5) (pa_cons (pe_op op_add (pe_ix ix_seq (pv 3) (pv 2) (fun _ _ => rfl)) (pe_ix ix_seq (pv 4) (pv 2) (fun _ _ => rfl))) pa_nil)))
    (pss_cons (ps_for PassesOwn.never rfl (pi_range2 rfl T.range (pa_cons (pe_op op_add (pv 2) pe_int) (pa_cons (pe_callB call_len_seq rfl T.len bLen (pa_cons (pv 0) pa_nil)) pa_nil))) (pg_name (i := 6) nd rfl (.inl rfl))
      (pss_one (ps_expr (pe_bm PySem.F.plainAttrs_list PySem.F.slot_list_append PySem.F.type_list_append mt_append (pv 5) (pa_cons (pe_do DE GE hr rfl (pa_cons (pe_do DL GL hr rfl (pa_cons (pv 0) (pa_cons (pv 5) (pa_cons (pv 6) pa_nil)))) (pa_cons (pe_ix ix_seq (pv 4) (pv 6) (fun _ _ => rfl)) pa_nil))) pa_nil)))))
    (pss_cons (ps_set (i := 7) nd rfl (.inl rfl) (pe_callTy call_list_of rfl T.list bList (pa_cons (pe_slice sl_seq (pv 4) po_none (po_some (pe_op op_add (pv 2) pe_int))) pa_nil)))
    (pss_cons (ps_setLc (i := 8) (own := [("face", 9)]) (g := gName 9) (tt := tYes) rfl nd rfl rfl (sw_true rfl rfl rfl (by decide +kernel)) (pi_seq (pe_slice sl_seq (pv 4) (po_some (pe_op op_add (pv 2) pe_int)) po_none))
      (blkOk_by (N := ["book", "state", "goer", "standing", "faces", "rungs", "climber", "kept", "negated", "face"]) (sc := defScope sBeat) (by decide +kernel))
      (fun _ _ _ _ _ => pg_name (i := 9) nd rfl (.inl rfl)) (fun _ _ _ _ _ => pts_nil) (fun _ _ _ _ _ => pe_un un_neg (pv 9)))
    (pss_one (ps_ret (pe_tup (pa_cons (pe_callTy call_tupZ rfl T.tuple bTuple (pa_cons (pv 5) pa_nil)) (pa_cons (pe_callTy call_tupZ rfl T.tuple bTuple (pa_cons (pe_op op_cat (pv 7) (pv 8)) pa_nil)) pa_nil)))))))))))), ?_⟩
  refine ⟨_, rfl, _, rfl, b, st, bd, sd, B, R, Fc, rfl, hb, hB, dp_up hst hid_le, hSt, hlen, hS, hFl, fun H1 s1 => ?_⟩
  cases hm : moverO B R Fc with
  | none =>
    refine ⟨_, rfl, _, rfl, iteT ?_⟩
    have hz1 : H1 z ≠ none := fun e => hz (s1.free e)
    refine ⟨_, rfl, z, st, sd, R, Fc, rfl, hz1, dp_up hst (hid_mono s1), hSt, by omega, fun p H2 s2 hp => ?_⟩
    refine q p H2 (s1.trans s2) ?_
    have e : beatM B (R, Fc) = (R, negL Fc) := by unfold beatM; rw [show moverO B (R, Fc).1 (R, Fc).2 = none from hm]; rfl
    rw [e]; exact hp
  | some g =>
    obtain ⟨n, r, fg, hg, e1, e2, e3, r1, r2, hne, hf, v1, v2⟩ := mover_new hG hOk hm
    obtain ⟨t1, t2⟩ := take_stands (v := r + fg) hS hg e1 v1 v2
    refine ⟨_, rfl, _, rfl, iteF ?_⟩
    obtain ⟨a, rv, fv, rd, fcd, rfl, hq, hr', hR, hf', hFd⟩ := state_at hst hSt
    obtain ⟨ra, rfl, hra⟩ := row_at hr' hR
    obtain ⟨fa, rfl, hfa⟩ := row_at hf' hFd
    refine ⟨_, rfl, a, _, rfl, sq_mono (hid_le.trans s1) hq, rfl, _, _, rfl, _, _, rfl, rfl, ?_⟩
    -- rungs = list(standing[:goer])
    refine ⟨_, rfl, _, rfl, _, rfl, ra, _, rfl, sq_mono (hid_le.trans s1) hra, fun c1 H2 s2 hc1 => ?_⟩
    rw [cut_ints, HT.sIx_nat, HT.sIx_none, List.drop_zero, Nat.sub_zero, show min g R.length = g by omega] at hc1
    have q2 := s1.trans s2
    refine ⟨c1, _, rfl, hc1, fun ru nru => ?_⟩
    have s3 := same_new (o := .lst ((R.take g).map V.int)) nru
    have q3 := q2.trans s3
    have nruH : H ru = none := q2.free nru
    have nruz : ru ≠ z := fun e => hz (by rw [← e]; exact nruH)
    -- rungs.append
    refine ⟨_, rfl, .inl ⟨rfl, _, SqL.of upd_same⟩, _, rfl, _, rfl, ix_of (sq_mono (hid_le.trans q3) hra) (atI_nat (j := g) (by rw [List.getElem?_map, e2]; rfl)) ?_⟩
    refine ⟨_, rfl, _, rfl, ix_of (sq_mono (hid_le.trans q3) hfa) (atI_nat (j := g) (by rw [List.getElem?_map, e3]; rfl)) ?_⟩
    refine ⟨_, _, rfl, rfl, ru, _, _, rfl, rfl, upd_same, ?_, ?_⟩
    · rw [List.length_map, List.length_take]; exact small1000 (by omega)
    have q4 : Same H (upd (upd H2 ru (.lst ((R.take g).map V.int))) ru (.lst ((R.take g).map V.int ++ [V.int (r + fg)]))) := fun c o ec => by
      rw [upd_ne (ne_of_none ec nruH)]; exact q3 _ _ ec
    have e4 : (upd (upd H2 ru (.lst ((R.take g).map V.int))) ru (.lst ((R.take g).map V.int ++ [V.int (r + fg)]))) ru = some (.lst ((R.take g ++ [r + fg]).map V.int)) := by rw [upd_same, List.map_append]; rfl
    generalize upd (upd H2 ru (.lst ((R.take g).map V.int))) ru (.lst ((R.take g).map V.int ++ [V.int (r + fg)])) = H4 at q4 e4
    -- the younger ones
    obtain ⟨ba, xs, rfl, hba, hxl⟩ := book_len (dp_up hb q4) hB
    refine ⟨_, rfl, _, _, rfl, rfl, _, rfl, ba, xs, rfl, hba, _, _, rfl, ⟨by omega, by omega, by omega, by omega⟩, ?_⟩
    have en : (((xs.length : Nat) : Int) - (((g : Nat) : Int) + 1)).toNat = B.length - (g + 1) := by omega
    rw [en]
    refine for_range (lo := (g : Int) + 1) (n := B.length - (g + 1)) (fun j σ H5 => ∃ y6 : Option V, σ = [some (.ref ba), some (.ref a), some (.int (g : Nat)), some (.ref ra), some (.ref fa), some (.ref ru), y6, none, none, none] ∧ H5 ru = some (.lst ((goB B Fc j (R.take g ++ [r + fg])).map V.int)) ∧ Same H H5)
      ⟨none, rfl, e4, q4⟩ (fun j σ H5 hj hP => ?_) (fun σ H5 hP => ?_)
    · obtain ⟨y6, rfl, hru, sm⟩ := hP
      have gl := goB_len B Fc j (R.take g ++ [r + fg])
      rw [t2] at gl
      have gs := goB_stands (F := Fc) hG j (R.take g ++ [r + fg]) (by rw [t2]; omega) (by rw [t2]; exact t1)
      rw [t2] at gs
      obtain ⟨n2, l1, l2, l3⟩ := len_ex hG (show g + 1 + j < B.length by omega) gs
      have hF2 : Fc[g + 1 + j]? = some Fc[g + 1 + j] := List.getElem?_eq_getElem (by omega)
      have ej : ((g : Nat) : Int) + 1 + (j : Nat) = ((g + 1 + j : Nat) : Int) := by omega
      have step : goB B Fc (j + 1) (R.take g ++ [r + fg]) = goB B Fc j (R.take g ++ [r + fg]) ++ [endR n2 Fc[g + 1 + j]] := by
        rw [goB_snoc, gl, l1, hF2]; rfl
      refine ⟨_, rfl, .inl ⟨rfl, _, SqL.of hru⟩, ?_⟩
      refine ⟨_, rfl, _, rfl, _, rfl, _, _, g + 1 + j, bd, rowL (goB B Fc j (R.take g ++ [r + fg])), B, _, n2, ?_, dp_up hb sm, hB, dp_lst_ints hru, rowL_row _, l1, ?_⟩
      · show [V.ref ba, V.ref ru, V.int ((g : Int) + 1 + (j : Int))] = _
        rw [ej]
      refine ⟨_, rfl, _, rfl, ix_of (sq_mono (hid_le.trans sm) hfa) (v := V.int Fc[g + 1 + j]) ?_ ?_⟩
      · rw [ej]; exact atI_nat (by rw [List.getElem?_map, hF2]; rfl)
      refine ⟨_, _, rfl, ru, _, _, rfl, rfl, hru, ?_, _, rfl, ?_, fun c o ec => ?_⟩
      · rw [List.length_map]; exact small1000 (by omega)
      · rw [upd_same, step, List.map_append]; rfl
      · rw [upd_ne (ne_of_none ec nruH)]; exact sm _ _ ec
    obtain ⟨y6, rfl, hru5, q5⟩ := hP
    generalize hR2 : goB B Fc (B.length - (g + 1)) (R.take g ++ [r + fg]) = R2 at hru5
    -- kept
    have eg : ((g : Nat) : Int) + 1 = ((g + 1 : Nat) : Int) := by omega
    refine ⟨_, rfl, _, rfl, _, _, rfl, rfl, _, rfl, fa, _, rfl, sq_mono (hid_le.trans q5) hfa, fun c2 H6 s6 hc2 => ?_⟩
    rw [cut_ints, show HT.sIx Fc.length Fc.length (some (((g : Nat) : Int) + 1)) = min (g + 1) Fc.length from by rw [eg]; exact HT.sIx_nat _ _ _, HT.sIx_none, List.drop_zero, Nat.sub_zero, show min (g + 1) Fc.length = g + 1 by omega] at hc2
    have q6 := q5.trans s6
    refine ⟨c2, _, rfl, hc2, fun ke nke => ?_⟩
    have s7 := same_new (o := .lst ((Fc.take (g + 1)).map V.int)) nke
    have q7 := q6.trans s7
    have eke : (upd H6 ke (.lst ((Fc.take (g + 1)).map V.int))) ke = some (.lst ((Fc.take (g + 1)).map V.int)) := upd_same
    have eru7 := s7 _ _ (s6 _ _ hru5)
    generalize upd H6 ke (.lst ((Fc.take (g + 1)).map V.int)) = H7 at q7 eke eru7
    -- negated
    refine ⟨_, rfl, _, rfl, _, _, rfl, rfl, _, rfl, fa, _, rfl, sq_mono (hid_le.trans q7) hfa, fun c3 H8 s8 hc3 => ?_⟩
    rw [cut_ints, show HT.sIx Fc.length 0 (some (((g : Nat) : Int) + 1)) = min (g + 1) Fc.length from by rw [eg]; exact HT.sIx_nat _ _ _, HT.sIx_none, show min (g + 1) Fc.length = g + 1 by omega, show (Fc.drop (g + 1)).take (Fc.length - (g + 1)) = Fc.drop (g + 1) from List.take_of_length_le (by rw [List.length_drop]; exact Nat.le_refl _)] at hc3
    have q8 := q7.trans s8
    obtain ⟨bb, hbb⟩ := hc3.kind
    refine ⟨c3, (Fc.drop (g + 1)).map V.int, bb, rfl, hbb, fun J wJ => fun D nD => ?_⟩
    have sD := same_new (o := .lst []) nD
    refine lc_it wJ (fun i H9 => H9 D = some (.lst ((negL ((Fc.drop (g + 1)).take i)).map V.int)) ∧ Same H8 H9) ⟨upd_same, sD⟩ (fun i H9 _ hP => hbb.up hP.2) (fun i v H9 H10 hi hP hy => ?_) (fun H9 hP => ?_)
    · obtain ⟨hD, sm⟩ := hP
      obtain ⟨rfl, e1⟩ := hy
      rw [List.getElem?_map] at e1
      cases e : (Fc.drop (g + 1))[i]? with
      | none => rw [e] at e1; cases e1
      | some x =>
        rw [e] at e1
        cases e1
        refine ⟨rfl, yesT ?_⟩
        refine ⟨_, rfl, _, rfl, _, hD, ?_, ?_, fun c o ec => ?_⟩
        · rw [List.length_map, negL_len, List.length_take, List.length_drop]; exact small1000 (by omega)
        · rw [upd_same, List.take_add_one, e]
          show _ = some (HO.lst ((negL ((Fc.drop (g + 1)).take i ++ [x])).map V.int))
          unfold negL
          rw [List.map_append, List.map_append]; rfl
        · rw [upd_ne (ne_of_none ec nD)]; exact sm _ _ ec
    obtain ⟨hD, s9⟩ := hP
    rw [List.length_map, List.take_length] at hD
    have q9 := q8.trans s9
    have eru9 := s9 _ _ (s8 _ _ eru7)
    have eke9 := s9 _ _ (s8 _ _ eke)
    have hz9 : H9 z ≠ none := fun e => hz (q9.free e)
    -- the end
    refine ⟨_, rfl, z, ru, R2, rfl, hz9, .inl (SqL.of (by rw [hid_ne nruz]; exact eru9)), fun t H10 s10 ht => ?_⟩
    have q10 := q9.trans s10
    refine ⟨_, rfl, _, rfl, ke, D, _, _, rfl, rfl, s10 _ _ eke9, s10 _ _ hD, ?_, fun u nu => ?_⟩
    · rw [List.length_map, List.length_map, List.length_take, negL_len, List.length_drop]
      exact Nat.le_of_lt (small1000 (by omega))
    have s11 := same_new (o := .lst ((Fc.take (g + 1)).map V.int ++ (negL (Fc.drop (g + 1))).map V.int)) nu
    have q11 := q10.trans s11
    have nuz : u ≠ z := fun e => hz (by rw [← e]; exact q10.free nu)
    have hz11 := fun e => hz (q11.free (l := z) e)
    refine ⟨z, u, Fc.take (g + 1) ++ negL (Fc.drop (g + 1)), rfl, hz11, .inl (SqL.of (by rw [hid_ne nuz, upd_same, List.map_append])), fun t2 H12 s12 ht2 => ?_⟩
    have q12 := q11.trans s12
    refine ⟨by show 2 ≤ sizeLine; decide, fun p np => ?_⟩
    have sp := same_new (o := .tup [.ref t, .ref t2]) np
    have npz : p ≠ z := fun e => hz (by rw [← e]; exact q12.free np)
    refine q p _ (q12.trans sp) ?_
    have e : beatM B (R, Fc) = (R2, Fc.take (g + 1) ++ negL (Fc.drop (g + 1))) := by
      unfold beatM
      rw [show moverO B (R, Fc).1 (R, Fc).2 = some g from hm]
      show (goB B Fc _ (R.take g ++ [R[g]?.getD 0 + Fc[g]?.getD 0]), _) = _
      rw [e2, e3, ← hR2]; rfl
    rw [e]
    exact .tup (.inl (.inl (by rw [hid_ne npz, upd_same]))) (.cons (dp_up ht (hid_mono ((s11.trans s12).trans sp))) (.cons (dp_up ht2 (hid_mono sp)) .nil))
end
end Af
namespace Af
open PySem PySem.Spec PyProof.Rows L2
section
variable {P : Program} {w : World} {K : PySem.W.Frag} {mg : Str → Option Value} {base : Heap}
/-! beats_along -/
theorem call_tupS {X : Cx} : CallR X (.type "tuple") (fun xs H Q => ∃ (a : Addr) (ns : List Int), xs = [.ref a] ∧ Sq X.K H a (ns.map V.int) ∧ ∀ (p : Addr) (H' : Hp), Same H H' → Dp X.K H' (.ref p) (rowT ns) → Q (.ref p) H') := by
  intro pins s σ H xs us Q I r h
  obtain ⟨a, ns, rfl, hq, q⟩ := h
  refine call_tuple_of pins s σ H _ us Q I r ?_
  rcases hq with h | h
  · exact ⟨a, _, rfl, .inl ⟨h, fun l nl => q l _ (same_new nl) (.tup (.inl (.inl upd_same)) (dps_ints ns))⟩⟩
  · exact ⟨a, _, rfl, .inr ⟨h, q a H (Same.refl _) (.tup h (dps_ints ns))⟩⟩
theorem same_hid {H : Hp} {p : Addr} {o : HO} (hp : H p = none) : Same H (hid (upd H p o) p) := fun c x ec => by
  have n := ne_of_none ec hp
  rw [hid_ne n, upd_ne n]; exact ec
theorem along_at (B : List (List Int)) (n : Nat) (S : List Int × List Int) : (alongL B n S)[n]? = some (itB B n S) := by
  have h := alongL_last B n S
  rw [List.getLast?_eq_getElem?, alongL_len] at h
  exact h
def spAlong (K : PySem.W.Frag) : Sp := fun vs H Q _ => ∃ (b st : V) (bd sd : PyData) (B : List (List Int)) (hi : Int) (S : List Int × List Int) (many : Nat), vs = [b, st, .int many] ∧ Dp K H b bd ∧ BookD bd B ∧ Dp K H st sd ∧ StateD sd S.1 S.2 ∧ B.length ≤ 1000 ∧ GoodB B hi ∧ Ok B S ∧ many ≤ 1000 ∧
  ∀ (p : Addr) (H' : Hp) (vs : List V), H p = none → Same H H' → H' p = some (.lst vs) → DpAll K (hid H' p) vs ((alongL B many S).map stD) → Q (.ref p) H'
theorem ok_along {f fB : Addr} {fd fdB : FuncData} {k : Nat} (T : Bl mg) (F : Fun K "beats_along" "beats_along" sBeatsAlong f fd)
    (DB : Df K mg "beat" sBeat ["book", "state"] fB fdB) (GB : FnOk P w K mg base CX0 k fB fdB ["book", "state"] (spBeat K)) :
    FnOk P w K mg base CX0 (k + 1) f fd ["book", "state", "many"] (spAlong K) := by
  refine F.ok scBeatsAlong (fun vs H Q E h => ?_) (fun cdv A outer s H vs Q E hr h => ?_)
  · obtain ⟨_, _, _, _, _, _, _, _, rfl, _⟩ := h; rfl
  obtain ⟨b, st, bd, sd, B, hi, S, many, rfl, hb, hB, hst, hSt, hlen, hG, hOk, hmany, q⟩ := h
  have nd := scBeatsAlong.nd
  refine ⟨_, pss_cons (ps_asg (pv 1) (pg_seq rfl (pgs_cons (pg_name (i := 3) nd rfl (.inl rfl)) (pgs_cons (pg_name (i := 4) nd rfl (.inl rfl)) pgs_nil))))
    (pss_cons (ps_set (i := 5) nd rfl (.inl rfl) (pe_lst (pa_cons (pe_tup (pa_cons (pe_callTy call_tupS rfl T.tuple bTuple (pa_cons (pv 3) pa_nil)) (pa_cons (pe_callTy call_tupS rfl T.tuple bTuple (pa_cons (pv 4) pa_nil)) pa_nil))) pa_nil)))
    (pss_cons (ps_for PassesOwn.never rfl (pi_range1 rfl T.range (pa_cons (pv 2) pa_nil)) (pg_name (i := 6) nd rfl (.inl rfl))
      (pss_one (ps_expr (pe_bm PySem.F.plainAttrs_list PySem.F.slot_list_append PySem.F.type_list_append mt_append (pv 5) (pa_cons (pe_do DB GB hr rfl (pa_cons (pv 0) (pa_cons (pe_ix ix_list (pv 5) (pv 6) (fun _ _ => rfl)) pa_nil))) pa_nil)))))
    (pss_one (ps_ret (pv 5))))), ?_⟩
  obtain ⟨a, rv, fv, rd, fcd, rfl, hq, hr', hR, hf', hFd⟩ := state_at hst hSt
  obtain ⟨ra, rfl, hra⟩ := row_at hr' hR
  obtain ⟨fa, rfl, hfa⟩ := row_at hf' hFd
  refine ⟨_, rfl, a, _, rfl, hq, rfl, _, _, rfl, _, _, rfl, rfl, ?_⟩
  refine ⟨_, rfl, ra, S.1, rfl, hra, fun t1 H1 s1 h1 => ?_⟩
  refine ⟨_, rfl, fa, S.2, rfl, sq_mono s1 hfa, fun t2 H2 s2 h2 => ?_⟩
  refine ⟨by show 2 ≤ sizeLine; decide, fun t3 n3 => ?_⟩
  have s3 := same_new (o := .tup [.ref t1, .ref t2]) n3
  refine ⟨by show 1 ≤ sizeLine; decide, fun p np => ?_⟩
  have c3 := (s1.trans s2).trans s3
  have npH : H p = none := c3.free np
  have s4 := same_new (o := .lst [.ref t3]) np
  refine ⟨_, rfl, _, rfl, by omega, by omega, ?_⟩
  have en : ((many : Nat) : Int).toNat = many := by omega
  rw [en]
  refine for_range (lo := 0) (n := many) (fun i σ H5 => ∃ (y6 : Option V) (vs : List V), σ = [some b, some (.ref a), some (.int many), some (.ref ra), some (.ref fa), some (.ref p), y6] ∧ H5 p = some (.lst vs) ∧ DpAll K (hid H5 p) vs ((alongL B i S).map stD) ∧ Same H H5)
    ⟨none, [.ref t3], rfl, upd_same, .cons (dp_up (.tup (.inl (.inl upd_same)) (.cons (dp_up h1 (s2.trans s3)) (.cons (dp_up h2 s3) .nil))) (same_hid np)) .nil, c3.trans s4⟩ (fun i σ H5 hi5 hP => ?_) (fun σ H5 hP => ?_)
  · obtain ⟨y6, vs, rfl, hp, hvs, sm⟩ := hP
    have hl := dps_len hvs
    rw [List.length_map, alongL_len] at hl
    obtain ⟨v, ev, dv⟩ := dps_get (i := i) (d := stD (itB B i S)) hvs (by rw [List.getElem?_map, along_at]; rfl)
    refine ⟨_, rfl, .inl ⟨rfl, _, SqL.of hp⟩, ?_⟩
    refine ⟨_, rfl, _, rfl, _, rfl, p, _, _, v, rfl, rfl, SqL.of hp, ?_, ?_⟩
    · rw [Int.zero_add]; exact atI_nat ev
    refine ⟨p, b, v, bd, stD (itB B i S), B, hi, itB B i S, rfl, (by rw [hp]; exact fun z => nomatch z), dp_up hb sm, hB, dv, stateT_state _ _, hlen, hG, itB_ok hG i hOk, fun r H6 s6 hr6 => ?_⟩
    refine ⟨p, _, _, rfl, rfl, s6 _ _ hp, ?_, _, vs ++ [.ref r], rfl, upd_same, ?_, fun c o ec => ?_⟩
    · rw [hl]; exact small1000 (by omega)
    · rw [hid_upd, alongL_succ, List.map_append]
      exact dps_app (dps_up hvs (hid_mono s6)) (.cons hr6 .nil)
    · rw [upd_ne (ne_of_none ec npH)]; exact s6 _ _ (sm _ _ ec)
  · obtain ⟨y6, vs, rfl, hp, hvs, sm⟩ := hP
    exact ⟨_, rfl, q p H5 vs npH sm hp hvs⟩
end
end Af
namespace Af
open PySem PySem.Spec PyProof.Rows L2
section
variable {P : Program} {w : World} {K : PySem.W.Frag} {mg : Str → Option Value} {base : Heap}
/-! _law_one_right -/
def spOne : Sp := fun vs H Q _ => ∃ L : Nat, vs = [.int L] ∧ 1 ≤ L ∧ L < 13 ∧ ∀ H', Same H H' → Q (.bl true) H'
def upL (n : Nat) : List (List Int × List Int) := (List.range n).map fun (i : Nat) => ([1 + (i : Int)], [1])
def dnL (L n : Nat) : List (List Int × List Int) := (List.range n).map fun (i : Nat) => ([(L : Int) + (i : Int) * -1], [-1])
theorem upL_succ (n : Nat) : upL (n + 1) = upL n ++ [([1 + (n : Int)], [1])] := by unfold upL; rw [List.range_succ, List.map_append]; rfl
theorem dnL_succ (L n : Nat) : dnL L (n + 1) = dnL L n ++ [([(L : Int) + (n : Int) * -1], [-1])] := by unfold dnL; rw [List.range_succ, List.map_append]; rfl
theorem upL_len (n : Nat) : (upL n).length = n := by unfold upL; rw [List.length_map, List.length_range]
theorem dnL_len (L n : Nat) : (dnL L n).length = n := by unfold dnL; rw [List.length_map, List.length_range]
theorem one_facts : ∀ L : Nat, L < 13 → 1 ≤ L → alongL [[(L : Int)]] (2 * L) ([1], [1]) = upL L ++ dnL L L ++ (upL L).take 1 ∧ goodB [[(L : Int)]] 12 = true ∧ okB [[(L : Int)]] ([1], [1]) = true := by decide +kernel
set_option maxHeartbeats 1600000 in
theorem ok_one {f fa fs : Addr} {fd fda fds : FuncData} {k : Nat} (T : Bl mg) (F : Fun K "_law_one_right" "_law_one_right" sLawOneRight f fd)
    (Da : Df K mg "beats_along" sBeatsAlong ["book", "state", "many"] fa fda) (Ga : FnOk P w K mg base CX0 k fa fda ["book", "state", "many"] (spAlong K))
    (Ds : Df K mg "_law_same" sLawSame ["_law_found", "_law_due"] fs fds) (Gs : FnOk P w K mg base CX0 10 fs fds ["_law_found", "_law_due"] (spSame K 10)) (hk : 10 ≤ k) :
    FnOk P w K mg base CX0 (k + 1) f fd ["_law_long"] spOne := by
  refine F.ok scLawOneRight (fun vs H Q E h => ?_) (fun cdv A outer s H vs Q E hr h => ?_)
  · obtain ⟨_, rfl, _⟩ := h; rfl
  obtain ⟨L, rfl, hL1, hL2, q⟩ := h
  obtain ⟨hal, hgd, hok⟩ := one_facts L hL2 hL1
  have hG := good_of hgd
  have hO := ok_of hok
  have nd := scLawOneRight.nd
  have hr10 := hr.mono hk
  refine ⟨_, pss_cons (ps_setLc (i := 1) (own := [("_law_rung", 2)]) (g := gName 2) (tt := tYes) rfl nd rfl rfl (sw_true rfl rfl rfl (by decide +kernel)) (pi_range2 rfl T.range (pa_cons pe_int (pa_cons (pe_op op_add (pv 0) pe_int) pa_nil)))
      (blkOk_by (N := ["_law_long", "_law_up", "_law_rung", "_law_due"]) (sc := defScope sLawOneRight) (by decide +kernel))
      (fun _ _ _ _ _ => pg_name (i := 2) nd rfl (.inl rfl)) (fun _ _ _ _ _ => pts_nil) (fun _ _ _ _ _ => pe_tup (pa_cons (pe_tup (pa_cons (pv 2) pa_nil)) (pa_cons (pe_tup (pa_cons pe_int pa_nil)) pa_nil))))
    (pss_cons (ps_set (i := 3) nd rfl (.inl rfl) (pe_op op_cat (pe_op op_cat (pv 1)
        (pe_lc (own := [("_law_rung", 2)]) (g := gName 2) (tt := tYes) rfl nd (pi_range3 rfl T.range (pa_cons (pv 0) (pa_cons pe_int (pa_cons (pe_un un_neg pe_int) pa_nil))))
          (blkOk_by (N := ["_law_long", "_law_up", "_law_rung", "_law_due"]) (sc := defScope sLawOneRight) (by decide +kernel))
          (fun _ _ _ _ _ => pg_name (i := 2) nd rfl (.inl rfl)) (fun _ _ _ _ _ => pts_nil) (fun _ _ _ _ _ => pe_tup (pa_cons (pe_tup (pa_cons (pv 2) pa_nil)) (pa_cons (pe_tup (pa_cons (pe_un un_neg pe_int) pa_nil)) pa_nil)))))
        (pe_slice sl_list (pv 1) po_none (po_some pe_int))))
    (pss_one (ps_ret (pe_do Ds Gs hr10 rfl (pa_cons (pe_do Da Ga hr rfl (pa_cons (pe_tup (pa_cons (pe_tup (pa_cons (pv 0) pa_nil)) pa_nil)) (pa_cons (pn_tup (pn_cons (pn_tup (pn_cons pn_int pn_nil)) (pn_cons (pn_tup (pn_cons pn_int pn_nil)) pn_nil))) (pa_cons (pe_op op_mul pe_int (pv 0)) pa_nil)))) (pa_cons (pv 3) pa_nil)))))), ?_⟩
  -- up
  refine ⟨_, rfl, _, _, rfl, rfl, _, _, rfl, ⟨by omega, by omega, by omega, by omega⟩, fun D nD => ?_⟩
  have sD := same_new (o := .lst []) nD
  have en : (((L : Nat) : Int) + 1 - 1).toNat = L := by omega
  rw [en]
  refine lc_range (lo := 1) (n := L) (fun i H3 => ∃ vs, H3 D = some (.lst vs) ∧ DpAll K (hid H3 D) vs ((upL i).map stD) ∧ Same H H3) ⟨[], upd_same, .nil, sD⟩ (fun i H3 hi hP => ?_) (fun H3 hP => ?_)
  · obtain ⟨vs, hD, hvs, sm⟩ := hP
    refine ⟨rfl, yesT ?_⟩
    refine ⟨_, rfl, by show 1 ≤ sizeLine; decide, fun t1 n1 => ⟨by show 1 ≤ sizeLine; decide, fun t2 n2 => ⟨by show 2 ≤ sizeLine; decide, fun t3 n3 => ?_⟩⟩⟩
    have hn := new_st (K := K) (A := [1 + (i : Int)]) (F := [1]) n1 n2 n3
    have sn : Same H3 (upd (upd (upd H3 t1 (.tup [.int (1 + (i : Int))])) t2 (.tup [.int 1])) t3 (.tup [.ref t1, .ref t2])) := ((same_new n1).trans (same_new n2)).trans (same_new n3)
    have hl := dps_len hvs
    rw [List.length_map, upL_len] at hl
    refine ⟨vs, sn _ _ hD, by rw [hl]; exact small1000 (by omega), vs ++ [.ref t3], upd_same, ?_, fun c o ec => ?_⟩
    · rw [hid_upd, upL_succ, List.map_append]
      exact dps_app (dps_up hvs (hid_mono sn)) (.cons (hn.hid (by rw [hD]; exact fun z => nomatch z)) .nil)
    · rw [upd_ne (ne_of_none ec nD)]; exact sn _ _ (sm _ _ ec)
  obtain ⟨us, hD, hus, sm⟩ := hP
  have ul := dps_len hus
  rw [List.length_map, upL_len] at ul
  -- due
  refine ⟨_, rfl, _, rfl, 1, rfl, _, _, _, L, rfl, ?_, fun D2 nD2 => ?_⟩
  · have := RgC.neg (i := (L : Int)) (j := 0) (by omega) (by omega) (by omega) (by omega)
    rw [show ((L : Int) - 0).toNat = L by omega] at this
    exact this
  have nDD : D ≠ D2 := ne_of_none hD nD2
  refine lc_it walk_rangeC (fun i H4 => ∃ vs, H4 D2 = some (.lst vs) ∧ DpAll K (hid H4 D2) vs ((dnL L i).map stD) ∧ Same H3 H4) ⟨[], upd_same, .nil, same_new nD2⟩ (fun _ _ _ _ => trivial) (fun i x H4 H5 hi hP hy => ?_) (fun H4 hP => ?_)
  · obtain ⟨vs, hD2, hvs, sm2⟩ := hP
    obtain ⟨rfl, rfl⟩ := hy
    refine ⟨rfl, yesT ?_⟩
    refine ⟨_, rfl, by show 1 ≤ sizeLine; decide, fun t1 n1 => ⟨1, rfl, by show 1 ≤ sizeLine; decide, fun t2 n2 => ⟨by show 2 ≤ sizeLine; decide, fun t3 n3 => ?_⟩⟩⟩
    have hn := new_st (K := K) (A := [(L : Int) + (i : Int) * -1]) (F := [-1]) n1 n2 n3
    have sn : Same H5 (upd (upd (upd H5 t1 (.tup [.int ((L : Int) + (i : Int) * -1)])) t2 (.tup [.int (-1)])) t3 (.tup [.ref t1, .ref t2])) := ((same_new n1).trans (same_new n2)).trans (same_new n3)
    have hl := dps_len hvs
    rw [List.length_map, dnL_len] at hl
    refine ⟨vs, sn _ _ hD2, by rw [hl]; exact small1000 (by omega), vs ++ [.ref t3], upd_same, ?_, fun c o ec => ?_⟩
    · rw [hid_upd, dnL_succ, List.map_append]
      exact dps_app (dps_up hvs (hid_mono sn)) (.cons (hn.hid (by rw [hD2]; exact fun z => nomatch z)) .nil)
    · rw [upd_ne (ne_of_none ec nD2)]; exact sn _ _ (sm2 _ _ ec)
  obtain ⟨ws, hD2, hws, sm2⟩ := hP
  have wl := dps_len hws
  rw [List.length_map, dnL_len] at wl
  refine ⟨D, D2, us, ws, rfl, rfl, sm2 _ _ hD, hD2, ?_, fun l1 nl1 => ?_⟩
  · rw [ul, wl]; exact Nat.le_of_lt (small1000 (by omega))
  have s1 := same_new (o := .lst (us ++ ws)) nl1
  refine ⟨_, rfl, 1, rfl, D, us, rfl, SqL.of (s1 _ _ (sm2 _ _ hD)), fun l2 nl2 => ?_⟩
  rw [cut_take1]
  have s2 := same_new (o := .lst (us.take 1)) nl2
  refine ⟨l1, l2, us ++ ws, us.take 1, rfl, rfl, s2 _ _ upd_same, upd_same, ?_, fun l3 nl3 => ?_⟩
  · have : (us.take 1).length ≤ 1 := by rw [List.length_take]; omega
    rw [List.length_append, ul, wl]; exact Nat.le_of_lt (small1000 (by omega))
  have s3 := same_new (o := .lst (us ++ ws ++ us.take 1)) nl3
  have c3 := (s1.trans s2).trans s3
  have hdue : DpAll K (upd (upd (upd H4 l1 (.lst (us ++ ws))) l2 (.lst (us.take 1))) l3 (.lst (us ++ ws ++ us.take 1))) (us ++ ws ++ us.take 1) ((alongL [[(L : Int)]] (2 * L) ([1], [1])).map stD) := by
    rw [hal, List.map_append, List.map_append, List.map_take]
    have a1 := dps_up hus (hid_le.trans (sm2.trans c3))
    exact dps_app (dps_app a1 (dps_up hws (hid_le.trans c3))) (dps_take1 a1)
  -- the beats
  refine ⟨_, rfl, by show 1 ≤ sizeLine; decide, fun t1 n1 => ⟨by show 1 ≤ sizeLine; decide, fun t2 n2 => ?_⟩⟩
  have b1 := same_new (o := .tup [.int (L : Int)]) n1
  have b2 := same_new (o := .tup [.ref t1]) n2
  refine fun v5 H5 s5 h5 => ?_
  refine ⟨_, rfl, _, _, rfl, rfl, .inl ⟨by decide, by decide⟩, _, _, bookT [[(L : Int)]], stD ([1], [1]), [[(L : Int)]], 12, ([1], [1]), 2 * L, ?_, .tup (.inl (.inl (s5 _ _ upd_same))) (.cons (.tup (.inl (.inl ((b2.trans s5) _ _ upd_same))) (.cons (.int _) .nil)) .nil), bookT_book _, h5.dp, stateT_state _ _, by show 1 ≤ 1000; decide, hG, hO, by omega, fun p6 H6 v6 n6 s6 e6 d6 => ?_⟩
  · show [V.ref t2, v5, V.int (2 * (L : Int))] = _
    rw [show (2 : Int) * (L : Int) = ((2 * L : Nat) : Int) by omega]
  have c6 := (b1.trans b2).trans (s5.trans s6)
  have hz := along_list hG (by show 1 ≤ 100; decide) (show 2 * L ≤ 60 by omega) hO
  refine ⟨_, rfl, _, _, .list ((alongL [[(L : Int)]] (2 * L) ([1], [1])).map stD), rfl, .lst (SqL.of e6) (dps_up d6 hid_le), .lst (SqL.of (c6 _ _ upd_same)) (dps_up hdue c6), by have := hz.1; omega, by have := hz.2; omega, fun H7 s7 => ?_⟩
  exact q _ (sm.trans (sm2.trans (c3.trans (c6.trans s7))))
end
end Af
namespace Af
open PySem PySem.Spec PyProof.Rows L2
section
variable {P : Program} {w : World} {K : PySem.W.Frag} {mg : Str → Option Value} {base : Heap}
/-! _law_two_right -/
def spTwo : Sp := fun vs H Q _ => ∃ L : Nat, vs = [.int L] ∧ 1 ≤ L ∧ L < 13 ∧ ∀ H', Same H H' → Q (.bl true) H'
def B2 (L : Nat) : List (List Int) := [[(L : Int)], (List.range L).map fun (i : Nat) => 1 + (i : Int)]
def hS (r l : Int) : List Int × List Int := ([r, if l = 1 then r else 1], [1, l])
def dS (r l : Int) : List Int × List Int := ([r + 1, if l = 1 then r + 1 else 1], [1, 0 - l])
def chk1 (L : Nat) (l : Int) : Bool := decide (beatM (B2 L) (hS L l) = ([(L : Int), if l = 1 then (L : Int) else 1], [-1, 0 - l]))
def chk2 (L : Nat) (l : Int) (i : Nat) : Bool := decide (beatM (B2 L) (hS (1 + (i : Int)) l) = dS (1 + (i : Int)) l) && (decide (moverO (B2 L) (hS (1 + (i : Int)) l).1 (hS (1 + (i : Int)) l).2 = some 0) &&
  (decide (itB (B2 L) (1 + i) (dS (1 + (i : Int)) l) = hS (1 + (i : Int) + 1) (0 - l)) && decide ((castL (blockedN (B2 L) (hS (1 + (i : Int) + 1) (0 - l)).1 (hS (1 + (i : Int) + 1) (0 - l)).2 2)).getLast? = some 1)))
def chk (L : Nat) : Bool := [(1 : Int), -1].all fun l => chk1 L l && (List.range (L - 1)).all (chk2 L l)
theorem chk_all : ∀ L : Nat, L < 13 → 1 ≤ L → chk L = true := by decide +kernel
theorem two_facts (L : Nat) (h : L < 13) (h1 : 1 ≤ L) (l : Int) (hl : l = 1 ∨ l = -1) :
    (beatM (B2 L) (hS L l) = ([(L : Int), if l = 1 then (L : Int) else 1], [-1, 0 - l])) ∧ ∀ i, i < L - 1 →
      beatM (B2 L) (hS (1 + (i : Int)) l) = dS (1 + (i : Int)) l ∧ moverO (B2 L) (hS (1 + (i : Int)) l).1 (hS (1 + (i : Int)) l).2 = some 0 ∧
      itB (B2 L) (1 + i) (dS (1 + (i : Int)) l) = hS (1 + (i : Int) + 1) (0 - l) ∧
      (castL (blockedN (B2 L) (hS (1 + (i : Int) + 1) (0 - l)).1 (hS (1 + (i : Int) + 1) (0 - l)).2 2)).getLast? = some 1 := by
  have c := List.all_eq_true.mp (chk_all L h h1) l (by rcases hl with rfl | rfl <;> simp)
  obtain ⟨c1, c2⟩ := Bool.and_eq_true_iff.mp c
  refine ⟨of_decide_eq_true c1, fun i hi => ?_⟩
  have d := List.all_eq_true.mp c2 i (List.mem_range.mpr hi)
  obtain ⟨d1, d⟩ := Bool.and_eq_true_iff.mp d
  obtain ⟨d2, d⟩ := Bool.and_eq_true_iff.mp d
  obtain ⟨d3, d4⟩ := Bool.and_eq_true_iff.mp d
  exact ⟨of_decide_eq_true d1, of_decide_eq_true d2, of_decide_eq_true d3, of_decide_eq_true d4⟩
theorem two_good : ∀ L : Nat, L < 13 → 1 ≤ L → goodB (B2 L) 12 = true ∧ okB (B2 L) (hS 1 1) = true := by decide +kernel
def tUD : TE := fun σ H Q => ∃ r l : Int, σ[4]? = some (some (.int r)) ∧ σ[3]? = some (some (.int l)) ∧ Q (.int (if l = 1 then r + 1 else 1)) H
theorem udI (σ : L2.St) (H : Hp) (Q : VK) (h : tUD σ H Q) : tIf (tTest (tOp rEq (tVar 3) (tC (.int 1)))) (tOp (rI0 fun i j => .int (i + j)) (tVar 4) (tC (.int 1))) (tC (.int 1)) σ H Q := by
  obtain ⟨r, l, e1, e2, q⟩ := h
  refine ⟨_, e2, rfl, _, rfl, ite2 (fun c => ?_) (fun c => ?_)⟩
  · have hl : l = 1 := by
      have := of_decide_eq_true c
      cases this; rfl
    rw [if_pos hl] at q
    exact ⟨_, e1, _, _, rfl, rfl, q⟩
  · have hl : ¬ l = 1 := fun e => c (by rw [e]; exact decide_eq_true rfl)
    rw [if_neg hl] at q
    exact q
set_option maxHeartbeats 1600000 in
theorem ok_two {f fb fm fk fa fs : Addr} {fd fdb fdm fdk fda fds : FuncData} {k : Nat} (T : Bl mg) (F : Fun K "_law_two_right" "_law_two_right" sLawTwoRight f fd)
    (Db : Df K mg "beat" sBeat ["book", "state"] fb fdb) (Gb : FnOk P w K mg base CX0 k fb fdb ["book", "state"] (spBeat K))
    (Dm : Df K mg "mover" sMover ["book", "state"] fm fdm) (Gm : FnOk P w K mg base CX0 k fm fdm ["book", "state"] (spMover K))
    (Dk : Df K mg "blocked" sBlocked ["book", "state"] fk fdk) (Gk : FnOk P w K mg base CX0 k fk fdk ["book", "state"] (spBlocked K))
    (Da : Df K mg "beats_along" sBeatsAlong ["book", "state", "many"] fa fda) (Ga : FnOk P w K mg base CX0 k fa fda ["book", "state", "many"] (spAlong K))
    (Ds : Df K mg "_law_same" sLawSame ["_law_found", "_law_due"] fs fds) (Gs : FnOk P w K mg base CX0 10 fs fds ["_law_found", "_law_due"] (spSame K 10)) (hk : 10 ≤ k) :
    FnOk P w K mg base CX0 (k + 1) f fd ["_law_long"] spTwo := by
  refine F.ok scLawTwoRight (fun vs H Q E h => ?_) (fun cdv A outer s H vs Q E hr h => ?_)
  · obtain ⟨_, rfl, _⟩ := h; rfl
  obtain ⟨L, rfl, hL1, hL2, q⟩ := h
  have hf := two_facts L hL2 hL1
  have hG := good_of (two_good L hL2 hL1).1
  have hO0 := ok_of (two_good L hL2 hL1).2
  have hBl : (B2 L).length ≤ 100 := by show 2 ≤ 100; decide
  have hBl2 : (B2 L).length ≤ 1000 := by show 2 ≤ 1000; decide
  have nd := scLawTwoRight.nd
  have hr10 := hr.mono hk
  refine ⟨_, pss_cons (ps_set (i := 1) nd rfl (.inl rfl) (pe_tup (pa_cons (pe_tup (pa_cons (pv 0) pa_nil)) (pa_cons (pe_tupRg rfl rfl T.tuple (prg_2 rfl T.range pe_int (pe_op op_add (pv 0) pe_int))) pa_nil))))
    (pss_cons (ps_asg (pe_tup (pa_cons (pn_tup (pn_cons (pn_tup (pn_cons pn_int (pn_cons pn_int pn_nil))) (pn_cons (pn_tup (pn_cons pn_int (pn_cons pn_int pn_nil))) pn_nil))) (pa_cons pe_int pa_nil))) (pg_tup rfl (pgs_cons (pg_name (i := 2) nd rfl (.inl rfl)) (pgs_cons (pg_name (i := 3) nd rfl (.inl rfl)) pgs_nil))))
    (pss_cons (ps_for PassesOwn.never rfl (pi_range2 rfl T.range (pa_cons pe_int (pa_cons (pv 0) pa_nil))) (pg_name (i := 4) nd rfl (.inl rfl))
      (pss_cons (ps_set (i := 5) nd rfl (.inl rfl) (pe_tup (pa_cons (pe_tup (pa_cons (pe_op op_add (pv 4) pe_int) (pa_cons (pe_mono (t' := tUD) (pe_ifExp (pt_cmpR op_eq (pv 3) pe_int (nomark _)) (pe_op op_add (pv 4) pe_int) pe_int) udI) pa_nil))) (pa_cons (pe_tup (pa_cons pe_int (pa_cons (pe_op op_sub pe_int (pv 3)) pa_nil))) pa_nil))))
      (pss_cons (ps_if (pt_not (pt_val (pe_do Ds Gs hr10 rfl (pa_cons (pe_lst (pa_cons (pe_do Db Gb hr rfl (pa_cons (pv 1) (pa_cons (pv 2) pa_nil))) (pa_cons (pe_do Dm Gm hr rfl (pa_cons (pv 1) (pa_cons (pv 2) pa_nil))) pa_nil))) (pa_cons (pe_lst (pa_cons (pv 5) (pa_cons pe_int pa_nil))) pa_nil))))) pss_never pss_nil)
      (pss_cons (ps_set (i := 3) nd rfl (.inl rfl) (pe_op op_sub pe_int (pv 3)))
      (pss_cons (ps_set (i := 2) nd rfl (.inl rfl) (pe_ix ix_list (pe_do Da Ga hr rfl (pa_cons (pv 1) (pa_cons (pv 5) (pa_cons (pv 4) pa_nil)))) (pe_un un_neg pe_int) (fun _ _ => rfl)))
      (pss_cons (ps_set (i := 5) nd rfl (.inl rfl) (pe_tup (pa_cons (pe_tup (pa_cons (pe_op op_add (pv 4) pe_int) (pa_cons (pe_mono (t' := tUD) (pe_ifExp (pt_cmpR op_eq (pv 3) pe_int (nomark _)) (pe_op op_add (pv 4) pe_int) pe_int) udI) pa_nil))) (pa_cons (pe_tup (pa_cons pe_int (pa_cons (pv 3) pa_nil))) pa_nil))))
      (pss_one (ps_if (pt_not (pt_val (pe_do Ds Gs hr10 rfl (pa_cons (pe_lst (pa_cons (pv 2) (pa_cons (pe_ix ix_list (pe_do Dk Gk hr rfl (pa_cons (pv 1) (pa_cons (pv 2) pa_nil))) (pe_un un_neg pe_int) (fun _ _ => rfl)) pa_nil))) (pa_cons (pe_lst (pa_cons (pv 5) (pa_cons pe_int pa_nil))) pa_nil))))) pss_never pss_nil))))))))
    (pss_one (ps_ret (pe_do Ds Gs hr10 rfl (pa_cons (pe_do Db Gb hr rfl (pa_cons (pv 1) (pa_cons (pv 2) pa_nil))) (pa_cons (pe_tup (pa_cons (pe_ix ix_tup (pv 2) pe_int (fun _ _ => rfl)) (pa_cons (pe_tup (pa_cons (pe_un un_neg pe_int) (pa_cons (pe_op op_sub pe_int (pv 3)) pa_nil))) pa_nil))) pa_nil))))))), ?_⟩
  -- shelf
  refine ⟨_, rfl, by show 1 ≤ sizeLine; decide, fun t1 n1 => ?_⟩
  have b1 := same_new (o := .tup [.int (L : Int)]) n1
  refine ⟨_, rfl, _, _, rfl, rfl, _, _, rfl, rfl, ⟨by omega, by omega, by omega, by omega, by omega⟩, fun t2 n2 => ?_⟩
  have eR : rgV 1 ((L : Int) + 1) = ((List.range L).map fun (i : Nat) => 1 + (i : Int)).map V.int := by
    unfold rgV
    rw [show (((L : Nat) : Int) + 1 - 1).toNat = L by omega, List.map_map]; rfl
  rw [eR]
  have b2 := same_new (o := .tup (((List.range L).map fun (i : Nat) => 1 + (i : Int)).map V.int)) n2
  refine ⟨by show 2 ≤ sizeLine; decide, fun sp nsp => ?_⟩
  have b3 := same_new (o := .tup [.ref t1, .ref t2]) nsp
  have hb : Dp K (upd (upd (upd H t1 (.tup [.int (L : Int)])) t2 (.tup (((List.range L).map fun (i : Nat) => 1 + (i : Int)).map V.int))) sp (.tup [.ref t1, .ref t2])) (.ref sp) (bookT (B2 L)) :=
    .tup (.inl (.inl upd_same)) (.cons (.tup (.inl (.inl ((b2.trans b3) _ _ upd_same))) (.cons (.int _) .nil)) (.cons (.tup (.inl (.inl (b3 _ _ upd_same))) (dps_ints _)) .nil))
  have bsp : (upd (upd (upd H t1 (.tup [.int (L : Int)])) t2 (.tup (((List.range L).map fun (i : Nat) => 1 + (i : Int)).map V.int))) sp (.tup [.ref t1, .ref t2])) sp ≠ none := by rw [upd_same]; exact fun z => nomatch z
  have c1 := (b1.trans b2).trans b3
  generalize upd (upd (upd H t1 (.tup [.int (L : Int)])) t2 (.tup (((List.range L).map fun (i : Nat) => 1 + (i : Int)).map V.int))) sp (.tup [.ref t1, .ref t2]) = H1 at hb bsp c1
  clear b1 b2 b3 n1 n2 nsp
  -- here, looks
  refine fun v2 H2 s2 h2 => ⟨by show 2 ≤ sizeLine; decide, fun t3 n3 => ?_⟩
  have s3 := same_new (o := .tup [v2, .int 1]) n3
  refine ⟨t3, _, rfl, .inl (.inl upd_same), rfl, _, _, rfl, _, _, rfl, rfl, ?_⟩
  refine ⟨_, rfl, _, _, rfl, ⟨by omega, by omega, by omega, by omega⟩, ?_⟩
  have en : (((L : Nat) : Int) - 1).toNat = L - 1 := by omega
  rw [en]
  have h2' : Dp K (hid H2 sp) v2 (stD (hS (1 + ((0 : Nat) : Int)) 1)) := by
    have e0 : hS (1 + ((0 : Nat) : Int)) 1 = ([1, 1], [1, 1]) := by decide
    rw [e0]; exact h2.hid bsp
  refine for_range (lo := 1) (n := L - 1) (fun i σ H4 => ∃ (hv : V) (l : Int) (z : Addr) (y4 y5 : Option V), σ = [some (.int (L : Int)), some (.ref sp), some hv, some (.int l), y4, y5] ∧ (l = 1 ∨ l = -1) ∧ Ok (B2 L) (hS (1 + (i : Int)) l) ∧ H4 z ≠ none ∧ Dp K (hid H4 z) hv (stD (hS (1 + (i : Int)) l)) ∧ Same H1 H4)
    ⟨v2, 1, sp, none, none, rfl, .inl rfl, hO0, (fun e => bsp ((s2.trans s3).free e)), dp_up h2' (hid_mono s3), s2.trans s3⟩ (fun i σ H4 hi hP => ?_) (fun σ H4 hP => ?_)
  · obtain ⟨hv, l, z, y4, y5, rfl, hl, hO, hz, hh, sm⟩ := hP
    obtain ⟨f1, f2, f3, f4⟩ := (hf l hl).2 i hi
    have hO1 := beat_ok hG hO
    rw [f1] at hO1
    have hO2 := itB_ok hG (1 + i) hO1
    rw [f3] at hO2
    -- due
    refine ⟨_, rfl, _, _, rfl, rfl, _, _, rfl, rfl, by show 2 ≤ sizeLine; decide, fun t1 n1 => ?_⟩
    refine ⟨_, rfl, _, _, rfl, rfl, by show 2 ≤ sizeLine; decide, fun t2 n2 => ⟨by show 2 ≤ sizeLine; decide, fun t3 n3 => ?_⟩⟩
    have g1 : NewD K H4 (upd (upd (upd H4 t1 (.tup [.int (1 + (i : Int) + 1), .int (if l = 1 then 1 + (i : Int) + 1 else 1)])) t2 (.tup [.int 1, .int (0 - l)])) t3 (.tup [.ref t1, .ref t2])) (.ref t3) (stD (dS (1 + (i : Int)) l)) := new_st (A := [1 + (i : Int) + 1, if l = 1 then 1 + (i : Int) + 1 else 1]) (F := [1, 0 - l]) n1 n2 n3
    have k1 : Same H4 (upd (upd (upd H4 t1 (.tup [.int (1 + (i : Int) + 1), .int (if l = 1 then 1 + (i : Int) + 1 else 1)])) t2 (.tup [.int 1, .int (0 - l)])) t3 (.tup [.ref t1, .ref t2])) := ((same_new n1).trans (same_new n2)).trans (same_new n3)
    generalize upd (upd (upd H4 t1 (.tup [.int (1 + (i : Int) + 1), .int (if l = 1 then 1 + (i : Int) + 1 else 1)])) t2 (.tup [.int 1, .int (0 - l)])) t3 (.tup [.ref t1, .ref t2]) = H5 at g1 k1
    clear n1 n2 n3
    have m5 := sm.trans k1
    -- not same([beat, mover], [due, 0])
    refine ⟨_, rfl, _, rfl, z, _, _, bookT (B2 L), stD (hS (1 + (i : Int)) l), B2 L, 12, hS (1 + (i : Int)) l, rfl, (fun e => hz (k1.free e)), dp_up hb m5, bookT_book _, dp_up hh (hid_mono k1), stateT_state _ _, hBl2, hG, hO, fun p6 H6 s6 h6 => ?_⟩
    rw [f1] at h6
    have m6 := m5.trans s6
    refine ⟨_, rfl, _, rfl, _, _, bookT (B2 L), stD (hS (1 + (i : Int)) l), B2 L, _, _, rfl, dp_up hb m6, bookT_book _, dp_up hh (hid_le.trans (k1.trans s6)), stateT_state _ _, hBl2, hO.st, hO.fl, fun H7 s7 => ?_⟩
    rw [f2]
    refine ⟨by show 2 ≤ sizeLine; decide, fun u1 w1 => ?_⟩
    have s8 := same_new (o := .lst [.ref p6, .int 0]) w1
    refine ⟨_, rfl, by show 2 ≤ sizeLine; decide, fun u2 w2 => ?_⟩
    have s9 := same_new (o := .lst [.ref t3, .int 0]) w2
    have c69 := s7.trans (s8.trans s9)
    have z1 := st_small hO1 hBl
    have zz1 : Sz (.list [stD (dS (1 + (i : Int)) l), .int 0]) := sz_list2 (by omega) (by simp [PyData.depth]) (by omega) (by simp [PyData.bulk])
    refine ⟨_, _, .list [stD (dS (1 + (i : Int)) l), .int 0], rfl, .lst (SqL.of (s9 _ _ upd_same)) (.cons (dp_up h6 (hid_le.trans c69)) (.cons (.int 0) .nil)), .lst (SqL.of upd_same) (.cons (dp_up g1.dp (s6.trans c69)) (.cons (.int 0) .nil)), zz1.dep, zz1.blk, fun H10 s10 => ?_⟩
    refine ⟨_, rfl, iteF ?_⟩
    have k10 := s6.trans (c69.trans s10)
    have m10 := m5.trans k10
    have d10 := dp_up g1.dp k10
    clear h6 s6 s7 s8 s9 s10 w1 w2 c69 m6
    -- looks, here
    refine ⟨_, rfl, _, _, rfl, rfl, ?_⟩
    refine ⟨_, rfl, _, rfl, _, rfl, _, _, bookT (B2 L), stD (dS (1 + (i : Int)) l), B2 L, 12, dS (1 + (i : Int)) l, 1 + i, ?_, dp_up hb m10, bookT_book _, d10, stateT_state _ _, hBl2, hG, hO1, by omega, fun p11 H11 v11 n11 s11 e11 d11 => ?_⟩
    · show [V.ref sp, V.ref t3, V.int (1 + (i : Int))] = _
      rw [show (1 : Int) + (i : Int) = ((1 + i : Nat) : Int) by omega]
    have hl11 := dps_len d11
    rw [List.length_map, alongL_len] at hl11
    obtain ⟨v, ev, dv⟩ := dps_get (i := 1 + i) (d := stD (itB (B2 L) (1 + i) (dS (1 + (i : Int)) l))) d11 (by rw [List.getElem?_map, along_at]; rfl)
    obtain ⟨us, rfl⟩ := last_at hl11 ev
    rw [f3] at dv
    refine ⟨1, rfl, p11, _, -1, v, rfl, rfl, SqL.of e11, atI_last _ _, ?_⟩
    have m11 := m10.trans s11
    -- due
    refine ⟨_, rfl, _, _, rfl, rfl, _, _, rfl, rfl, by show 2 ≤ sizeLine; decide, fun t4 n4 => ?_⟩
    refine ⟨_, rfl, by show 2 ≤ sizeLine; decide, fun t5 n5 => ⟨by show 2 ≤ sizeLine; decide, fun t6 n6 => ?_⟩⟩
    have g2 : NewD K H11 (upd (upd (upd H11 t4 (.tup [.int (1 + (i : Int) + 1), .int (if 0 - l = 1 then 1 + (i : Int) + 1 else 1)])) t5 (.tup [.int 1, .int (0 - l)])) t6 (.tup [.ref t4, .ref t5])) (.ref t6) (stD (hS (1 + (i : Int) + 1) (0 - l))) := new_st (A := [1 + (i : Int) + 1, if 0 - l = 1 then 1 + (i : Int) + 1 else 1]) (F := [1, 0 - l]) n4 n5 n6
    have k12 : Same H11 (upd (upd (upd H11 t4 (.tup [.int (1 + (i : Int) + 1), .int (if 0 - l = 1 then 1 + (i : Int) + 1 else 1)])) t5 (.tup [.int 1, .int (0 - l)])) t6 (.tup [.ref t4, .ref t5])) := ((same_new n4).trans (same_new n5)).trans (same_new n6)
    generalize upd (upd (upd H11 t4 (.tup [.int (1 + (i : Int) + 1), .int (if 0 - l = 1 then 1 + (i : Int) + 1 else 1)])) t5 (.tup [.int 1, .int (0 - l)])) t6 (.tup [.ref t4, .ref t5]) = H12 at g2 k12
    have m12 := m11.trans k12
    -- not same([here, blocked[-1]], [due, 1])
    refine ⟨_, rfl, _, rfl, _, rfl, _, _, bookT (B2 L), stD (hS (1 + (i : Int) + 1) (0 - l)), B2 L, _, _, rfl, dp_up hb m12, bookT_book _, dp_up dv (hid_le.trans k12), stateT_state _ _, hBl2, hO2.st, hO2.fl, fun p13 H13 n13 s13 e13 => ?_⟩
    obtain ⟨bs, ebs⟩ : ∃ bs, castL (blockedN (B2 L) (hS (1 + (i : Int) + 1) (0 - l)).1 (hS (1 + (i : Int) + 1) (0 - l)).2 2) = bs ++ [1] := List.getLast?_eq_some_iff.mp f4
    have e13' : H13 p13 = some (.lst (bs.map V.int ++ [V.int 1])) := by
      rw [show (B2 L).length = 2 from rfl, ebs, List.map_append] at e13; exact e13
    refine ⟨1, rfl, p13, _, -1, V.int 1, rfl, rfl, SqL.of e13', atI_last _ _, ?_⟩
    refine ⟨by show 2 ≤ sizeLine; decide, fun u1 w1 => ?_⟩
    have s14 := same_new (o := .lst [v, .int 1]) w1
    refine ⟨_, rfl, by show 2 ≤ sizeLine; decide, fun u2 w2 => ?_⟩
    have s15 := same_new (o := .lst [.ref t6, .int 1]) w2
    have c15 := s13.trans (s14.trans s15)
    have z2 := st_small hO2 hBl
    have zz2 : Sz (.list [stD (hS (1 + (i : Int) + 1) (0 - l)), .int 1]) := sz_list2 (by omega) (by simp [PyData.depth]) (by omega) (by simp [PyData.bulk])
    refine ⟨_, _, .list [stD (hS (1 + (i : Int) + 1) (0 - l)), .int 1], rfl, .lst (SqL.of (s15 _ _ upd_same)) (.cons (dp_up dv (hid_le.trans (k12.trans c15))) (.cons (.int 1) .nil)), .lst (SqL.of upd_same) (.cons (dp_up g2.dp c15) (.cons (.int 1) .nil)), zz2.dep, zz2.blk, fun H16 s16 => ?_⟩
    refine ⟨_, rfl, iteF ?_⟩
    have k16 := k12.trans (c15.trans s16)
    have ei : (1 : Int) + (i : Int) + 1 = 1 + ((i + 1 : Nat) : Int) := by omega
    rw [ei] at dv hO2
    refine ⟨v, 0 - l, p11, _, _, rfl, by omega, hO2, ?_, dp_up dv (hid_mono k16), m11.trans k16⟩
    rw [k16 _ _ e11]; exact fun z => nomatch z
  · obtain ⟨hv, l, z, y4, y5, rfl, hl, hO, hz, hh, sm⟩ := hP
    have f1 := (hf l hl).1
    have ei : (1 : Int) + ((L - 1 : Nat) : Int) = (L : Int) := by omega
    rw [ei] at hO hh
    have hO1 := beat_ok hG hO
    rw [f1] at hO1
    refine ⟨_, rfl, _, rfl, z, _, _, bookT (B2 L), stD (hS (L : Int) l), B2 L, 12, hS (L : Int) l, rfl, hz, dp_up hb sm, bookT_book _, hh, stateT_state _ _, hBl2, hG, hO, fun p5 H5 s5 h5 => ?_⟩
    rw [f1] at h5
    have hh5 := dp_up hh (hid_le.trans s5)
    obtain ⟨a, ra, fa', ea, hq, hra, hfa⟩ := state_tup hh5
    subst ea
    refine ⟨_, rfl, a, _, 0, _, rfl, rfl, hq, atI_nat (j := 0) rfl, 1, rfl, _, rfl, _, _, rfl, rfl, by show 2 ≤ sizeLine; decide, fun t6 n6 => ⟨by show 2 ≤ sizeLine; decide, fun t7 n7 => ?_⟩⟩
    have s6 := same_new (o := .tup [.int (-1), .int (0 - l)]) n6
    have s7 := same_new (o := .tup [.ref ra, .ref t6]) n7
    have z1 := st_zz hO1 hBl2
    refine ⟨_, _, stD ([(L : Int), if l = 1 then (L : Int) else 1], [-1, 0 - l]), rfl, dp_up h5 (hid_le.trans (s6.trans s7)), .tup (.inl (.inl upd_same)) (.cons (dp_up (.tup hra (dps_ints _)) (s6.trans s7)) (.cons (.tup (.inl (.inl (s7 _ _ upd_same))) (dps_ints [-1, 0 - l])) .nil)), z1.dep, z1.blk, fun H8 s8 => ?_⟩
    exact q _ (c1.trans (sm.trans (s5.trans ((s6.trans s7).trans s8))))
end
end Af
namespace Af
open PySem PySem.Spec PyProof.Rows L2
section
variable {P : Program} {w : World} {K : PySem.W.Frag} {mg : Str → Option Value} {base : Heap}
/-! _law_three_right -/
def spThree : Sp := fun vs H Q _ => vs = [] ∧ ∀ H', Same H H' → Q (.bl true) H'
def B3 : List (List Int) := [[3], [1, 2, 1], [1, 3]]
set_option maxHeartbeats 1600000 in
theorem ok_three {f fb fm fk fs : Addr} {fd fdb fdm fdk fds : FuncData} {k : Nat} (T : Bl mg) (F : Fun K "_law_three_right" "_law_three_right" sLawThreeRight f fd)
    (Db : Df K mg "beat" sBeat ["book", "state"] fb fdb) (Gb : FnOk P w K mg base CX0 k fb fdb ["book", "state"] (spBeat K))
    (Dm : Df K mg "mover" sMover ["book", "state"] fm fdm) (Gm : FnOk P w K mg base CX0 k fm fdm ["book", "state"] (spMover K))
    (Dk : Df K mg "blocked" sBlocked ["book", "state"] fk fdk) (Gk : FnOk P w K mg base CX0 k fk fdk ["book", "state"] (spBlocked K))
    (Ds : Df K mg "_law_same" sLawSame ["_law_found", "_law_due"] fs fds) (Gs : FnOk P w K mg base CX0 10 fs fds ["_law_found", "_law_due"] (spSame K 10)) (hk : 10 ≤ k) :
    FnOk P w K mg base CX0 (k + 1) f fd [] spThree := by
  refine F.ok scLawThreeRight (fun vs H Q E h => ?_) (fun cdv A outer s H vs Q E hr h => ?_)
  · obtain ⟨rfl, _⟩ := h; rfl
  obtain ⟨rfl, q⟩ := h
  have nd := scLawThreeRight.nd
  have hr10 := hr.mono hk
  refine ⟨_, pss_cons (ps_set (i := 0) nd rfl (.inl rfl) (pn_tupT (pn_cons (pn_tup (pn_cons pn_int pn_nil)) (pn_cons (pn_tup (pn_cons pn_int (pn_cons pn_int (pn_cons pn_int pn_nil)))) (pn_cons (pn_tup (pn_cons pn_int (pn_cons pn_int pn_nil))) pn_nil)))))
    (pss_cons (ps_set (i := 1) nd rfl (.inl rfl) (pe_lst (pa_cons (pe_do Db Gb hr rfl (pa_cons (pv 0) (pa_cons (pn_tup (pn_cons (pn_tup (pn_cons pn_int (pn_cons pn_int (pn_cons pn_int pn_nil)))) (pn_cons (pn_tup (pn_cons pn_int (pn_cons pn_int (pn_cons pn_int pn_nil)))) pn_nil))) pa_nil))) (pa_cons (pe_do Db Gb hr rfl (pa_cons (pv 0) (pa_cons (pn_tup (pn_cons (pn_tup (pn_cons pn_int (pn_cons pn_int (pn_cons pn_int pn_nil)))) (pn_cons (pn_tup (pn_cons pn_int (pn_cons pn_int (pn_cons pn_neg pn_nil)))) pn_nil))) pa_nil))) pa_nil))))
    (pss_cons (ps_if (pt_not (pt_val (pe_do Ds Gs hr10 rfl (pa_cons (pv 1) (pa_cons (pn_lst (pn_cons (pn_tup (pn_cons (pn_tup (pn_cons pn_int (pn_cons pn_int (pn_cons pn_int pn_nil)))) (pn_cons (pn_tup (pn_cons pn_int (pn_cons pn_neg (pn_cons pn_neg pn_nil)))) pn_nil))) (pn_cons (pn_tup (pn_cons (pn_tup (pn_cons pn_int (pn_cons pn_int (pn_cons pn_int pn_nil)))) (pn_cons (pn_tup (pn_cons pn_int (pn_cons pn_neg (pn_cons pn_int pn_nil)))) pn_nil))) pn_nil))) pa_nil))))) pss_never pss_nil)
    (pss_cons (ps_set (i := 1) nd rfl (.inl rfl) (pe_lst (pa_cons (pe_do Db Gb hr rfl (pa_cons (pv 0) (pa_cons (pn_tup (pn_cons (pn_tup (pn_cons pn_int (pn_cons pn_int (pn_cons pn_int pn_nil)))) (pn_cons (pn_tup (pn_cons pn_int (pn_cons pn_neg (pn_cons pn_int pn_nil)))) pn_nil))) pa_nil))) (pa_cons (pe_do Db Gb hr rfl (pa_cons (pv 0) (pa_cons (pn_tup (pn_cons (pn_tup (pn_cons pn_int (pn_cons pn_int (pn_cons pn_int pn_nil)))) (pn_cons (pn_tup (pn_cons pn_int (pn_cons pn_neg (pn_cons pn_neg pn_nil)))) pn_nil))) pa_nil))) pa_nil))))
    (pss_cons (ps_if (pt_not (pt_val (pe_do Ds Gs hr10 rfl (pa_cons (pv 1) (pa_cons (pn_lst (pn_cons (pn_tup (pn_cons (pn_tup (pn_cons pn_int (pn_cons pn_int (pn_cons pn_int pn_nil)))) (pn_cons (pn_tup (pn_cons pn_int (pn_cons pn_int (pn_cons pn_neg pn_nil)))) pn_nil))) (pn_cons (pn_tup (pn_cons (pn_tup (pn_cons pn_int (pn_cons pn_int (pn_cons pn_int pn_nil)))) (pn_cons (pn_tup (pn_cons pn_int (pn_cons pn_int (pn_cons pn_int pn_nil)))) pn_nil))) pn_nil))) pa_nil))))) pss_never pss_nil)
    (pss_cons (ps_set (i := 1) nd rfl (.inl rfl) (pe_lst (pa_cons (pe_do Db Gb hr rfl (pa_cons (pv 0) (pa_cons (pn_tup (pn_cons (pn_tup (pn_cons pn_int (pn_cons pn_int (pn_cons pn_int pn_nil)))) (pn_cons (pn_tup (pn_cons pn_int (pn_cons pn_int (pn_cons pn_int pn_nil)))) pn_nil))) pa_nil))) (pa_cons (pe_do Db Gb hr rfl (pa_cons (pv 0) (pa_cons (pn_tup (pn_cons (pn_tup (pn_cons pn_int (pn_cons pn_int (pn_cons pn_int pn_nil)))) (pn_cons (pn_tup (pn_cons pn_int (pn_cons pn_neg (pn_cons pn_int pn_nil)))) pn_nil))) pa_nil))) pa_nil))))
    (pss_cons (ps_expr (pe_bm PySem.F.plainAttrs_list PySem.F.slot_list_append PySem.F.type_list_append mt_append (pv 1) (pa_cons (pe_do Db Gb hr rfl (pa_cons (pv 0) (pa_cons (pn_tup (pn_cons (pn_tup (pn_cons pn_int (pn_cons pn_int (pn_cons pn_int pn_nil)))) (pn_cons (pn_tup (pn_cons pn_int (pn_cons pn_int (pn_cons pn_neg pn_nil)))) pn_nil))) pa_nil))) pa_nil)))
    (pss_cons (ps_if (pt_not (pt_val (pe_do Ds Gs hr10 rfl (pa_cons (pv 1) (pa_cons (pn_lst (pn_cons (pn_tup (pn_cons (pn_tup (pn_cons pn_int (pn_cons pn_int (pn_cons pn_int pn_nil)))) (pn_cons (pn_tup (pn_cons pn_int (pn_cons pn_neg (pn_cons pn_neg pn_nil)))) pn_nil))) (pn_cons (pn_tup (pn_cons (pn_tup (pn_cons pn_int (pn_cons pn_int (pn_cons pn_int pn_nil)))) (pn_cons (pn_tup (pn_cons pn_int (pn_cons pn_int (pn_cons pn_neg pn_nil)))) pn_nil))) (pn_cons (pn_tup (pn_cons (pn_tup (pn_cons pn_int (pn_cons pn_int (pn_cons pn_int pn_nil)))) (pn_cons (pn_tup (pn_cons pn_int (pn_cons pn_int (pn_cons pn_int pn_nil)))) pn_nil))) pn_nil)))) pa_nil))))) pss_never pss_nil)
    (pss_cons (ps_set (i := 1) nd rfl (.inl rfl) (pe_lst (pa_cons (pe_do Db Gb hr rfl (pa_cons (pv 0) (pa_cons (pn_tup (pn_cons (pn_tup (pn_cons pn_int (pn_cons pn_int (pn_cons pn_int pn_nil)))) (pn_cons (pn_tup (pn_cons pn_int (pn_cons pn_int (pn_cons pn_neg pn_nil)))) pn_nil))) pa_nil))) (pa_cons (pe_do Dm Gm hr rfl (pa_cons (pv 0) (pa_cons (pn_tup (pn_cons (pn_tup (pn_cons pn_int (pn_cons pn_int (pn_cons pn_int pn_nil)))) (pn_cons (pn_tup (pn_cons pn_int (pn_cons pn_int (pn_cons pn_neg pn_nil)))) pn_nil))) pa_nil))) (pa_cons (pe_do Dk Gk hr rfl (pa_cons (pn_tup (pn_cons (pn_tup (pn_cons pn_int pn_nil)) pn_nil)) (pa_cons (pn_tup (pn_cons (pn_tup (pn_cons pn_int pn_nil)) (pn_cons (pn_tup (pn_cons pn_int pn_nil)) pn_nil))) pa_nil))) pa_nil)))))
    (pss_one (ps_ret (pe_do Ds Gs hr10 rfl (pa_cons (pv 1) (pa_cons (pn_lst (pn_cons (pn_tup (pn_cons (pn_tup (pn_cons pn_int (pn_cons pn_int (pn_cons pn_int pn_nil)))) (pn_cons (pn_tup (pn_cons pn_neg (pn_cons pn_neg (pn_cons pn_int pn_nil)))) pn_nil))) (pn_cons pn_non (pn_cons (pn_lst (pn_cons pn_int pn_nil)) pn_nil)))) pa_nil))))))))))))), ?_⟩
  refine fun sp H1 s1 nsp bsp hsp => ?_
  have G3 : GoodB B3 3 := good_of (by decide +kernel)
  have hb : Dp K H1 (.ref sp) (bookT B3) := hsp.dp
  have l3 : B3.length ≤ 1000 := by decide
  have bn : ∀ {Hx : Hp}, Same H1 Hx → Hx sp ≠ none := fun {Hx} c e => bsp (c.free e)
  refine ⟨_, rfl, fun u2 I2 r2 k2 => ⟨sp, _, _, bookT B3, stD ([1, 1, 1], [1, 1, 1]), B3, 3, ([1, 1, 1], [1, 1, 1]), rfl, (fun e => (bn (Same.refl H1)) (r2.free e)), dp_up hb ((Same.refl H1).trans r2), bookT_book B3, k2.hid (bn (Same.refl H1)), stateT_state _ _, l3, G3, ok_of (by decide +kernel), fun p2 H2 q2 h2 => ?_⟩⟩
  rw [show beatM B3 ([1, 1, 1], [1, 1, 1]) = ([2, 2, 3], [1, -1, -1]) by decide +kernel] at h2
  have s2 := r2.trans q2
  have c2 := (Same.refl H1).trans s2
  refine ⟨_, rfl, fun u3 I3 r3 k3 => ⟨sp, _, _, bookT B3, stD ([1, 1, 1], [1, 1, -1]), B3, 3, ([1, 1, 1], [1, 1, -1]), rfl, (fun e => (bn c2) (r3.free e)), dp_up hb (c2.trans r3), bookT_book B3, k3.hid (bn c2), stateT_state _ _, l3, G3, ok_of (by decide +kernel), fun p3 H3 q3 h3 => ?_⟩⟩
  rw [show beatM B3 ([1, 1, 1], [1, 1, -1]) = ([2, 2, 1], [1, -1, 1]) by decide +kernel] at h3
  have s3 := r3.trans q3
  have c3 := c2.trans s3
  refine ⟨by show 2 ≤ sizeLine; decide, fun t4 n4 => ?_⟩
  have s4 := same_new (o := .lst [.ref p2, .ref p3]) n4
  have c4 := c3.trans s4
  refine ⟨_, rfl, fun v7 H7 s7 h7 => ?_⟩
  refine ⟨_, _, .list [stD ([2, 2, 3], [1, -1, -1]), stD ([2, 2, 1], [1, -1, 1])], rfl, .lst (SqL.of (s7 _ _ upd_same)) (.cons (dp_up h2 (hid_le.trans (s3.trans (s4.trans s7)))) (.cons (dp_up h3 (hid_le.trans (s4.trans s7))) .nil)), h7.dp, by decide, by decide, fun H8 s8 => ?_⟩
  refine ⟨_, rfl, iteF ?_⟩
  have c8 := (c4.trans s7).trans s8
  refine ⟨_, rfl, fun u9 I9 r9 k9 => ⟨sp, _, _, bookT B3, stD ([1, 1, 1], [1, -1, 1]), B3, 3, ([1, 1, 1], [1, -1, 1]), rfl, (fun e => (bn c8) (r9.free e)), dp_up hb (c8.trans r9), bookT_book B3, k9.hid (bn c8), stateT_state _ _, l3, G3, ok_of (by decide +kernel), fun p9 H9 q9 h9 => ?_⟩⟩
  rw [show beatM B3 ([1, 1, 1], [1, -1, 1]) = ([2, 1, 1], [1, 1, -1]) by decide +kernel] at h9
  have s9 := r9.trans q9
  have c9 := c8.trans s9
  refine ⟨_, rfl, fun u10 I10 r10 k10 => ⟨sp, _, _, bookT B3, stD ([1, 1, 1], [1, -1, -1]), B3, 3, ([1, 1, 1], [1, -1, -1]), rfl, (fun e => (bn c9) (r10.free e)), dp_up hb (c9.trans r10), bookT_book B3, k10.hid (bn c9), stateT_state _ _, l3, G3, ok_of (by decide +kernel), fun p10 H10 q10 h10 => ?_⟩⟩
  rw [show beatM B3 ([1, 1, 1], [1, -1, -1]) = ([2, 1, 1], [1, 1, 1]) by decide +kernel] at h10
  have s10 := r10.trans q10
  have c10 := c9.trans s10
  refine ⟨by show 2 ≤ sizeLine; decide, fun t11 n11 => ?_⟩
  have s11 := same_new (o := .lst [.ref p9, .ref p10]) n11
  have c11 := c10.trans s11
  refine ⟨_, rfl, fun v14 H14 s14 h14 => ?_⟩
  refine ⟨_, _, .list [stD ([2, 1, 1], [1, 1, -1]), stD ([2, 1, 1], [1, 1, 1])], rfl, .lst (SqL.of (s14 _ _ upd_same)) (.cons (dp_up h9 (hid_le.trans (s10.trans (s11.trans s14)))) (.cons (dp_up h10 (hid_le.trans (s11.trans s14))) .nil)), h14.dp, by decide, by decide, fun H15 s15 => ?_⟩
  refine ⟨_, rfl, iteF ?_⟩
  have c15 := (c11.trans s14).trans s15
  refine ⟨_, rfl, fun u16 I16 r16 k16 => ⟨sp, _, _, bookT B3, stD ([2, 2, 3], [1, 1, 1]), B3, 3, ([2, 2, 3], [1, 1, 1]), rfl, (fun e => (bn c15) (r16.free e)), dp_up hb (c15.trans r16), bookT_book B3, k16.hid (bn c15), stateT_state _ _, l3, G3, ok_of (by decide +kernel), fun p16 H16 q16 h16 => ?_⟩⟩
  rw [show beatM B3 ([2, 2, 3], [1, 1, 1]) = ([3, 1, 1], [1, -1, -1]) by decide +kernel] at h16
  have s16 := r16.trans q16
  have c16 := c15.trans s16
  refine ⟨_, rfl, fun u17 I17 r17 k17 => ⟨sp, _, _, bookT B3, stD ([2, 1, 1], [1, -1, 1]), B3, 3, ([2, 1, 1], [1, -1, 1]), rfl, (fun e => (bn c16) (r17.free e)), dp_up hb (c16.trans r17), bookT_book B3, k17.hid (bn c16), stateT_state _ _, l3, G3, ok_of (by decide +kernel), fun p17 H17 q17 h17 => ?_⟩⟩
  rw [show beatM B3 ([2, 1, 1], [1, -1, 1]) = ([3, 1, 1], [1, 1, -1]) by decide +kernel] at h17
  have s17 := r17.trans q17
  have c17 := c16.trans s17
  refine ⟨by show 2 ≤ sizeLine; decide, fun t18 n18 => ?_⟩
  have s18 := same_new (o := .lst [.ref p16, .ref p17]) n18
  have c18 := c17.trans s18
  refine ⟨_, rfl, .inl ⟨rfl, _, SqL.of upd_same⟩, ?_⟩
  have bt : (upd H17 t18 (.lst [.ref p16, .ref p17])) t18 ≠ none := by rw [upd_same]; exact fun z => nomatch z
  refine ⟨_, rfl, fun u21 I21 r21 k21 => ⟨t18, _, _, bookT B3, stD ([2, 1, 1], [1, 1, -1]), B3, 3, ([2, 1, 1], [1, 1, -1]), rfl, (fun e => bt (r21.free e)), dp_up hb (c18.trans r21), bookT_book B3, k21.hid bt, stateT_state _ _, l3, G3, ok_of (by decide +kernel), fun p21 H21 q21 h21 => ?_⟩⟩
  rw [show beatM B3 ([2, 1, 1], [1, 1, -1]) = ([2, 2, 1], [1, 1, 1]) by decide +kernel] at h21
  have s21 := r21.trans q21
  have et : H21 t18 = some (.lst [.ref p16, .ref p17]) := s21 _ _ upd_same
  refine ⟨t18, _, _, rfl, rfl, et, by show 2 < sizeLine; decide, ?_⟩
  have k1 : ∀ {Hy : Hp}, Same Hy H17 → Same Hy (upd H21 t18 (.lst ([.ref p16, .ref p17] ++ [.ref p21]))) := fun {Hy} c a o e => by
    rw [upd_ne (ne_of_none (c _ _ e) n18)]; exact (s18.trans s21) _ _ (c _ _ e)
  have e1 : (upd H21 t18 (.lst ([.ref p16, .ref p17] ++ [.ref p21]))) t18 = some (.lst [.ref p16, .ref p17, .ref p21]) := upd_same
  have g21 := dp_up h21 (show Same (hid H21 t18) (upd H21 t18 (.lst ([.ref p16, .ref p17] ++ [.ref p21]))) from fun a o e => by
    obtain ⟨n1, n2⟩ := hid_some e
    rw [upd_ne n1]; exact n2)
  have g16 := dp_up h16 (hid_le.trans (k1 s17))
  have g17 := dp_up h17 (hid_le.trans (k1 (Same.refl _)))
  have cu := k1 c17
  generalize upd H21 t18 (.lst ([.ref p16, .ref p17] ++ [.ref p21])) = Hu at cu e1 g21 g16 g17
  refine ⟨_, rfl, fun v22 H22 s22 h22 => ?_⟩
  refine ⟨_, _, .list [stD ([3, 1, 1], [1, -1, -1]), stD ([3, 1, 1], [1, 1, -1]), stD ([2, 2, 1], [1, 1, 1])], rfl, .lst (SqL.of (s22 _ _ e1)) (.cons (dp_up g16 s22) (.cons (dp_up g17 s22) (.cons (dp_up g21 s22) .nil))), h22.dp, by decide, by decide, fun H23 s23 => ?_⟩
  refine ⟨_, rfl, iteF ?_⟩
  have c23 := (cu.trans s22).trans s23
  have hS : okB B3 ([3, 1, 1], [1, 1, -1]) = true := by decide +kernel
  have hO := ok_of hS
  refine ⟨_, rfl, fun u40 I40 r40 k40 => ⟨sp, _, _, bookT B3, stD ([3, 1, 1], [1, 1, -1]), B3, 3, ([3, 1, 1], [1, 1, -1]), rfl, (fun e => (bn c23) (r40.free e)), dp_up hb (c23.trans r40), bookT_book B3, k40.hid (bn c23), stateT_state _ _, l3, G3, ok_of (by decide +kernel), fun p40 H40 q40 h40 => ?_⟩⟩
  rw [show beatM B3 ([3, 1, 1], [1, 1, -1]) = ([3, 1, 1], [-1, -1, 1]) by decide +kernel] at h40
  have s40 := r40.trans q40
  have c40 := c23.trans s40
  refine ⟨_, rfl, fun v41 H41 s41 h41 => ?_⟩
  have c41 := c40.trans s41
  refine ⟨_, _, bookT B3, stateT [3, 1, 1] [1, 1, -1], B3, [3, 1, 1], [1, 1, -1], rfl, dp_up hb c41, bookT_book B3, h41.dp, stateT_state _ _, l3, hO.st, hO.fl, fun H42 s42 => ?_⟩
  have em : moverO B3 [3, 1, 1] [1, 1, -1] = none := by decide +kernel
  rw [em]
  refine fun v43 H43 s43 h43 v44 H44 s44 h44 => ?_
  have hO1 : Ok [[1]] ([1], [1]) := ok_of (by decide +kernel)
  refine ⟨_, _, bookT [[1]], stateT [1] [1], [[1]], [1], [1], rfl, dp_up h43.dp s44, bookT_book _, h44.dp, stateT_state _ _, by decide, hO1.st, hO1.fl, fun p45 H45 n45 s45 e45 => ?_⟩
  rw [show castL (blockedN [[1]] [1] [1] ([[1]] : List (List Int)).length) = [0] by decide +kernel] at e45
  refine ⟨by show 3 ≤ sizeLine; decide, fun t46 n46 => ?_⟩
  have s46 := same_new (o := .lst [.ref p40, .non, .ref p45]) n46
  refine ⟨_, rfl, fun v47 H47 s47 h47 => ?_⟩
  have w45 := s46.trans s47
  have w40 := (((s41.trans s42).trans s43).trans s44).trans (s45.trans w45)
  refine ⟨_, _, .list [stD ([3, 1, 1], [-1, -1, 1]), .none, .list [.int 0]], rfl, .lst (SqL.of (s47 _ _ upd_same)) (.cons (dp_up h40 (hid_le.trans w40)) (.cons .non (.cons (.lst (SqL.of (w45 _ _ e45)) (.cons (.int 0) .nil)) .nil))), h47.dp, by decide, by decide, fun H48 s48 => ?_⟩
  exact q _ (s1.trans ((c40.trans w40).trans s48))
end
end Af
namespace Af
open PySem PySem.Spec PyProof.Rows L2
section
variable {P : Program} {w : World} {K : PySem.W.Frag} {mg : Str → Option Value} {base : Heap}
/-! _law_right -/
def spRight : Sp := fun vs H Q _ => ∃ (bx : Addr) (m : Nat), vs = [.ref bx] ∧ Box H bx m ∧ m ≤ 300000000 ∧ ∀ H', Box H' bx (m + 1000000) → Same (hid H bx) (hid H' bx) → Q (.bl true) H'
theorem ok_right {f fT f1 f2 f3 : Addr} {fd fdT fd1 fd2 fd3 : FuncData} {k : Nat} (T : Bl mg) (F : Fun K "_law_right" "_law_right" sLawRight f fd)
    (DT : Df K mg "_law_take" sLawTake ["_law_box_here", "_law_span"] fT fdT) (GT : FnOk P w K mg base CX0 k fT fdT ["_law_box_here", "_law_span"] spTake)
    (D1 : Df K mg "_law_one_right" sLawOneRight ["_law_long"] f1 fd1) (G1 : FnOk P w K mg base CX0 k f1 fd1 ["_law_long"] spOne)
    (D2 : Df K mg "_law_two_right" sLawTwoRight ["_law_long"] f2 fd2) (G2 : FnOk P w K mg base CX0 k f2 fd2 ["_law_long"] spTwo)
    (D3 : Df K mg "_law_three_right" sLawThreeRight [] f3 fd3) (G3 : FnOk P w K mg base CX0 k f3 fd3 [] spThree) :
    FnG P w K mg base (k + 1) f fd ["_law_box_here"] spRight := by
  refine fun_okG F scLawRight (fun vs H Q E h => ?_) (fun cdv A outer s H vs Q E hG hr h => ?_)
  · obtain ⟨_, _, rfl, _⟩ := h; rfl
  obtain ⟨bx, m, rfl, hbox, hm, q⟩ := h
  have nd := scLawRight.nd
  refine ⟨_, pss_one (ps_ret (pe_and (pe_do D1 G1 hr rfl (pa_cons (pe_op op_add pe_int (pe_do DT GT hr rfl (pa_cons (pv 0) (pa_cons pe_int pa_nil)))) pa_nil))
    (pe_and (pe_do D2 G2 hr rfl (pa_cons (pe_op op_add pe_int (pe_do DT GT hr rfl (pa_cons (pv 0) (pa_cons pe_int pa_nil)))) pa_nil))
    (pe_one (pe_do0 D3 G3 hr rfl))))), ?_⟩
  refine ⟨_, rfl, bx, 12, m, rfl, hbox, by omega, by decide, by decide, fun r H1 r0 r1 hB1 hh1 => ?_⟩
  obtain ⟨n, rfl⟩ : ∃ n : Nat, r = (n : Int) := ⟨r.toNat, by omega⟩
  refine ⟨_, _, rfl, rfl, 1 + n, ?_, by omega, by omega, fun H2 s2 => ?_⟩
  · show [V.int (1 + (n : Int))] = _
    rw [show (1 : Int) + (n : Int) = ((1 + n : Nat) : Int) by omega]
  refine ⟨true, rfl, iteT ?_⟩
  refine ⟨_, rfl, bx, 12, m + 1, rfl, hB1.up s2, by omega, by decide, by decide, fun r H3 r0 r1 hB3 hh3 => ?_⟩
  obtain ⟨n2, rfl⟩ : ∃ n : Nat, r = (n : Int) := ⟨r.toNat, by omega⟩
  refine ⟨_, _, rfl, rfl, 1 + n2, ?_, by omega, by omega, fun H4 s4 => ?_⟩
  · show [V.int (1 + (n2 : Int))] = _
    rw [show (1 : Int) + (n2 : Int) = ((1 + n2 : Nat) : Int) by omega]
  refine ⟨true, rfl, iteT ?_⟩
  refine ⟨rfl, fun H5 s5 => ?_⟩
  refine q _ (((hB3.up s4).up s5).le (by omega)) ?_
  refine Same.trans ?_ (hid_mono (s4.trans s5))
  rw [hh3, ← hh1]
  exact hid_mono s2
end
end Af
namespace Af
open PySem PySem.Spec PyProof.Rows L2
section
variable {P : Program} {w : World} {K : PySem.W.Frag} {mg : Str → Option Value} {base : Heap}
/-! law -/
def spLaw (K : PySem.W.Frag) : Sp := fun vs H Q _ => ∃ (a : Addr) (ns : List Int), vs = [.ref a] ∧ SqL K H a (ns.map V.int) ∧ ns.length ≤ 63 ∧ ∀ H', Q (.bl true) H'
theorem ok_law {f fC fB fR : Addr} {fd fdC fdB fdR : FuncData} {k : Nat} (T : Bl mg) (F : Fun K "law" "law" sLaw f fd)
    (DC : Df K mg "_law_cells" sLawCells ["_law_script", "_law_most"] fC fdC) (GC : FnOk P w K mg base CX0 k fC fdC ["_law_script", "_law_most"] (spCells K))
    (DB : Df K mg "_law_box" sLawBox ["_law_script", "_law_k"] fB fdB) (GB : FnOk P w K mg base CX0 k fB fdB ["_law_script", "_law_k"] (spBox K))
    (DR : Df K mg "_law_right" sLawRight ["_law_box_here"] fR fdR) (GR : FnG P w K mg base k fR fdR ["_law_box_here"] spRight) :
    FnG P w K mg base (k + 1) f fd ["_law_script"] (spLaw K) := by
  refine fun_okG F scLaw (fun vs H Q E h => ?_) (fun cdv A outer s H vs Q E hG hr h => ?_)
  · obtain ⟨_, _, rfl, _⟩ := h; rfl
  obtain ⟨a, ns, rfl, hS, h63, q⟩ := h
  have nd := scLaw.nd
  refine ⟨_, pss_cons (ps_set (i := 1) nd rfl (.inl rfl) (pe_do DC GC hr rfl (pa_cons (pv 0) (pa_cons pe_int pa_nil))))
    (pss_cons (ps_for PassesOwn.never rfl (pi_range1 rfl T.range (pa_cons (pe_callB call_len_seq rfl T.len bLen (pa_cons (pv 1) pa_nil)) pa_nil)) (pg_name (i := 2) nd rfl (.inl rfl))
      (pss_cons (ps_set (i := 3) nd rfl (.inr rfl) (pe_do DB GB hr rfl (pa_cons (pv 1) (pa_cons (pv 2) pa_nil))))
      (pss_one (ps_if (pt_not (pt_val (pe_callB (cr_all rfl) rfl T.all bAll (pa_cons
        (pe_lc (own := [("_law_turn", 4)]) (g := gName 4) (tt := tYes) rfl nd (pi_range1 rfl T.range (pa_cons pe_int pa_nil))
          (blkOk_by (N := ["_law_script", "_law_cells_here", "_law_k", "_law_box_here", "_law_turn"]) (sc := defScope sLaw) (by decide +kernel))
          (fun _ _ _ _ _ => pg_name (i := 4) nd rfl (.inl rfl)) (fun _ _ _ _ _ => pts_nil) (fun _ _ _ _ _ => pe_guarded GR hG hr rfl DR.g DR.F.kp DR.b (pa_cons (pv 3) pa_nil))) pa_nil)))) pss_never pss_nil))))
    (pss_one (ps_ret pe_bl))), ?_⟩
  refine ⟨_, rfl, a, ns, 3, rfl, hS, h63, by decide, by decide, fun cp H1 cs ncp s1 ecp hc1 hc2 => ?_⟩
  refine ⟨_, rfl, cp, _, rfl, .inl (SqL.of ecp), _, rfl, by rw [List.length_map]; omega, by rw [List.length_map]; omega, ?_⟩
  have en : (((cs.map V.int).length : Nat) : Int).toNat = cs.length := by rw [List.length_map]; omega
  rw [en]
  refine for_range (lo := 0) (n := cs.length) (fun i σ H3 => ∃ y2 y3 : Option V, σ = [some (.ref a), some (.ref cp), y2, y3, none] ∧ H3 cp = some (.lst (cs.map V.int))) ⟨none, none, rfl, ecp⟩ (fun i σ H3 hi hP => ?_) (fun σ H3 hP => ?_)
  · obtain ⟨y2, y3, rfl, hcp⟩ := hP
    refine ⟨_, rfl, _, rfl, cp, cs, i, ?_, SqL.of hcp, by omega, fun bx H4 nb s4 hB4 => ?_⟩
    · show [V.ref cp, V.int (0 + (i : Int))] = _
      rw [Int.zero_add]
    have hcp4 : H4 cp = some (.lst (cs.map V.int)) := hid_le _ _ (s4 _ _ hcp)
    refine ⟨2, rfl, by decide, by decide, fun D nD => ?_⟩
    have sD := same_new (o := .lst []) nD
    have nDb : D ≠ bx := hB4.ne nD
    have ncb : cp ≠ bx := ne_of_none hcp nb
    have ncD : cp ≠ D := ne_of_none hcp4 nD
    refine lc_range (lo := 0) (n := 2) (fun j H5 => H5 D = some (.lst (List.replicate j (.bl true))) ∧ Box H5 bx (1000000 * j) ∧ H5 cp = some (.lst (cs.map V.int))) ⟨upd_same, hB4.new nD, sD _ _ hcp4⟩ (fun j H5 hj hP5 => ?_) (fun H5 hP5 => ?_)
    · obtain ⟨hD, hB5, hcp5⟩ := hP5
      refine ⟨rfl, yesT ?_⟩
      refine ⟨_, rfl, bx, 1000000 * j, rfl, hB5, by omega, fun H6 hB6 s6 => ?_⟩
      have g : ∀ {z : Addr} {o : HO}, z ≠ bx → H5 z = some o → H6 z = some o := fun {z o} nz ez => by
        have := s6 z o (by rw [hid_ne nz]; exact ez)
        rwa [hid_ne nz] at this
      refine ⟨_, g nDb hD, ?_, ?_, ?_, ?_⟩
      · rw [List.length_replicate]; exact small1000 (by omega)
      · rw [upd_same, List.replicate_succ']
      · obtain ⟨x1, x2, x3, g1, g2, g3, g4, g5, g6⟩ := hB6
        exact ⟨x1, x2, x3, by rw [upd_ne nDb.symm]; exact g1, g2, g3, g4, g5, by omega⟩
      · rw [upd_ne ncD]; exact g ncb hcp5
    · obtain ⟨hD, hB5, hcp5⟩ := hP5
      refine ⟨D, List.replicate 2 true, rfl, SqL.of hD, ?_⟩
      refine ⟨_, rfl, iteF ?_⟩
      exact ⟨_, _, rfl, hcp5⟩
  · obtain ⟨y2, y3, rfl, hcp⟩ := hP
    exact q _
end
end Af
namespace Af
open PySem PySem.Spec PyProof.Rows L2
/-! what the top has written -/
theorem all_mk {l : PySem.W.OpenLaw} {w : World} {K : PySem.W.Frag} {h : Heap} {mg : Str → Option Value} {fa f1 f2 f3 f4 f5 f6 f7 f8 f9 f10 f11 f12 f13 f14 f15 f16 f17 : Addr} (X : K.In h) (G : h.Ns mainGlobals mg) (hfa : mg "law" = some (.ref fa))
    {od1 an1 od2 an2 od3 an3 od4 an4 od5 an5 od6 an6 od7 an7 od8 an8 od9 an9 od10 an10 od11 an11 od12 an12 od13 an13 od14 an14 od15 an15 od16 an16 od17 an17 : Option Addr} {sl1 sl2 sl3 sl4 sl5 sl6 sl7 sl8 sl9 sl10 sl11 sl12 sl13 sl14 sl15 sl16 sl17 : Array (Option Value)} {oc1 kV1 dc1 pm1 cd1 ct1 oc2 kV2 dc2 pm2 cd2 ct2 oc3 kV3 dc3 pm3 cd3 ct3 oc4 kV4 dc4 pm4 cd4 ct4 oc5 kV5 dc5 pm5 cd5 ct5 oc6 kV6 dc6 pm6 cd6 ct6 oc7 kV7 dc7 pm7 cd7 ct7 oc8 kV8 dc8 pm8 cd8 ct8 oc9 kV9 dc9 pm9 cd9 ct9 oc10 kV10 dc10 pm10 cd10 ct10 oc11 kV11 dc11 pm11 cd11 ct11 oc12 kV12 dc12 pm12 cd12 ct12 oc13 kV13 dc13 pm13 cd13 ct13 oc14 kV14 dc14 pm14 cd14 ct14 oc15 kV15 dc15 pm15 cd15 ct15 oc16 kV16 dc16 pm16 cd16 ct16 oc17 kV17 dc17 pm17 cd17 ct17 : Value}
    (a1 : PySem.W.nsIn K mainGlobals "length_of" = some (some (.ref f1))) (l1 : K.lookup f1 = some ⟨oc1, od1, .func (PySem.W.fnOf "length_of" "length_of" (defArgs sLengthOf) (defBody sLengthOf) (defScope sLengthOf) .none kV1 dc1 pm1 an1 cd1 ct1), sl1⟩) (c1 : PySem.W.codeIn K cd1 "length_of" = true) (k1 : PySem.W.keepIn K (.ref f1) = true)
    (a2 : PySem.W.nsIn K mainGlobals "lengths" = some (some (.ref f2))) (l2 : K.lookup f2 = some ⟨oc2, od2, .func (PySem.W.fnOf "lengths" "lengths" (defArgs sLengths) (defBody sLengths) (defScope sLengths) .none kV2 dc2 pm2 an2 cd2 ct2), sl2⟩) (c2 : PySem.W.codeIn K cd2 "lengths" = true) (k2 : PySem.W.keepIn K (.ref f2) = true)
    (a3 : PySem.W.nsIn K mainGlobals "end_rung" = some (some (.ref f3))) (l3 : K.lookup f3 = some ⟨oc3, od3, .func (PySem.W.fnOf "end_rung" "end_rung" (defArgs sEndRung) (defBody sEndRung) (defScope sEndRung) .none kV3 dc3 pm3 an3 cd3 ct3), sl3⟩) (c3 : PySem.W.codeIn K cd3 "end_rung" = true) (k3 : PySem.W.keepIn K (.ref f3) = true)
    (a4 : PySem.W.nsIn K mainGlobals "blocked" = some (some (.ref f4))) (l4 : K.lookup f4 = some ⟨oc4, od4, .func (PySem.W.fnOf "blocked" "blocked" (defArgs sBlocked) (defBody sBlocked) (defScope sBlocked) .none kV4 dc4 pm4 an4 cd4 ct4), sl4⟩) (c4 : PySem.W.codeIn K cd4 "blocked" = true) (k4 : PySem.W.keepIn K (.ref f4) = true)
    (a5 : PySem.W.nsIn K mainGlobals "mover" = some (some (.ref f5))) (l5 : K.lookup f5 = some ⟨oc5, od5, .func (PySem.W.fnOf "mover" "mover" (defArgs sMover) (defBody sMover) (defScope sMover) .none kV5 dc5 pm5 an5 cd5 ct5), sl5⟩) (c5 : PySem.W.codeIn K cd5 "mover" = true) (k5 : PySem.W.keepIn K (.ref f5) = true)
    (a6 : PySem.W.nsIn K mainGlobals "turned" = some (some (.ref f6))) (l6 : K.lookup f6 = some ⟨oc6, od6, .func (PySem.W.fnOf "turned" "turned" (defArgs sTurned) (defBody sTurned) (defScope sTurned) .none kV6 dc6 pm6 an6 cd6 ct6), sl6⟩) (c6 : PySem.W.codeIn K cd6 "turned" = true) (k6 : PySem.W.keepIn K (.ref f6) = true)
    (a7 : PySem.W.nsIn K mainGlobals "beat" = some (some (.ref f7))) (l7 : K.lookup f7 = some ⟨oc7, od7, .func (PySem.W.fnOf "beat" "beat" (defArgs sBeat) (defBody sBeat) (defScope sBeat) .none kV7 dc7 pm7 an7 cd7 ct7), sl7⟩) (c7 : PySem.W.codeIn K cd7 "beat" = true) (k7 : PySem.W.keepIn K (.ref f7) = true)
    (a8 : PySem.W.nsIn K mainGlobals "beats_along" = some (some (.ref f8))) (l8 : K.lookup f8 = some ⟨oc8, od8, .func (PySem.W.fnOf "beats_along" "beats_along" (defArgs sBeatsAlong) (defBody sBeatsAlong) (defScope sBeatsAlong) .none kV8 dc8 pm8 an8 cd8 ct8), sl8⟩) (c8 : PySem.W.codeIn K cd8 "beats_along" = true) (k8 : PySem.W.keepIn K (.ref f8) = true)
    (a9 : PySem.W.nsIn K mainGlobals "_law_box" = some (some (.ref f9))) (l9 : K.lookup f9 = some ⟨oc9, od9, .func (PySem.W.fnOf "_law_box" "_law_box" (defArgs sLawBox) (defBody sLawBox) (defScope sLawBox) .none kV9 dc9 pm9 an9 cd9 ct9), sl9⟩) (c9 : PySem.W.codeIn K cd9 "_law_box" = true) (k9 : PySem.W.keepIn K (.ref f9) = true)
    (a10 : PySem.W.nsIn K mainGlobals "_law_take" = some (some (.ref f10))) (l10 : K.lookup f10 = some ⟨oc10, od10, .func (PySem.W.fnOf "_law_take" "_law_take" (defArgs sLawTake) (defBody sLawTake) (defScope sLawTake) .none kV10 dc10 pm10 an10 cd10 ct10), sl10⟩) (c10 : PySem.W.codeIn K cd10 "_law_take" = true) (k10 : PySem.W.keepIn K (.ref f10) = true)
    (a11 : PySem.W.nsIn K mainGlobals "_law_cells" = some (some (.ref f11))) (l11 : K.lookup f11 = some ⟨oc11, od11, .func (PySem.W.fnOf "_law_cells" "_law_cells" (defArgs sLawCells) (defBody sLawCells) (defScope sLawCells) .none kV11 dc11 pm11 an11 cd11 ct11), sl11⟩) (c11 : PySem.W.codeIn K cd11 "_law_cells" = true) (k11 : PySem.W.keepIn K (.ref f11) = true)
    (a12 : PySem.W.nsIn K mainGlobals "_law_same" = some (some (.ref f12))) (l12 : K.lookup f12 = some ⟨oc12, od12, .func (PySem.W.fnOf "_law_same" "_law_same" (defArgs sLawSame) (defBody sLawSame) (defScope sLawSame) .none kV12 dc12 pm12 an12 cd12 ct12), sl12⟩) (c12 : PySem.W.codeIn K cd12 "_law_same" = true) (k12 : PySem.W.keepIn K (.ref f12) = true)
    (a13 : PySem.W.nsIn K mainGlobals "_law_one_right" = some (some (.ref f13))) (l13 : K.lookup f13 = some ⟨oc13, od13, .func (PySem.W.fnOf "_law_one_right" "_law_one_right" (defArgs sLawOneRight) (defBody sLawOneRight) (defScope sLawOneRight) .none kV13 dc13 pm13 an13 cd13 ct13), sl13⟩) (c13 : PySem.W.codeIn K cd13 "_law_one_right" = true) (k13 : PySem.W.keepIn K (.ref f13) = true)
    (a14 : PySem.W.nsIn K mainGlobals "_law_two_right" = some (some (.ref f14))) (l14 : K.lookup f14 = some ⟨oc14, od14, .func (PySem.W.fnOf "_law_two_right" "_law_two_right" (defArgs sLawTwoRight) (defBody sLawTwoRight) (defScope sLawTwoRight) .none kV14 dc14 pm14 an14 cd14 ct14), sl14⟩) (c14 : PySem.W.codeIn K cd14 "_law_two_right" = true) (k14 : PySem.W.keepIn K (.ref f14) = true)
    (a15 : PySem.W.nsIn K mainGlobals "_law_three_right" = some (some (.ref f15))) (l15 : K.lookup f15 = some ⟨oc15, od15, .func (PySem.W.fnOf "_law_three_right" "_law_three_right" (defArgs sLawThreeRight) (defBody sLawThreeRight) (defScope sLawThreeRight) .none kV15 dc15 pm15 an15 cd15 ct15), sl15⟩) (c15 : PySem.W.codeIn K cd15 "_law_three_right" = true) (k15 : PySem.W.keepIn K (.ref f15) = true)
    (a16 : PySem.W.nsIn K mainGlobals "_law_right" = some (some (.ref f16))) (l16 : K.lookup f16 = some ⟨oc16, od16, .func (PySem.W.fnOf "_law_right" "_law_right" (defArgs sLawRight) (defBody sLawRight) (defScope sLawRight) .none kV16 dc16 pm16 an16 cd16 ct16), sl16⟩) (c16 : PySem.W.codeIn K cd16 "_law_right" = true) (k16 : PySem.W.keepIn K (.ref f16) = true)
    (a17 : PySem.W.nsIn K mainGlobals "law" = some (some (.ref f17))) (l17 : K.lookup f17 = some ⟨oc17, od17, .func (PySem.W.fnOf "law" "law" (defArgs sLaw) (defBody sLaw) (defScope sLaw) .none kV17 dc17 pm17 an17 cd17 ct17), sl17⟩) (c17 : PySem.W.codeIn K cd17 "law" = true) (k17 : PySem.W.keepIn K (.ref f17) = true)
    (z1 : PySem.W.nsIn K mainGlobals "len" = some none) (z2 : PySem.W.nsIn K mainGlobals "abs" = some none) (z3 : PySem.W.nsIn K mainGlobals "int" = some none) (z4 : PySem.W.nsIn K mainGlobals "bool" = some none) (z5 : PySem.W.nsIn K mainGlobals "str" = some none) (z6 : PySem.W.nsIn K mainGlobals "range" = some none) (z7 : PySem.W.nsIn K mainGlobals "list" = some none) (z8 : PySem.W.nsIn K mainGlobals "tuple" = some none) (z9 : PySem.W.nsIn K mainGlobals "isinstance" = some none) (z10 : PySem.W.nsIn K mainGlobals "all" = some none) (z11 : PySem.W.nsIn K mainGlobals "zip" = some none) (z12 : PySem.W.nsIn K mainGlobals "enumerate" = some none) (z13 : PySem.W.nsIn K mainGlobals "max" = some none) (z14 : PySem.W.nsIn K mainGlobals "repr" = some none) :
    ∃ fd : FuncData, (∀ (s : Shared) (v : Value), BindsTo s fd ⟨[v], []⟩ [("_law_script", v)]) ∧ ∀ base : Heap, K.In base → base.Ns mainGlobals mg → FnG l.prog w K mg base 13 fa fd ["_law_script"] (spLaw K) := by
  have e := hfa.symm.trans (PySem.W.mg_of X G a17)
  cases e
  have FLengthOf := fun_mk (st := sLengthOf) l1 c1 k1
  have DLengthOf : Df K mg "length_of" sLengthOf ["book", "rungs", "climber"] f1 _ := ⟨FLengthOf, FLengthOf.binds (ps := ["book", "rungs", "climber"]) fun _ _ _ _ _ _ us hl => match us, hl with | [_, _, _], _ => rfl, PySem.W.mg_of X G a1⟩
  have FLengths := fun_mk (st := sLengths) l2 c2 k2
  have DLengths : Df K mg "lengths" sLengths ["book", "standing"] f2 _ := ⟨FLengths, FLengths.binds (ps := ["book", "standing"]) fun _ _ _ _ _ _ us hl => match us, hl with | [_, _], _ => rfl, PySem.W.mg_of X G a2⟩
  have FEndRung := fun_mk (st := sEndRung) l3 c3 k3
  have DEndRung : Df K mg "end_rung" sEndRung ["length", "face"] f3 _ := ⟨FEndRung, FEndRung.binds (ps := ["length", "face"]) fun _ _ _ _ _ _ us hl => match us, hl with | [_, _], _ => rfl, PySem.W.mg_of X G a3⟩
  have FBlocked := fun_mk (st := sBlocked) l4 c4 k4
  have DBlocked : Df K mg "blocked" sBlocked ["book", "state"] f4 _ := ⟨FBlocked, FBlocked.binds (ps := ["book", "state"]) fun _ _ _ _ _ _ us hl => match us, hl with | [_, _], _ => rfl, PySem.W.mg_of X G a4⟩
  have FMover := fun_mk (st := sMover) l5 c5 k5
  have DMover : Df K mg "mover" sMover ["book", "state"] f5 _ := ⟨FMover, FMover.binds (ps := ["book", "state"]) fun _ _ _ _ _ _ us hl => match us, hl with | [_, _], _ => rfl, PySem.W.mg_of X G a5⟩
  have FTurned := fun_mk (st := sTurned) l6 c6 k6
  have DTurned : Df K mg "turned" sTurned ["state"] f6 _ := ⟨FTurned, FTurned.binds (ps := ["state"]) fun _ _ _ _ _ _ us hl => match us, hl with | [_], _ => rfl, PySem.W.mg_of X G a6⟩
  have FBeat := fun_mk (st := sBeat) l7 c7 k7
  have DBeat : Df K mg "beat" sBeat ["book", "state"] f7 _ := ⟨FBeat, FBeat.binds (ps := ["book", "state"]) fun _ _ _ _ _ _ us hl => match us, hl with | [_, _], _ => rfl, PySem.W.mg_of X G a7⟩
  have FBeatsAlong := fun_mk (st := sBeatsAlong) l8 c8 k8
  have DBeatsAlong : Df K mg "beats_along" sBeatsAlong ["book", "state", "many"] f8 _ := ⟨FBeatsAlong, FBeatsAlong.binds (ps := ["book", "state", "many"]) fun _ _ _ _ _ _ us hl => match us, hl with | [_, _, _], _ => rfl, PySem.W.mg_of X G a8⟩
  have FLawBox := fun_mk (st := sLawBox) l9 c9 k9
  have DLawBox : Df K mg "_law_box" sLawBox ["_law_script", "_law_k"] f9 _ := ⟨FLawBox, FLawBox.binds (ps := ["_law_script", "_law_k"]) fun _ _ _ _ _ _ us hl => match us, hl with | [_, _], _ => rfl, PySem.W.mg_of X G a9⟩
  have FLawTake := fun_mk (st := sLawTake) l10 c10 k10
  have DLawTake : Df K mg "_law_take" sLawTake ["_law_box_here", "_law_span"] f10 _ := ⟨FLawTake, FLawTake.binds (ps := ["_law_box_here", "_law_span"]) fun _ _ _ _ _ _ us hl => match us, hl with | [_, _], _ => rfl, PySem.W.mg_of X G a10⟩
  have FLawCells := fun_mk (st := sLawCells) l11 c11 k11
  have DLawCells : Df K mg "_law_cells" sLawCells ["_law_script", "_law_most"] f11 _ := ⟨FLawCells, FLawCells.binds (ps := ["_law_script", "_law_most"]) fun _ _ _ _ _ _ us hl => match us, hl with | [_, _], _ => rfl, PySem.W.mg_of X G a11⟩
  have FLawSame := fun_mk (st := sLawSame) l12 c12 k12
  have DLawSame : Df K mg "_law_same" sLawSame ["_law_found", "_law_due"] f12 _ := ⟨FLawSame, FLawSame.binds (ps := ["_law_found", "_law_due"]) fun _ _ _ _ _ _ us hl => match us, hl with | [_, _], _ => rfl, PySem.W.mg_of X G a12⟩
  have FLawOneRight := fun_mk (st := sLawOneRight) l13 c13 k13
  have DLawOneRight : Df K mg "_law_one_right" sLawOneRight ["_law_long"] f13 _ := ⟨FLawOneRight, FLawOneRight.binds (ps := ["_law_long"]) fun _ _ _ _ _ _ us hl => match us, hl with | [_], _ => rfl, PySem.W.mg_of X G a13⟩
  have FLawTwoRight := fun_mk (st := sLawTwoRight) l14 c14 k14
  have DLawTwoRight : Df K mg "_law_two_right" sLawTwoRight ["_law_long"] f14 _ := ⟨FLawTwoRight, FLawTwoRight.binds (ps := ["_law_long"]) fun _ _ _ _ _ _ us hl => match us, hl with | [_], _ => rfl, PySem.W.mg_of X G a14⟩
  have FLawThreeRight := fun_mk (st := sLawThreeRight) l15 c15 k15
  have DLawThreeRight : Df K mg "_law_three_right" sLawThreeRight [] f15 _ := ⟨FLawThreeRight, FLawThreeRight.binds (ps := []) fun _ _ _ _ _ _ us hl => match us, hl with | [], _ => rfl, PySem.W.mg_of X G a15⟩
  have FLawRight := fun_mk (st := sLawRight) l16 c16 k16
  have DLawRight : Df K mg "_law_right" sLawRight ["_law_box_here"] f16 _ := ⟨FLawRight, FLawRight.binds (ps := ["_law_box_here"]) fun _ _ _ _ _ _ us hl => match us, hl with | [_], _ => rfl, PySem.W.mg_of X G a16⟩
  have FLaw := fun_mk (st := sLaw) l17 c17 k17
  have T : Bl mg := ⟨PySem.W.mg_none_of X G z1, PySem.W.mg_none_of X G z2, PySem.W.mg_none_of X G z3, PySem.W.mg_none_of X G z4, PySem.W.mg_none_of X G z5, PySem.W.mg_none_of X G z6, PySem.W.mg_none_of X G z7, PySem.W.mg_none_of X G z8, PySem.W.mg_none_of X G z9, PySem.W.mg_none_of X G z10, PySem.W.mg_none_of X G z11, PySem.W.mg_none_of X G z12, PySem.W.mg_none_of X G z13, PySem.W.mg_none_of X G z14⟩
  refine ⟨PySem.W.fnOf "law" "law" (defArgs sLaw) (defBody sLaw) (defScope sLaw) .none kV17 dc17 pm17 an17 cd17 ct17, fun s v => .of_eq rfl, fun base _ _ => ?_⟩
  have gl : ∀ k, FnOk l.prog w K mg base CX0 (k + 2) _ _ _ (spLengths K) := fun k => ok_lengths T FLengths DLengthOf (ok_length_of (k := k) FLengthOf)
  have gb : ∀ k, FnOk l.prog w K mg base CX0 (k + 3) _ _ _ (spBlocked K) := fun k => ok_blocked T FBlocked DLengths (gl k) DEndRung (ok_end FEndRung)
  have gm : ∀ k, FnOk l.prog w K mg base CX0 (k + 4) _ _ _ (spMover K) := fun k => ok_mover T FMover DBlocked (gb k)
  have gt : ∀ k, FnOk l.prog w K mg base CX0 (k + 1) _ _ _ (spTurned K) := fun k => ok_turned T FTurned
  have gB : ∀ k, FnOk l.prog w K mg base CX0 (k + 5) _ _ _ (spBeat K) := fun k => ok_beat T FBeat DMover (gm k) DTurned (gt (k + 3)) DLengthOf (ok_length_of FLengthOf) DEndRung (ok_end FEndRung)
  have gA := ok_along (P := l.prog) (w := w) (base := base) (k := 9) T FBeatsAlong DBeat (gB 4)
  have gS := ok_same (P := l.prog) (w := w) (base := base) T DLawSame 10
  have gR := ok_right (P := l.prog) (w := w) (base := base) (k := 11) T FLawRight DLawTake (ok_take (k := 10) FLawTake)
    DLawOneRight (ok_one (k := 10) T FLawOneRight DBeatsAlong gA DLawSame gS (Nat.le_refl 10))
    DLawTwoRight (ok_two (k := 10) T FLawTwoRight DBeat (gB 5) DMover (gm 6) DBlocked (gb 7) DBeatsAlong gA DLawSame gS (Nat.le_refl 10))
    DLawThreeRight (ok_three (k := 10) T FLawThreeRight DBeat (gB 5) DMover (gm 6) DBlocked (gb 7) DLawSame gS (Nat.le_refl 10))
  exact ok_law (k := 12) T FLaw DLawCells (ok_cells (k := 11) T FLawCells) DLawBox (ok_box (k := 11) T FLawBox) DLawRight gR
end Af
open PySem PySem.W PyProof.Rows
set_option maxRecDepth 100000 in
set_option maxHeartbeats 0 in
theorem PySem.Challenge.cw_aboutface_k06_known_beats_holds : PySem.Challenge.rw_aboutface_k06_known_beats.Holds := by
  w_on; o_law; k_head; (case hw => w_witness2)
  k_fill
  refine Af.walk_ofG (l := PySem.Challenge.rw_aboutface_k06_known_beats) (n := 63) (k := 13) (x := "_law_script") (sp := Af.spLaw) rfl (by decide) rfl ⟨rfl, by decide, by decide⟩ (fun w h Y => PySem.W.kIn_of Y) ?F (fun _ _ a ns hl _ hS => ⟨a, ns, rfl, hS, hl, fun _ => rfl⟩)
  case F =>
    intro w mg fa h KX G hmg
    refine' Af.all_mk KX G hmg ?a1 ?l1 ?c1 ?k1 ?a2 ?l2 ?c2 ?k2 ?a3 ?l3 ?c3 ?k3 ?a4 ?l4 ?c4 ?k4 ?a5 ?l5 ?c5 ?k5 ?a6 ?l6 ?c6 ?k6 ?a7 ?l7 ?c7 ?k7 ?a8 ?l8 ?c8 ?k8 ?a9 ?l9 ?c9 ?k9 ?a10 ?l10 ?c10 ?k10 ?a11 ?l11 ?c11 ?k11 ?a12 ?l12 ?c12 ?k12 ?a13 ?l13 ?c13 ?k13 ?a14 ?l14 ?c14 ?k14 ?a15 ?l15 ?c15 ?k15 ?a16 ?l16 ?c16 ?k16 ?a17 ?l17 ?c17 ?k17 ?z1 ?z2 ?z3 ?z4 ?z5 ?z6 ?z7 ?z8 ?z9 ?z10 ?z11 ?z12 ?z13 ?z14
    (case a1 => k_is); (case l1 => k_is); (case c1 => k_is); (case k1 => k_is); (case a2 => k_is); (case l2 => k_is); (case c2 => k_is); (case k2 => k_is)
    (case a3 => k_is); (case l3 => k_is); (case c3 => k_is); (case k3 => k_is); (case a4 => k_is); (case l4 => k_is); (case c4 => k_is); (case k4 => k_is)
    (case a5 => k_is); (case l5 => k_is); (case c5 => k_is); (case k5 => k_is); (case a6 => k_is); (case l6 => k_is); (case c6 => k_is); (case k6 => k_is)
    (case a7 => k_is); (case l7 => k_is); (case c7 => k_is); (case k7 => k_is); (case a8 => k_is); (case l8 => k_is); (case c8 => k_is); (case k8 => k_is)
    (case a9 => k_is); (case l9 => k_is); (case c9 => k_is); (case k9 => k_is); (case a10 => k_is); (case l10 => k_is); (case c10 => k_is); (case k10 => k_is)
    (case a11 => k_is); (case l11 => k_is); (case c11 => k_is); (case k11 => k_is); (case a12 => k_is); (case l12 => k_is); (case c12 => k_is); (case k12 => k_is)
    (case a13 => k_is); (case l13 => k_is); (case c13 => k_is); (case k13 => k_is); (case a14 => k_is); (case l14 => k_is); (case c14 => k_is); (case k14 => k_is)
    (case a15 => k_is); (case l15 => k_is); (case c15 => k_is); (case k15 => k_is); (case a16 => k_is); (case l16 => k_is); (case c16 => k_is); (case k16 => k_is)
    (case a17 => k_is); (case l17 => k_is); (case c17 => k_is); (case k17 => k_is); (case z1 => k_is); (case z2 => k_is); (case z3 => k_is); (case z4 => k_is)
    (case z5 => k_is); (case z6 => k_is); (case z7 => k_is); (case z8 => k_is); (case z9 => k_is); (case z10 => k_is); (case z11 => k_is); (case z12 => k_is)
    (case z13 => k_is); (case z14 => k_is)
