import PyProof.Rows.All
import Wide.All
import OpenK.AllK
import Wide.FinOn
import PySem.Challenge.RW_evenlead_k16_pairs_of_steppers
import HandS.ForMost
import HandS.Style
import HandS.Wide
import HandS.IsInst
import HandS.Evl
import PyProof.ReprRoads
import PyProof.Rows.StrPadFill
import KE.KDictZip
import KE.GoesMore
import KE.GoesEnum
import PyProof.CollectWalk
import HandS.RevTup
import HandS.Walk
import HandS.TupAny
import PyProof.Rows.StrPadWhole
import KE.KRevSl
import HandS.TupMul
import HandS.Zip
import KE.GoesComp
import PyProof.SumWalkG
import HandS.OwnEq
import HandS.ListItems
import HandS.SetFor
import HandS.Strs
import HandS.SortInts
import HandS.More
import HandS.SetKeys
import HandS.DictComp
import HandS.FStr
import HandS.Star
import HandS.SortKw
import KE.DatumOrd
import HandS.TupSets
import HandS.SortRule
import HandS.TupLe
import HandS.Lambda
import HandS.Nested
import HandS.TupLen
import HandS.Conv
import HandS.OwnIter
import HandS.IterVal
import PyProof.FactsAll.tuple_iterator_1
import KE.SortData
import HandS.Iter
import KE.KNestM
import KE.KLam
import HandS.EndBits
import HandS.NestedK
set_option Elab.async false
set_option linter.all false
set_option maxRecDepth 100000
set_option maxHeartbeats 4000000
namespace EL
open PySem PySem.Spec PyProof.Rows L2
/-! ### the deck of draws: a list [queue, blend, count]; the queue a list of ints -/
structure Dk (a q : Addr) (c : Nat) (H : Hp) : Prop where
  ne : a ≠ q
  top : ∃ b : Int, 0 ≤ b ∧ b < 2147483648 ∧ H a = some (.dK [(.inr "cells", .ref q), (.inr "stir", .int b), (.inr "draws", .int (c : Int))])
  que : ∃ ns : List Int, ns.length ≤ 63 ∧ H q = some (.lst (ns.map V.int))
/-- at most m draws so far -/
def Dw (a q : Addr) (m : Nat) (H : Hp) : Prop := ∃ c, c ≤ m ∧ Dk a q c H
/-- all but the deck stands -/
def Off (a q : Addr) (H H' : Hp) : Prop := ∀ b o, b ≠ a → b ≠ q → H b = some o → H' b = some o
theorem Off.refl {a q : Addr} (H : Hp) : Off a q H H := fun _ _ _ _ h => h
theorem Off.trans {a q : Addr} {H H1 H2 : Hp} (x : Off a q H H1) (y : Off a q H1 H2) : Off a q H H2 := fun b o h1 h2 h => y b o h1 h2 (x b o h1 h2 h)
theorem Off.of_same {a q : Addr} {H H' : Hp} (x : Same H H') : Off a q H H' := fun b o _ _ h => x b o h
/-- the heap without the deck -/
def hid (a q : Addr) (H : Hp) : Hp := fun b => if b = a ∨ b = q then none else H b
theorem hid_ne {a q b : Addr} {H : Hp} (h1 : b ≠ a) (h2 : b ≠ q) : hid a q H b = H b := by unfold hid; rw [if_neg (fun z => z.elim h1 h2)]
theorem hid_some {a q b : Addr} {H : Hp} {o : HO} (h : hid a q H b = some o) : b ≠ a ∧ b ≠ q ∧ H b = some o := by
  unfold hid at h
  by_cases z : b = a ∨ b = q
  · rw [if_pos z] at h; cases h
  · rw [if_neg z] at h; exact ⟨fun e => z (.inl e), fun e => z (.inr e), h⟩
theorem hid_sub {a q : Addr} {H : Hp} : Same (hid a q H) H := fun b o h => (hid_some h).2.2
theorem Off.hid {a q : Addr} {H H' : Hp} (x : Off a q H H') : Same (hid a q H) (hid a q H') := fun b o h => by
  obtain ⟨h1, h2, h3⟩ := hid_some h
  rw [hid_ne h1 h2]; exact x b o h1 h2 h3
theorem same_upd {H : Hp} {p : Addr} {o : HO} (h : H p = none) : Same H (upd H p o) := fun b x e => by
  rw [upd_ne (ne_of_none e h)]; exact e
theorem Dk.same {a q : Addr} {c : Nat} {H H' : Hp} (d : Dk a q c H) (s : Same H H') : Dk a q c H' := by
  obtain ⟨b, h1, h2, h3⟩ := d.top
  obtain ⟨ns, h4, h5⟩ := d.que
  exact ⟨d.ne, ⟨b, h1, h2, s _ _ h3⟩, ⟨ns, h4, s _ _ h5⟩⟩
theorem Dw.same {a q : Addr} {m : Nat} {H H' : Hp} (d : Dw a q m H) (s : Same H H') : Dw a q m H' := by
  obtain ⟨c, hc, k⟩ := d; exact ⟨c, hc, k.same s⟩
theorem Dw.mono {a q : Addr} {m n : Nat} {H : Hp} (d : Dw a q m H) (h : m ≤ n) : Dw a q n H := by
  obtain ⟨c, hc, k⟩ := d; exact ⟨c, Nat.le_trans hc h, k⟩
theorem Dk.na {a q p : Addr} {c : Nat} {H : Hp} (d : Dk a q c H) (h : H p = none) : p ≠ a ∧ p ≠ q := by
  obtain ⟨b, _, _, h3⟩ := d.top
  obtain ⟨ns, _, h5⟩ := d.que
  exact ⟨fun e => (by rw [e, h3] at h; cases h), fun e => (by rw [e, h5] at h; cases h)⟩
theorem Dw.na {a q p : Addr} {m : Nat} {H : Hp} (d : Dw a q m H) (h : H p = none) : p ≠ a ∧ p ≠ q := by
  obtain ⟨c, _, k⟩ := d; exact k.na h
/-- a store at an object beside the deck -/
theorem Dk.upd {a q p : Addr} {c : Nat} {H : Hp} {o : HO} (d : Dk a q c H) (h1 : p ≠ a) (h2 : p ≠ q) : Dk a q c (upd H p o) := by
  obtain ⟨b, h3, h4, h5⟩ := d.top
  obtain ⟨ns, h6, h7⟩ := d.que
  exact ⟨d.ne, ⟨b, h3, h4, by rw [upd_ne (Ne.symm h1)]; exact h5⟩, ⟨ns, h6, by rw [upd_ne (Ne.symm h2)]; exact h7⟩⟩
theorem Dw.upd {a q p : Addr} {m : Nat} {H : Hp} {o : HO} (d : Dw a q m H) (h1 : p ≠ a) (h2 : p ≠ q) : Dw a q m (upd H p o) := by
  obtain ⟨c, hc, k⟩ := d; exact ⟨c, hc, k.upd h1 h2⟩
theorem len_sz {n : Nat} (h : n ≤ 1000000) : n ≤ sizeLine := Nat.le_trans h (by decide)
theorem lt_sz {n : Nat} (h : n ≤ 1000000) : n < sizeLine := Nat.lt_of_le_of_lt h (by decide)
theorem dpInts {K : PySem.W.Frag} {H : Hp} : ∀ ns : List Int, DpAll K H (ns.map V.int) (ns.map PyData.int)
  | [] => .nil
  | n :: r => .cons (.int n) (dpInts r)
/-! ### slices of lists of ints -/
def cutI (ns : List Int) (k : Nat) : List Int := ns.take k
theorem cutI_map (ns : List Int) : cutV (ns.map V.int) none (some 63) = (cutI ns 63).map V.int := by
  unfold cutV cutI
  rw [show HT.sIx (ns.map V.int).length (ns.map V.int).length (some 63) = min 63 (ns.map V.int).length from HT.sIx_nat _ _ 63, HT.sIx_none, List.drop_zero, Nat.sub_zero, List.map_take, List.take_eq_take_iff]
  omega
theorem cutI_len (ns : List Int) (k : Nat) (h : ns.length ≤ 63) : (cutI ns k).length ≤ 63 := by
  unfold cutI; rw [List.length_take]; omega
theorem get_map_int {ms : List Int} {i : Nat} {x : V} (h : (ms.map V.int)[i]? = some x) : ∃ z, ms[i]? = some z ∧ x = V.int z := by
  rw [List.getElem?_map] at h
  cases e : ms[i]? with
  | none => rw [e] at h; cases h
  | some z => rw [e] at h; exact ⟨z, rfl, (Option.some.inj h).symm⟩
theorem sqOf {K : PySem.W.Frag} {H : Hp} {a : Addr} {xs : List V} (h : H a = some (.lst xs)) : SqL K H a xs := .inl (.inl h)
theorem stOf {K : PySem.W.Frag} {H : Hp} {a : Addr} {xs : List V} (h : H a = some (.tup xs)) : SqT K H a xs := .inl (.inl h)
theorem ex_l' {K : PySem.W.Frag} {H H' : Hp} {a : Addr} {xs : List V} (e : Same H H') (h : SqL K H a xs) : SqL K H' a xs := e.seq h
theorem ex_t' {K : PySem.W.Frag} {H H' : Hp} {a : Addr} {xs : List V} (e : Same H H') (h : SqT K H a xs) : SqT K H' a xs := Evl.ex_t e h
theorem canLay_ints : ∀ ns : List Int, PyData.canLayAll0 (ns.map PyData.int) = true
  | [] => by simp [PyData.canLayAll0]
  | n :: r => by simp [PyData.canLayAll0, PyData.canLay0, canLay_ints r]
theorem depth_ints : ∀ ns : List Int, PyData.depthAll (ns.map PyData.int) = 0
  | [] => by simp [PyData.depthAll]
  | n :: r => by simp [PyData.depthAll, PyData.depth, depth_ints r]
theorem shaped_ints (ns : List Int) : SeqAt.shaped (.list (ns.map PyData.int)) = true := by
  simp [SeqAt.shaped, PyData.canLay0, PyData.depth, canLay_ints, depth_ints]
theorem eqv_nil (ns : List Int) : PyData.eqv (.list (ns.map PyData.int)) (.list []) = decide (ns = []) := by
  cases ns <;> simp [PyData.eqv, PyData.eqvAll]
theorem last_int {ns : List Int} (h : ns ≠ []) : ∃ y, (ns.map V.int)[(ns.map V.int).length - 1]? = some (.int y) := by
  have hl : 0 < ns.length := List.length_pos_iff.mpr h
  refine ⟨ns[ns.length - 1]'(by omega), ?_⟩
  rw [List.getElem?_map, List.length_map, List.getElem?_eq_getElem (by omega)]; rfl
/-! ### a def that may be called -/
structure Cal (P : Program) (w : World) (K : PySem.W.Frag) (mg : Str → Option Value) (base : Heap) (k : Nat) (x : Str) (ps : List Str) (sp : Sp) where
  f : Addr
  fd : FuncData
  ok : FnOk P w K mg base CX0 k f fd ps sp
  g : mg x = some (.ref f)
  kp : PySem.W.keepIn K (.ref f) = true
  b : Binds K fd ps []
theorem pe_cal {X : Cx} {k : Nat} {x : Str} {ps : List Str} {sp : Sp} {E : XK} {e : Expr} {es : List Expr} {t : TA} {p pos : Pos} (C : Cal X.prog X.w X.K X.mg X.base k x ps sp) (hr : Room k X.A) (hg : Gl X x) (hx : Passes CX0 X E) (ha : PA X (e :: es) t)
    (hdb : (x == ("__debug__" : Str)) = false := by decide) (he : starEach (e :: es) X.env = (false, eval e X.env) :: starEach es X.env := by rfl) (hpl : (backTo pos (starEach es X.env)).any (·.1) = false := by rfl) :
    PE X (.Call (.Name x p) (e :: es) [] pos) (tCall sp [] E t) := pe_call C.ok hr hg C.g C.kp C.b .nil hx ha hdb he hpl
/-- the names of built-ins that the text leaves alone -/
abbrev Nn (mg : Str → Option Value) (x : Str) : Prop := mg x = none
/-! ### promises of the deck's defs -/
def spDeck (K : PySem.W.Frag) : Sp := fun vs H Q _ => ∃ (a : Addr) (ns : List Int), vs = [.ref a] ∧ SqL K H a (ns.map V.int) ∧ ns.length ≤ 63 ∧
  ∀ p q H', Same H H' → Dw p q 0 H' → H p = none → H q = none → Q (.ref p) H'
def spDraw : Sp := fun vs H Q _ => ∃ (a q : Addr) (m : Nat) (n : Int), vs = [.ref a, .int n] ∧ Dw a q m H ∧ m < 1000000000 ∧ 0 < n ∧ n < 1073741824 ∧
  ∀ k H', 0 ≤ k → k < n → Off a q H H' → Dw a q (m + 1) H' → Q (.int k) H'
/-- a pick of a list's item (not the deck's) -/
def spPick (K : PySem.W.Frag) : Sp := fun vs H Q _ => ∃ (a q : Addr) (m : Nat) (y : V) , vs = [.ref a, y] ∧ Dw a q m H ∧ m < 1000000000 ∧
  ((∃ (l : Addr) (xs : List V), y = .ref l ∧ SqL K (hid a q H) l xs ∧ xs ≠ [] ∧ xs.length ≤ 1000000 ∧ ∀ (i : Nat) (x : V) (H' : Hp), xs[i]? = some x → Off a q H H' → Dw a q (m + 1) H' → Q x H') ∨
   (∃ z : Str, y = .str z ∧ z.length ≠ 0 ∧ z.length ≤ 1000000 ∧ ∀ (i c : Nat) (H' : Hp), z.cps.toList[i]? = some c → Off a q H H' → Dw a q (m + 1) H' → Q (.str ⟨#[c]⟩) H'))
end EL
/-! Defs that show data (repr): a call where no display is under way around it. -/
namespace EL
open PySem PySem.Spec PyProof.Rows L2
/-- room, and nothing around is being shown -/
structure RoomG (k : Nat) (A : Around) : Prop where
  r : Room k A
  g : A.guards = some []
theorem RoomG.mono {j k : Nat} {A : Around} (h : RoomG k A) (hj : j ≤ k) : RoomG j A := ⟨h.r.mono hj, h.g⟩
/-- a def's promise where nothing around is being shown -/
structure FnG (P : Program) (w : World) (K : PySem.W.Frag) (mg : Str → Option Value) (base : Heap) (k : Nat) (f : Addr) (fd : FuncData) (ps : List Str) (sp : Sp) : Prop where
  ln : ∀ (vs : List V) (H : Hp) (Q : VK) (E : XK), sp vs H Q E → vs.length = ps.length
  go : ∀ {A : Around} {outer : List Env} {s : Shared} {H : Hp} {args : Args} {us : List Value} {vs : List V} {Q : VK} {E : XK},
    RoomG k A → Env0 P w K mg base A outer s H → BindsTo s fd args (ps.zip us) → Vals vs us → sp vs H Q E → codeAny (model P w) A (.call (.ref f) args) (CR CX0 outer P w H s Q E) s
section
variable {P : Program} {w : World} {K : PySem.W.Frag} {mg : Str → Option Value} {base : Heap}
theorem FnG.of {k : Nat} {f : Addr} {fd : FuncData} {ps : List Str} {sp : Sp} (F : FnOk P w K mg base CX0 k f fd ps sp) : FnG P w K mg base k f fd ps sp :=
  ⟨F.len, fun hr e hb hv hs => F.run _ _ _ _ _ _ _ _ _ hr.r e hb hv hs⟩
/-- by its body -/
theorem FnG.body {x : Str} {st : Stmt} {f : Addr} {fd : FuncData} {N ps : List Str} {k : Nat} {sp : Sp} (F : Fun K x x st f fd) (S : FnScope N ps (defScope st)) (ln : ∀ vs H Q E, sp vs H Q E → vs.length = ps.length)
    (hb : ∀ (cdv : Value) (A : Around) (outer : List Env) (s : Shared) (H : Hp) (vs : List V) (Q : VK) (E : XK), RoomG k (A.deeper (envOfC x (defScope st) s.heap.objs.size f cdv)) → sp vs H Q E →
      ∃ t, PSs (cxOf CX0 P w K mg base N x (defScope st) f cdv A outer s H E).nox (defBody st) t ∧ t { nx := fun _ H' => Q .non H', rt := Q } (start N vs) H) : FnG P w K mg base (k + 1) f fd ps sp := by
  obtain ⟨oc, od, kV, doc, pm, an, cdv, ct, osl, rfl, lk, hcd⟩ := F.ex
  refine ⟨ln, fun {A outer s H args us vs Q E} hr e0 bd rv hs => ?_⟩
  have stands : ∀ b o, base.get? b = some o → s.heap.get? b = some o := fun b o e => (e0.bs b o e).1
  have KX := e0.mod.kin.keeps stands
  have named : ∀ y ∈ ps.zip us, (defScope st).names.lookup y.1 = some .local ∨ ((defScope st).names.lookup y.1 = some .cell ∧ ((cellsFrom (s.heap.objs.size + 1) (defScope st).names []).lookup y.1).isSome = true) := by
    rintro ⟨n, v⟩ hy
    exact (S.par n (List.of_mem_zip hy).1).imp id fun q => ⟨q, PySem.W.cellsFrom_some _ _ _ (.inl q)⟩
  refine codeAny_call_function hr.r.depth (KX _ _ lk) rfl S.co S.gen rfl (PySem.W.codeRec_of KX hcd) (bd _ _ _ _ ?_)
  refine wpAny_newFunctionEnv_cells S.kind named fun env he s1 x1 => ?_
  subst he
  refine ⟨(e0.mod.nolimit.keeps stands).keeps x1.toInCall.keep, codeAny_func ?_⟩
  obtain ⟨t, ht, hq⟩ := hb cdv A outer s H vs Q E ⟨hr.r.deeper _, hr.g⟩ hs
  have I := inv_start (CX := CX0) (mg := mg) (base := base) (E := E) (qual := x) (f := f) (cd := cdv) S hr.r.hd e0 (ln _ _ _ _ hs) rv x1
  refine wpAny_mono (ht.nox.run [] s1 (start N vs) H _ I hq) (fun fl s2 end2 => ?_) fun _ _ z => z
  cases fl with
  | ret u =>
    obtain ⟨v, σ2, H2, J, r2, q2⟩ := end2
    exact ⟨v, H2, J.os, J.bare, J.base, J.hok, r2, q2⟩
  | next =>
    obtain ⟨σ2, H2, J, q2⟩ := end2
    exact ⟨.non, H2, J.os, J.bare, J.base, J.hok, rfl, q2⟩
  | brk => exact end2.elim fun _ z => z.elim fun _ y => y.2.elim
  | cont => exact end2.elim fun _ z => z.elim fun _ y => y.2.elim
end
/-- a def that may be called where nothing around is being shown -/
structure CalG (P : Program) (w : World) (K : PySem.W.Frag) (mg : Str → Option Value) (base : Heap) (k : Nat) (x : Str) (ps : List Str) (sp : Sp) where
  f : Addr
  fd : FuncData
  ok : FnG P w K mg base k f fd ps sp
  g : mg x = some (.ref f)
  kp : PySem.W.keepIn K (.ref f) = true
  b : Binds K fd ps []
section
variable {X : Cx} {k : Nat} {x : Str} {ps : List Str} {sp : Sp} {E : XK} {e : Expr} {es : List Expr} {t : TA} {p pos : Pos}
theorem pe_calG (C : CalG X.prog X.w X.K X.mg X.base k x ps sp) (hr : RoomG k X.A) (hg : Gl X x) (hx : Passes CX0 X E) (ha : PA X (e :: es) t)
    (hdb : (x == ("__debug__" : Str)) = false := by decide) (he : starEach (e :: es) X.env = (false, eval e X.env) :: starEach es X.env := by rfl) (hpl : (backTo pos (starEach es X.env)).any (·.1) = false := by rfl) :
    PE X (.Call (.Name x p) (e :: es) [] pos) (tCall sp [] E t) := by
  refine ⟨fun pins s σ H Q I h => wpAny_Call_Name_kw (ld_glob I hg C.g ?_ hdb)⟩
  refine PySem.W.callWith_K (h₀ := X.base) I.ok.mod.kin C.kp (thn (ha.run pos pins s σ H _ I h) fun us s1 hh => ?_) he hpl
  obtain ⟨vs, H1, I1, r, q⟩ := hh
  refine ⟨I1.kIn, ?_⟩
  have q' : sp vs H1 Q E := by rw [List.append_nil] at q; exact q
  have hl : us.length = ps.length := r.length.symm.trans (C.ok.ln _ _ _ _ q')
  have bd := C.b s1 us I1.kIn (by rw [List.append_nil]; exact hl)
  rw [List.append_nil] at bd
  refine wpAny_call (codeAny_mono (C.ok.go hr I1.env0 bd r q') fun r2 s2 h2 => ?_)
  match r2, h2 with
  | .error e, h2 => exact hx pins σ H1 s1 e s2 I1 h2
  | .ok (.ret u), h2 => exact I1.after h2
  | .ok .next, h2 => exact h2.elim
  | .ok .brk, h2 => exact h2.elim
  | .ok .cont, h2 => exact h2.elim
end
/-! ### the end: the law's def, called by the claim -/
section
variable {P : Program} {w : World} {K : PySem.W.Frag} {mg mb : Str → Option Value} {s₁ : Shared}
/-- the base under an abstract heap that tracks one list at most -/
theorem base_one {H : Hp} {a : Addr} {vs : List Value} (KX : K.In s₁.heap) (hns : s₁.heap.Ns mainGlobals mg) (hb : s₁.heap.Ns builtinsNs mb) (hbb : ∀ x : Str, x ≠ "__name__" → mb x = bootBuiltins x) (hlim : s₁.heap.NoLimit)
    (ha : s₁.heap.get? a = some { cls := .type "list", data := .seq vs.toArray }) (hA : ∀ b u, H b = some u → b = a) (hK : ∀ u, H a = some u → K.lookup a = none) :
    K.In (hidT s₁.heap H) ∧ Mod K mg (hidT s₁.heap H) := by
  have dictFree : ∀ {b : Addr} {o : Obj} {es : Array DictEntry} {n : Nat}, s₁.heap.get? b = some o → o.data = .dict es n → H b = none := by
    intro b o es n e d
    cases q : H b with
    | none => rfl
    | some u =>
      obtain rfl := hA b u q
      rw [ha] at e
      obtain rfl := Option.some.inj e
      exact nomatch d
  have ns : ∀ {b : Addr} {m : Str → Option Value}, s₁.heap.Ns b m → (hidT s₁.heap H).Ns b m := by
    rintro b m ⟨o, es, n, e, d, r⟩
    exact ⟨o, es, n, hidT_get e (dictFree e d), d, r⟩
  have kin : K.In (hidT s₁.heap H) := by
    intro b o e
    refine hidT_get (KX b o e) ?_
    cases q : H b with
    | none => rfl
    | some u =>
      obtain rfl := hA b u q
      rw [hK u q] at e
      exact nomatch e
  obtain ⟨mc, l1, l2⟩ := hlim
  exact ⟨kin, ⟨kin, ns hns, ⟨mb, ns hb, hbb⟩, ⟨mc, ns l1, l2⟩⟩⟩
theorem law_callG {k : Nat} {fa a : Addr} {fd : FuncData} {x : Str} {sp : Sp} {vs : List Value} {ns : List Int}
    (KX : K.In s₁.heap) (hns : s₁.heap.Ns mainGlobals mg) (hb : s₁.heap.Ns builtinsNs mb) (hbb : ∀ x : Str, x ≠ "__name__" → mb x = bootBuiltins x) (hlim : s₁.heap.NoLimit) (hg : s₁.gens = #[])
    (ha : s₁.heap.get? a = some { cls := .type "list", data := .seq vs.toArray }) (hi : IntsAre vs ns) (hl : ns.length ≤ sizeLine) (hr : Room k callerA)
    (F : ∀ base : Heap, K.In base → base.Ns mainGlobals mg → FnG P w K mg base k fa fd [x] sp) (hbind : ∀ (s : Shared) (u : Value), BindsTo s fd ⟨[u], []⟩ [(x, u)])
    (hsp : ∀ H : Hp, Only H → SqL K H a (ns.map V.int) → sp [.ref a] H (fun v _ => v = .bl true) fun _ _ _ => False) :
    codeAny (model P w) callerA (.call (.ref fa) ⟨[.ref a], []⟩) (fun r s' => r = .ok (.ret (.bool true)) ∧ OldK s₁.heap s'.heap ∧ s'.os = s₁.os ∧ AllBare s'.gens) s₁ := by
  have rv : Vals (ns.map V.int) vs := vals_ints hi
  have key : ∀ H : Hp, Only H → SqL K H a (ns.map V.int) → HOk P w H s₁.heap → (∀ b u, H b = some u → b = a) → (∀ u, H a = some u → K.lookup a = none) →
      codeAny (model P w) callerA (.call (.ref fa) ⟨[.ref a], []⟩) (fun r s' => r = .ok (.ret (.bool true)) ∧ OldK s₁.heap s'.heap ∧ s'.os = s₁.os ∧ AllBare s'.gens) s₁ := by
    intro H hO hS hok hA hK
    obtain ⟨kb, md⟩ := base_one KX hns hb hbb hlim ha hA hK
    have e0 : Env0 P w K mg (hidT s₁.heap H) callerA [] s₁ H := ⟨rfl, md, fun _ _ e => of_hidT e, Nat.le_of_eq (hidT_size s₁.heap H), trivial, fun _ z => (List.not_mem_nil z).elim, hok, .of_eq hg⟩
    have run := (F _ kb md.glob).go (Q := fun v _ => v = .bl true) (E := fun _ _ _ => False) ⟨hr, rfl⟩ e0 (vs := [.ref a]) (us := [.ref a]) (hbind s₁ (.ref a)) (Paired.cons (show RelV (.ref a) (.ref a) from rfl) .nil) (hsp H hO hS)
    refine codeAny_mono run fun r s2 h2 => ?_
    match r, h2 with
    | .error e, h2 => exact h2.elim
    | .ok .next, h2 => exact h2.elim
    | .ok .brk, h2 => exact h2.elim
    | .ok .cont, h2 => exact h2.elim
    | .ok (.ret u), ⟨v, H2, os, bare, un, ok2, r2, q2⟩ =>
      obtain rfl : v = .bl true := q2
      obtain rfl : u = Value.bool true := r2
      refine ⟨rfl, OldK.of_keep fun b o e => ?_, os, bare⟩
      cases q : H b with
      | none => exact un.keep b o e q (List.not_mem_nil) (List.not_mem_nil)
      | some u =>
        obtain ⟨ob, xs, z⟩ := (hO b).resolve_left (by rw [q]; exact fun y => nomatch y)
        have e1 : s₁.heap.get? b = some ob := (hok b _ z).1
        have e2 : s2.heap.get? b = some ob := (ok2 b _ (un.frzs b ob _ z)).1
        rw [e] at e1
        rw [Option.some.inj e1]; exact e2
  by_cases hk : K.lookup a = none
  · refine key (fun b => if b = a then some (.frz { cls := .type "list", data := .seq vs.toArray } (.lst (ns.map V.int))) else none) (fun b => ?_) (.inl (.inr ⟨_, if_pos rfl⟩)) (fun b u z => ?_) (fun b u z => ?_) fun _ _ => hk
    · by_cases e : b = a
      · exact .inr ⟨_, _, if_pos e⟩
      · exact .inl (if_neg e)
    · by_cases e : b = a
      · subst e
        obtain rfl := Option.some.inj ((if_pos rfl).symm.trans z)
        exact ⟨ha, (by rw [List.length_map]; exact hl), vs, _, rv, ha⟩
      · exact nomatch (if_neg e).symm.trans z
    · by_cases e : b = a
      · exact e
      · exact nomatch (if_neg e).symm.trans z
  · obtain ⟨o, ho⟩ := Option.ne_none_iff_exists'.mp hk
    have e := KX a o ho
    rw [ha] at e
    obtain rfl := Option.some.inj e
    have lv : vs.length = ns.length := hi.length
    refine key (fun _ => none) (fun _ => .inl rfl) (.inr ⟨_, vs.toArray, _, ho, rfl, rfl, rfl, (by rw [List.size_toArray, lv]; exact hl), (by simpa using rv)⟩) (fun _ _ z => nomatch z) (fun _ _ z => nomatch z) fun _ z => nomatch z
end
theorem walk_ofG {l : PySem.W.OpenLaw} {n k : Nat} {q : Program} {loose : List Str} {XP : (Str → Option Value) → Heap → Prop} {YP : World → Heap → Prop} {d : DefRec} {K : Params → PySem.W.Frag} {sp : World → Sp} {x : Str}
    (hn : l.most = some n) (hn2 : n ≤ sizeLine) (hdf : d.params.defaults = []) (hr : Room k callerA) (hY : ∀ (w : World) (h : Heap), YP w h → (K w.params).In h)
    (F : ∀ (w : World) (mg : Str → Option Value) (fa : Addr) (h : Heap), (K w.params).In h → h.Ns mainGlobals mg → mg d.name = some (.ref fa) →
      ∃ fd : FuncData, (∀ (s : Shared) (u : Value), BindsTo s fd ⟨[u], []⟩ [(x, u)]) ∧ ∀ base : Heap, (K w.params).In base → base.Ns mainGlobals mg → FnG l.prog w (K w.params) mg base k fa fd [x] (sp w))
    (hsp : ∀ (w : World) (H : Hp) (a : Addr) (ns : List Int), ns.length ≤ n → Only H → SqL (K w.params) H a (ns.map V.int) → sp w [.ref a] H (fun v _ => v = .bl true) fun _ _ _ => False) :
    PySem.W.WalkO q loose XP YP l.row.toRowW d [] (fun f vs => PySem.call f vs) := by
  refine Att.attach_call hn hdf fun w _ _ mg mb fa _ _ _ _ a vs ns G Y _ _ _ hmg hobj hints hlen hg => ?_
  obtain ⟨fd, hb, hF⟩ := F w mg fa _ (hY w _ Y) G.T.g hmg
  exact law_callG (hY w _ Y) G.T.g G.T.b G.T.builtins G.T.nolimit hg hobj hints (Nat.le_trans hlen hn2) hr hF hb (fun H hO hS => hsp w H a ns hlen hO hS)
end EL
/-! Data of any of the laws' kinds at a value: also empty dicts; repr of it; == with a text; isinstance. -/
namespace EL
open PySem PySem.Spec PyProof.Rows L2
mutual
/-- v stands for the data d -/
inductive Dq (K : PySem.W.Frag) (H : Hp) : V → PyData → Prop
  | non : Dq K H .non .none
  | bl (b : Bool) : Dq K H (.bl b) (.bool b)
  | int (i : Int) : Dq K H (.int i) (.int i)
  | str (x : Str) : Dq K H (.str x) (.str x)
  | lst {a : Addr} {xs : List V} {ds : List PyData} : SqL K H a xs → DqAll K H xs ds → Dq K H (.ref a) (.list ds)
  | tup {a : Addr} {xs : List V} {ds : List PyData} : SqT K H a xs → DqAll K H xs ds → Dq K H (.ref a) (.tuple ds)
  | dic {a : Addr} : H a = some (.dK []) → Dq K H (.ref a) (.dict [])
inductive DqAll (K : PySem.W.Frag) (H : Hp) : List V → List PyData → Prop
  | nil : DqAll K H [] []
  | cons {v : V} {vs : List V} {d : PyData} {ds : List PyData} : Dq K H v d → DqAll K H vs ds → DqAll K H (v :: vs) (d :: ds)
end
mutual
/-- no list within -/
def noL : PyData → Bool
  | .none | .bool _ | .int _ | .str _ | .dict _ => true
  | .list _ => false
  | .tuple xs => noLs xs
def noLs : List PyData → Bool
  | [] => true
  | x :: xs => noL x && noLs xs
end
section
variable {K : PySem.W.Frag} {H H' : Hp}
mutual
theorem Dq.mono (e : Same H H') : ∀ (d : PyData) (v : V), Dq K H v d → Dq K H' v d
  | .none, _, h => by cases h; exact .non
  | .bool b, _, h => by cases h; exact .bl b
  | .int i, _, h => by cases h; exact .int i
  | .str x, _, h => by cases h; exact .str x
  | .list ds, _, h => by
    cases h with
    | lst hs ha => exact .lst (ex_l' e hs) (DqAll.mono e ds _ ha)
  | .tuple ds, _, h => by
    cases h with
    | tup hs ha => exact .tup (ex_t' e hs) (DqAll.mono e ds _ ha)
  | .dict _, _, h => by
    cases h with
    | dic hd => exact .dic (e _ _ hd)
theorem DqAll.mono (e : Same H H') : ∀ (ds : List PyData) (vs : List V), DqAll K H vs ds → DqAll K H' vs ds
  | [], _, h => by cases h; exact .nil
  | d :: ds, _, h => by
    cases h with
    | cons h1 h2 => exact .cons (Dq.mono e d _ h1) (DqAll.mono e ds _ h2)
end
theorem Dq.up {d : PyData} {v : V} (h : Dq K H v d) (e : Same H H') : Dq K H' v d := Dq.mono e d v h
theorem DqAll.up {ds : List PyData} {vs : List V} (h : DqAll K H vs ds) (e : Same H H') : DqAll K H' vs ds := DqAll.mono e ds vs h
theorem DqAll.len {ds : List PyData} : ∀ {vs : List V}, DqAll K H vs ds → vs.length = ds.length := by
  induction ds with
  | nil => intro vs h; cases h; rfl
  | cons d ds ih =>
    intro vs h
    cases h with
    | cons _ h2 => rw [List.length_cons, List.length_cons, ih h2]
theorem DqAll.at : ∀ {ds : List PyData} {vs : List V} {i : Nat} {v : V}, DqAll K H vs ds → vs[i]? = some v → ∃ d, ds[i]? = some d ∧ Dq K H v d
  | [], _, i, v, h, e => by cases h; simp at e
  | d :: ds, _, 0, v, h, e => by
    cases h with
    | cons h1 h2 =>
      rw [List.getElem?_cons_zero] at e
      obtain rfl := Option.some.inj e
      exact ⟨d, rfl, h1⟩
  | d :: ds, _, i + 1, v, h, e => by
    cases h with
    | cons h1 h2 => exact DqAll.at (i := i) h2 (by simpa using e)
theorem DqAll.app : ∀ {ds es : List PyData} {vs us : List V}, DqAll K H vs ds → DqAll K H us es → DqAll K H (vs ++ us) (ds ++ es)
  | [], _, _, _, h, h' => by cases h; exact h'
  | d :: ds, _, _, _, h, h' => by
    cases h with
    | cons h1 h2 => exact .cons h1 (DqAll.app h2 h')
theorem DqAll.tk : ∀ {ds : List PyData} {vs : List V} (n : Nat), DqAll K H vs ds → DqAll K H (vs.take n) (ds.take n)
  | _, _, 0, _ => .nil
  | [], _, n + 1, h => by cases h; exact .nil
  | d :: ds, _, n + 1, h => by
    cases h with
    | cons h1 h2 => exact .cons h1 (DqAll.tk n h2)
theorem DqAll.dp : ∀ {ds : List PyData} {vs : List V} (n : Nat), DqAll K H vs ds → DqAll K H (vs.drop n) (ds.drop n)
  | _, _, 0, h => h
  | [], _, n + 1, h => by cases h; exact .nil
  | d :: ds, _, n + 1, h => by
    cases h with
    | cons h1 h2 => exact DqAll.dp n h2
theorem DqAll.rv {ds : List PyData} {vs : List V} (h : DqAll K H vs ds) : DqAll K H vs.reverse ds.reverse := by
  induction ds generalizing vs with
  | nil => cases h; exact .nil
  | cons d ds ih =>
    cases h with
    | cons h1 h2 =>
      rw [List.reverse_cons, List.reverse_cons]
      exact (ih h2).app (.cons h1 .nil)
end
section
variable {X : Cx} {pins : List (Addr × Obj)} {σ : L2.St} {H : Hp} {s : Shared}
theorem not_sys {a : Addr} (I : Inv X pins σ H s) (h : H a = some (.dK [])) : a ≠ sysModules ∧ ∃ o n, s.heap.get? a = some o ∧ o.cls = .type "dict" ∧ o.data = .dict #[] n := by
  obtain ⟨_, h2, vs, kv, o, es, n, ho, hx, hd, _, hes, _⟩ := I.hok a _ h
  cases kv
  refine ⟨ne_of_beq_false h2, o, n, ho, hx.1, ?_⟩
  have e : es.toList = [] := by
    generalize es.toList = l at hes
    cases hes; rfl
  rw [hd]
  congr
  exact Array.toList_eq_nil_iff.mp e
mutual
theorem Dq.reads (I : Inv X pins σ H s) : ∀ (d : PyData) (v : V) (u : Value), Dq X.K H v d → RelV v u → ∃ as, Reads s.heap u d as ∧ (noL d = true → sysModules ∉ as)
  | .none, _, _, h, r => by cases h; cases r; exact ⟨_, Reads.none, fun _ => List.not_mem_nil⟩
  | .bool b, _, _, h, r => by cases h; cases r; exact ⟨_, Reads.bool b, fun _ => List.not_mem_nil⟩
  | .int i, _, _, h, r => by cases h; obtain ⟨t, rfl⟩ := r; exact ⟨_, Reads.int i t, fun _ => List.not_mem_nil⟩
  | .str x, _, _, h, r => by cases h; obtain ⟨t, rfl⟩ := r; exact ⟨_, Reads.str x t, fun _ => List.not_mem_nil⟩
  | .list ds, _, _, h, r => by
    cases h with
    | lst hs ha =>
      cases r
      obtain ⟨its, rv, ⟨o, n, ho, hc, _, hd⟩, _⟩ := I.list hs
      obtain ⟨as, hr, _⟩ := DqAll.reads I ds _ its ha rv
      exact ⟨_, Reads.list ho hc hd hr, fun z => by simp [noL] at z⟩
  | .tuple ds, _, _, h, r => by
    cases h with
    | tup hs ha =>
      cases r
      obtain ⟨its, rv, ⟨o, ho, hc, n, hd⟩, _⟩ := I.tuple hs
      obtain ⟨as, hr, hn⟩ := DqAll.reads I ds _ its ha rv
      exact ⟨_, Reads.tuple ho hc hd hr, fun z => hn (by simpa [noL] using z)⟩
  | .dict _, _, _, h, r => by
    cases h with
    | dic hd =>
      cases r
      obtain ⟨hne, o, n, ho, hc, hdd⟩ := not_sys I hd
      exact ⟨_, Reads.dict (kvs := []) ho hc hdd .nil .nil, fun _ => by simp [Ne.symm hne]⟩
theorem DqAll.reads (I : Inv X pins σ H s) : ∀ (ds : List PyData) (vs : List V) (us : List Value), DqAll X.K H vs ds → Vals vs us → ∃ as, ReadsAll s.heap us ds as ∧ (noLs ds = true → sysModules ∉ as)
  | [], _, _, h, r => by cases h; cases r; exact ⟨_, ReadsAll.nil, fun _ => List.not_mem_nil⟩
  | d :: ds, _, _, h, r => by
    cases h with
    | cons h1 h2 =>
      cases r with
      | cons r1 r2 =>
        obtain ⟨as, q1, n1⟩ := Dq.reads I d _ _ h1 r1
        obtain ⟨bs, q2, n2⟩ := DqAll.reads I ds _ _ h2 r2
        refine ⟨_, ReadsAll.cons q1 q2, fun z => ?_⟩
        obtain ⟨z1, z2⟩ : noL d = true ∧ noLs ds = true := by simpa [noLs] using z
        exact fun m => (List.mem_append.mp m).elim (n1 z1) (n2 z2)
end
/-- repr(x) of data -/
def rRepr (K : PySem.W.Frag) : List V → Hp → VK → Prop := fun xs H Q => ∃ x d, xs = [x] ∧ Dq K H x d ∧ d.showable = true ∧ (d.hasDict = false ∨ noL d = true) ∧ d.depth ≤ 100 ∧ d.shown.length ≤ sizeLine ∧ Q (.str d.shown) H
theorem call_repr {k : Nat} (hr : RoomG k X.A) : CallR X (.builtin "repr") (rRepr X.K) := by
  intro pins s σ H xs us Q I rv h
  obtain ⟨x, d, rfl, hd, hs, hn, hdp, hz, q⟩ := h
  obtain ⟨u, rfl, ru⟩ := vals1 rv
  obtain ⟨as, rd, hsys⟩ := Dq.reads I d x u hd ru
  have hu : X.A.units + (d.depth + 1) < cLine := by have := hr.r.un; omega
  have sm : d.hasDict = true → sysModules ∉ as := fun z => hn.elim (fun y => by rw [y] at z; cases z) hsys
  have fin : ∀ h' u' tk, (∀ b o, s.heap.get? b = some o → h'.get? b = some o) → EP X pins σ Q (.str d.shown u') { s with heap := h', toks := tk } := fun h' u' tk k => ⟨.str d.shown, H, I.kept k, ⟨u', rfl⟩, q⟩
  cases hd with
  | non =>
    cases ru
    refine P.repr_of_none ?_
    simpa [PyData.shown] using fin s.heap s.toks (s.toks + 1) fun _ _ e => e
  | bl b =>
    cases ru
    refine P.repr_of_bool ?_
    simpa [PyData.shown] using fin s.heap s.toks (s.toks + 1) fun _ _ e => e
  | int i =>
    obtain ⟨t, rfl⟩ := ru
    refine P.repr_of_int (by simpa [PyData.showable] using hs) ?_
    simpa [PyData.shown] using fin s.heap s.toks (s.toks + 1) fun _ _ e => e
  | str z =>
    obtain ⟨t, rfl⟩ := ru
    refine P.repr_of_str ?_ (by simpa only [PyData.shown] using hz)
    simpa [PyData.shown] using fin s.heap s.toks (s.toks + 1) fun _ _ e => e
  | lst _ _ => cases ru; exact repr_of_reads' rd hs sm hr.g hu (fun _ _ e => e) fin hz
  | tup _ _ => cases ru; exact repr_of_reads' rd hs sm hr.g hu (fun _ _ e => e) fin hz
  | dic _ => cases ru; exact repr_of_reads' rd hs sm hr.g hu (fun _ _ e => e) fin hz
end
end EL
namespace EL
open PySem PySem.Spec PyProof.Rows L2
/-! ### the built-in class of data -/
def tyN : PyData → String
  | .none => "NoneType" | .bool _ => "bool" | .int _ => "int" | .str _ => "str" | .list _ => "list" | .tuple _ => "tuple" | .dict _ => "dict"
def tyNs : List String := ["NoneType", "bool", "int", "str", "list", "tuple", "dict"]
theorem tyN_mem (d : PyData) : tyN d ∈ tyNs := by cases d <;> simp [tyN, tyNs]
theorem tyx_of {K : PySem.W.Frag} {H : Hp} {x : V} {d : PyData} (h : Dq K H x d) : TyX K H x (.type (tyN d)) := by
  cases h with
  | non => exact .base .non
  | bl b => exact .base (.bl b)
  | int i => exact .base (.int i)
  | str z => exact .base (.str z)
  | lst hs _ =>
    rcases hs with (e | ⟨o, e⟩) | ⟨o, its, n, e, c, _⟩
    · exact .base (.lst e)
    · exact .base (.frz e)
    · exact .kList e c
  | tup hs _ =>
    rcases hs with (e | ⟨o, e⟩) | ⟨o, its, n, e, c, _⟩
    · exact .base (.tup e)
    · exact .fTuple e
    · exact .kTuple e c
  | dic e => exact .base (.dK e)
theorem kitL_str : ∀ n ∈ tyNs, kitB n "str" = some (decide (n = "str")) := by decide +kernel
theorem kit_str (d : PyData) : kitB (tyN d) "str" = some (decide (tyN d = "str")) := kitL_str _ (tyN_mem d)
theorem kitL_tuple : ∀ n ∈ tyNs, kitB n "tuple" = some (decide (n = "tuple")) := by decide +kernel
theorem kit_tuple (d : PyData) : kitB (tyN d) "tuple" = some (decide (tyN d = "tuple")) := kitL_tuple _ (tyN_mem d)
theorem kitL_list : ∀ n ∈ tyNs, kitB n "list" = some (decide (n = "list")) := by decide +kernel
theorem kit_list (d : PyData) : kitB (tyN d) "list" = some (decide (tyN d = "list")) := kitL_list _ (tyN_mem d)
def isStr (d : PyData) : Bool := decide (tyN d = "str")
def isTup (d : PyData) : Bool := decide (tyN d = "tuple")
/-- isinstance(x, str) and isinstance(x, tuple) of data -/
theorem isi_str {K : PySem.W.Frag} {H : Hp} {x : V} {d : PyData} {Q : VK} (h : Dq K H x d) (q : Q (.bl (isStr d)) H) : rIsi K [x, .ty "str"] H Q := ⟨x, .ty "str", _, _, _, rfl, .ty "str", tyx_of h, kit_ty (kit_str d), q⟩
theorem isi_tup {K : PySem.W.Frag} {H : Hp} {x : V} {d : PyData} {Q : VK} (h : Dq K H x d) (q : Q (.bl (isTup d)) H) : rIsi K [x, .ty "tuple"] H Q := ⟨x, .ty "tuple", _, _, _, rfl, .ty "tuple", tyx_of h, kit_ty (kit_tuple d), q⟩
/-! ### x == text, x of any kind -/
section
variable {A : Around} {s : Shared}
theorem dict_declines (l : Addr) (es : Array DictEntry) (n : Nat) (dd : Option Addr) (sl : Array (Option Value)) (b : Str) (u : Tok) :
    Meets (Builtin.«dict.__eq__» ⟨[.ref l, .str b u], []⟩) (fun _ R s => s.heap.get? l = some { cls := .type "dict", dict := dd, data := .dict es n, slots := sl } ∧ R (.ok (.ret .notImplemented)) s) :=
  .of_wp fun prog w A R s h => by
    obtain ⟨hl, h⟩ := h
    have ty : s.TypeIs (.ref l) "dict" := ⟨_, hl, rfl⟩
    show wpAny _ _ (Builtin.Dict.dictSlotArgs "__eq__" ⟨[.ref l, .str b u], []⟩ >>= _) _ _ s
    refine wpAny_bind ?_
    unfold Builtin.Dict.dictSlotArgs
    refine wpAny_bind (wpAny_notOrdered_dict ty ?_)
    show wpAny _ _ (pure (Value.ref l, Value.str b u)) _ _ s
    refine wpAny_pure ?_
    refine wpAny_bind (wpAny_isInstance (T := "str") (typeIs_str s b u) PySem.F.sub_str_dict ?_)
    simp only [Bool.not_false, if_true]
    exact wpAny_bind (wpAny_rule (wpAny_pure ⟨_, rfl, h⟩))
theorem str_declines (l : Addr) (es : Array DictEntry) (n : Nat) (dd : Option Addr) (sl : Array (Option Value)) (b : Str) (u : Tok) :
    Meets (Builtin.«str.__eq__» ⟨[.str b u, .ref l], []⟩) (fun _ R s => s.heap.get? l = some { cls := .type "dict", dict := dd, data := .dict es n, slots := sl } ∧ R (.ok (.ret .notImplemented)) s) :=
  .of_wp fun prog w A R s h => by
    obtain ⟨hp, g, d, tk, os⟩ := s
    obtain ⟨hl, h⟩ := h
    have look := hl
    wp_walk using wpAny_loadPart' hl, wpAny_load hl
    exact ⟨_, rfl, h⟩
theorem dict_rc {l : Addr} {es : Array DictEntry} {n : Nat} (b : Str) (u : Tok) (hl : ∃ o, s.heap.get? l = some o ∧ o.cls = .type "dict" ∧ o.data = .dict es n) (hu : A.units < cLine) : SeqAt.RcAt A s (.ref l) (.str b u) false := fun prog w E Q h => by
  obtain ⟨⟨cls, dd, data, sl⟩, ho, hc, hd⟩ := hl
  obtain rfl : cls = .type "dict" := hc
  obtain rfl : data = .dict es n := hd
  exact SeqAt.rc_eq_decline_or (k := false) ⟨_, ho, rfl⟩ (typeIs_str s b u) (by decide) PySem.F.sub_str_dict PySem.F.slot_dict_eq PySem.F.slot_str_eq_refl
    (fun _ hq => call_meets PySem.F.slot_dict_eq ⟨_, ho, rfl⟩ PySem.F.entry_dict_eq (PySem.F.args_dict_eq_2 _ _) (dict_declines l es n dd sl b u) ⟨ho, hq⟩)
    (fun _ hq => call_meets PySem.F.slot_str_eq_refl (typeIs_str s b u) PySem.F.entry_str_eq (PySem.F.args_str_eq_2 _ _) (str_declines l es n dd sl b u) ⟨ho, hq⟩)
    (fun _ hq => wpAny_of_eq (rfl : isSame (.ref l) (.str b u) = pure false) hq) (.inr hu) h
end
/-- x == y, y a text, x data of any kind -/
def rEqS (K : PySem.W.Frag) : R2 := fun x y H Q => (∃ d, Dq K H x d) ∧ (∃ z, y = .str z) ∧ Q (.bl (decide (x = y))) H
theorem op_eqS {X : Cx} (hu : X.A.units + 64 < cLine) : OpR X (compareOp .Eq) (rEqS X.K) := by
  intro pins s σ H x y v u Q I rx ry h
  obtain ⟨⟨d, hd⟩, ⟨z, rfl⟩, q⟩ := h
  have hu0 : X.A.units < cLine := by omega
  by_cases hs : scal x (.str z) = true
  · exact op_eq pins s σ H x _ v u Q I rx ry ⟨hs, q⟩
  · obtain ⟨t, rfl⟩ := ry
    have no : ∀ a : Addr, x = .ref a → Q (.bl false) H := fun a e => by
      subst e
      have ne : decide (V.ref a = V.str z) = false := decide_eq_false fun q => nomatch q
      rw [ne] at q; exact q
    cases hd with
    | non => exact absurd rfl hs
    | bl b => exact absurd rfl hs
    | int i => exact absurd rfl hs
    | str w => exact absurd rfl hs
    | lst hq _ =>
      cases rx
      obtain ⟨its, _, ⟨o, n, ho, hc, _, hdd⟩, _⟩ := I.list hq
      exact SeqAt.RcAt.list_str z t ⟨o, ho, hc, n, hdd⟩ hu0 _ _ _ _ ⟨.bl false, H, I, rfl, no _ rfl⟩
    | tup hq _ =>
      cases rx
      obtain ⟨its, _, ⟨o, ho, hc, n, hdd⟩, _⟩ := I.tuple hq
      exact SeqAt.RcAt.tuple_str z t ⟨o, ho, hc, n, hdd⟩ hu0 _ _ _ _ ⟨.bl false, H, I, rfl, no _ rfl⟩
    | dic hq =>
      cases rx
      obtain ⟨_, o, n, ho, hc, hdd⟩ := not_sys I hq
      exact dict_rc z t ⟨o, ho, hc, hdd⟩ hu0 _ _ _ _ ⟨.bl false, H, I, rfl, no _ rfl⟩
/-! ### s.ljust(n, sign) -/
theorem mt_ljust3 {X : Cx} : MtR X "str.ljust" (fun x xs H Q => ∃ (a : Str) (i : Int) (f : Str), x = .str a ∧ xs = [.int i, .str f] ∧ PadOk i = true ∧ f.length = 1 ∧ Q (.str (Txt.ljustF a i (f.cps.getD 0 0))) H) := by
  intro pins s σ H x xs v us Q I rx rs h
  obtain ⟨a, i, f, rfl, rfl, hp, hf, q⟩ := h
  obtain ⟨t, rfl⟩ := rx
  cases rs with
  | cons r1 rs =>
    cases rs with
    | cons r2 rs =>
      cases rs
      obtain ⟨u1, rfl⟩ := r1
      obtain ⟨u2, rfl⟩ := r2
      exact PyProof.Rows.ljust_fill hp hf fun t1 k => ⟨.str (Txt.ljustF a i (f.cps.getD 0 0)), H, I.tok k, ⟨t1, rfl⟩, q⟩
end EL
/-! tuple(zip(a, b)) of two texts of one length: each pair handed out stays in hand. -/
namespace EL
open PySem PySem.Spec PyProof.Rows L2
section
variable {prog : Program} {w : World} {A : Around} {E : Value → Shared → Prop} {s : Shared} {z TI TO T i1 i2 : Addr} {fp1 fp2 : List Addr} {n1 n2 i : Nat} {P1 P2 : Nat → Value → Prop} {St1 St2 : Nat → Heap → Prop} {f : Bool} {oT : Obj}
theorem held_item {Q : Value → Shared → Prop} (S : ZipSep2 z TI TO i1 i2 fp1 fp2) (D1 : Draws prog w A i1 fp1 n1 P1 St1) (D2 : Draws prog w A i2 fp2 n2 P2 St2)
    (hz : IsZipHeld s.heap z TI TO T f) (hT : s.heap.get? T = some oT) (hTI : IsTupOf2 s.heap TI (.ref i1) (.ref i2)) (st1 : St1 i s.heap) (st2 : St2 i s.heap) (lt1 : i < n1) (lt2 : i < n2)
    (hQ : ∀ x1 x2 h' tk, P1 i x1 → P2 i x2 → IsZipHeld h' z TI TO T true → St1 (i + 1) h' → St2 (i + 1) h' → IsTupOf2 h' s.heap.objs.size x1 x2 → h'.objs.size = s.heap.objs.size + 1 →
      (∀ c o, c ≠ z → c ≠ i1 → c ≠ i2 → s.heap.get? c = some o → h'.get? c = some o) → Q (.ref s.heap.objs.size) { s with heap := h', toks := tk }) :
    wpAny (model prog w) A (Builtin.«zip.__next__» ⟨[.ref z], []⟩) (fun fin s' => ∃ v, fin = .done (.ret v) ∧ Q v s') E s := by
  obtain ⟨hp, g, d, tk0, os⟩ := s
  show wpAny _ _ (field (.ref z) 2 >>= _) _ _ _
  refine wpAny_bind (wpAny_field hz rfl (x := .bool false) rfl ?_)
  show wpAny _ _ (field (.ref z) 3 >>= _) _ _ _
  refine wpAny_bind (wpAny_field hz rfl (x := .ref TI) rfl ?_)
  refine wpAny_bind (wpAny_seqItems hTI rfl ?_)
  show wpAny _ _ (Builtin.SmallTypes.ownedTupleIsFree (.ref z) >>= _) _ _ _
  refine wpAny_bind (wpAny_tupleHeld_zip hz hT fun g1 z1 e1 => ?_)
  replace e1 : Heap.SameBut z hp g1 := e1
  simp only [Bool.false_eq_true, if_false]
  refine wpAny_bind ?_
  rw [← Array.forIn_toList]
  simp only [List.forIn_cons, List.forIn_nil]
  refine wpAny_bind (wpAny_bind (wpAny_holding ?_))
  show wpAny _ _ (Builtin.SmallTypes.nextOf (.ref i1) >>= _) _ _ ⟨g1, g, d, tk0, os⟩
  refine wpAny_bind (D1.item i _ _ _ lt1 (D1.over st1 e1 S.zf1) fun x1 g2 tk1 p1 s1 e2 => wpAny_pure ?_)
  replace e2 : Heap.SameBut i1 g1 g2 := e2
  refine wpAny_pure ?_
  refine wpAny_bind (wpAny_bind (wpAny_holding ?_))
  show wpAny _ _ (Builtin.SmallTypes.nextOf (.ref i2) >>= _) _ _ ⟨g2, g, d, tk1, os⟩
  refine wpAny_bind (D2.item i _ _ _ lt2 (D2.over (D2.over st2 e1 S.zf2) e2 S.sep1_2) fun x2 g3 tk2 p2 s2 e3 => wpAny_pure ?_)
  replace e3 : Heap.SameBut i2 g2 g3 := e3
  refine wpAny_pure (wpAny_pure ?_)
  show wpAny _ _ (newTuple [x1, x2] >>= _) _ _ _
  refine wpAny_bind (wpAny_newTuple ?_)
  have sz : g3.objs.size = hp.objs.size := by rw [e3.1, e2.1, e1.1]
  have z3 : IsZipHeld g3 z TI TO T true := e3.extBut _ _ S.zi2 (e2.extBut _ _ S.zi1 z1)
  have kp : ∀ c o, c ≠ z → c ≠ i1 → c ≠ i2 → hp.get? c = some o → g3.get? c = some o := fun c o c0 c1 c2 e => e3.extBut _ _ c2 (e2.extBut _ _ c1 (e1.extBut _ _ c0 e))
  have t1 : St1 (i + 1) g3 := D1.over s1 e3 S.sep2_1
  refine wpAny_pure ⟨_, rfl, ?_⟩
  show Q (.ref g3.objs.size) ⟨g3.push { cls := .type "tuple", data := .seq #[x1, x2] }, g, d, tk2, os⟩
  have hp1 : IsTupOf2 (g3.push { cls := .type "tuple", data := .seq #[x1, x2] }) g3.objs.size x1 x2 := Heap.get?_push_size _ rfl
  have hp2 : (g3.push { cls := .type "tuple", data := .seq #[x1, x2] }).objs.size = g3.objs.size + 1 := Heap.size_push ..
  rw [sz] at hp1 hp2 ⊢
  exact hQ x1 x2 _ tk2 p1 p2 (Heap.get?_push_of_some _ z3) (D1.frame _ _ _ t1 fun b _ o e => Heap.get?_push_of_some _ e) (D2.frame _ _ _ s2 fun b _ o e => Heap.get?_push_of_some _ e) hp1 hp2 fun c o c0 c1 c2 e => Heap.get?_push_of_some _ (kp c o c0 c1 c2 e)
/-- both have come to their ends -/
theorem held_end {Q : Fin → Shared → Prop} (S : ZipSep2 z TI TO i1 i2 fp1 fp2) (D1 : Draws prog w A i1 fp1 n1 P1 St1)
    (hz : IsZipHeld s.heap z TI TO T f) (hT : s.heap.get? T = some oT) (hTI : IsTupOf2 s.heap TI (.ref i1) (.ref i2)) (st1 : St1 n1 s.heap)
    (hE : ∀ h' e, (∀ c o, c ≠ z → c ≠ i1 → c ≠ i2 → s.heap.get? c = some o → h'.get? c = some o) → (∃ o, h'.get? e = some o ∧ o.cls = .type "StopIteration") → E (.ref e) { s with heap := h' }) :
    wpAny (model prog w) A (Builtin.«zip.__next__» ⟨[.ref z], []⟩) Q E s := by
  obtain ⟨hp, g, d, tk0, os⟩ := s
  show wpAny _ _ (field (.ref z) 2 >>= _) _ _ _
  refine wpAny_bind (wpAny_field hz rfl (x := .bool false) rfl ?_)
  show wpAny _ _ (field (.ref z) 3 >>= _) _ _ _
  refine wpAny_bind (wpAny_field hz rfl (x := .ref TI) rfl ?_)
  refine wpAny_bind (wpAny_seqItems hTI rfl ?_)
  show wpAny _ _ (Builtin.SmallTypes.ownedTupleIsFree (.ref z) >>= _) _ _ _
  refine wpAny_bind (wpAny_tupleHeld_zip hz hT fun g1 z1 e1 => ?_)
  replace e1 : Heap.SameBut z hp g1 := e1
  simp only [Bool.false_eq_true, if_false]
  refine wpAny_bind ?_
  rw [← Array.forIn_toList]
  simp only [List.forIn_cons, List.forIn_nil]
  refine wpAny_bind (wpAny_bind (wpAny_holding ?_))
  show wpAny _ _ (Builtin.SmallTypes.nextOf (.ref i1) >>= _) _ _ ⟨g1, g, d, tk0, os⟩
  refine wpAny_bind (D1.done ⟨g1, g, d, tk0, os⟩ _ _ (D1.over st1 e1 S.zf1) fun g2 e e2 he => ?_)
  replace e2 : Heap.ExtBut i1 g1 g2 := e2
  exact hE g2 e (fun c o c0 c1 _ x => e2 _ _ c1 (e1.extBut _ _ c0 x)) he
end
section
variable {prog : Program} {w : World} {A : Around} {E : Value → Shared → Prop} {s : Shared} {z TI TO T i1 i2 : Addr} {fp1 fp2 : List Addr} {n1 n2 i : Nat} {P1 P2 : Nat → Value → Prop} {St1 St2 : Nat → Heap → Prop} {f : Bool} {oT : Obj}
theorem next_held {Q : Option Value → Shared → Prop} (S : ZipSep2 z TI TO i1 i2 fp1 fp2) (D1 : Draws prog w A.in1 i1 fp1 n1 P1 St1) (D2 : Draws prog w A.in1 i2 fp2 n2 P2 St2)
    (hz : IsZipHeld s.heap z TI TO T f) (hT : s.heap.get? T = some oT) (hTI : IsTupOf2 s.heap TI (.ref i1) (.ref i2)) (st1 : St1 i s.heap) (st2 : St2 i s.heap) (lt1 : i < n1) (lt2 : i < n2)
    (hQ : ∀ x1 x2 h' tk, P1 i x1 → P2 i x2 → IsZipHeld h' z TI TO T true → St1 (i + 1) h' → St2 (i + 1) h' → IsTupOf2 h' s.heap.objs.size x1 x2 → h'.objs.size = s.heap.objs.size + 1 →
      (∀ c o, c ≠ z → c ≠ i1 → c ≠ i2 → s.heap.get? c = some o → h'.get? c = some o) → Q (some (.ref s.heap.objs.size)) { s with heap := h', toks := tk }) :
    wpAny (model prog w) A (pyNext (.ref z)) Q E s := by
  have ty : s.TypeIs (.ref z) "zip" := ⟨_, hz, rfl⟩
  unfold pyNext
  exact wpAny_bind (wpAny_attempt (wpAny_callSpecial?_slot (name := Str.ofString "__next__") ty PySem.F.slot_zip_next
    (wpAny_call_entry PySem.F.slot_zip_next ty PySem.F.entry_zip_next
      (held_item S D1 D2 hz hT hTI st1 st2 lt1 lt2 fun x1 x2 h' tk a b c d e f g k => wpAny_pure (hQ x1 x2 h' tk a b c d e f g k)) (PySem.F.args_zip_next_1 _))))
theorem next_held_end {Q : Option Value → Shared → Prop} (S : ZipSep2 z TI TO i1 i2 fp1 fp2) (D1 : Draws prog w A.in1 i1 fp1 n1 P1 St1)
    (hz : IsZipHeld s.heap z TI TO T f) (hT : s.heap.get? T = some oT) (hTI : IsTupOf2 s.heap TI (.ref i1) (.ref i2)) (st1 : St1 n1 s.heap)
    (hQ : ∀ h', (∀ c o, c ≠ z → c ≠ i1 → c ≠ i2 → s.heap.get? c = some o → h'.get? c = some o) → Q none { s with heap := h' }) : wpAny (model prog w) A (pyNext (.ref z)) Q E s := by
  have ty : s.TypeIs (.ref z) "zip" := ⟨_, hz, rfl⟩
  unfold pyNext
  refine wpAny_bind (wpAny_attempt (wpAny_callSpecial?_slot (name := Str.ofString "__next__") ty PySem.F.slot_zip_next
    (wpAny_call_entry PySem.F.slot_zip_next ty PySem.F.entry_zip_next (held_end S D1 hz hT hTI st1 fun h' e hk he => ?_) (PySem.F.args_zip_next_1 _))))
  obtain ⟨o, ho, hc⟩ := he
  refine wpAny_bind (wpAny_isInstance (T := "StopIteration") (b := true) ⟨o, ho, hc⟩ isSubtype_stop ?_)
  exact wpAny_pure (hQ _ hk)
end
end EL
namespace EL
open PySem PySem.Spec PyProof.Rows L2
/-- the items so far: pairs of signs, each a tuple of its own -/
def PairsAt (a b : Str) (acc : Array Value) (no : List Addr) (lo : Nat) (h : Heap) : Prop :=
  ∀ (j : Nat) (v : Value), acc[j]? = some v → ∃ (T : Addr) (c1 c2 : Nat) (t1 t2 : Tok), v = Value.ref T ∧ T ∉ no ∧ lo ≤ T ∧ IsTupOf2 h T (.str ⟨#[c1]⟩ t1) (.str ⟨#[c2]⟩ t2) ∧ a.cps[j]? = some c1 ∧ b.cps[j]? = some c2
theorem PairsAt.keep {a b : Str} {acc : Array Value} {no : List Addr} {lo : Nat} {h h' : Heap} (x : PairsAt a b acc no lo h) (k : ∀ c o, c ∉ no → h.get? c = some o → h'.get? c = some o) : PairsAt a b acc no lo h' := fun j v e => by
  obtain ⟨T, c1, c2, t1, t2, e1, e2, e0, e3, e4⟩ := x j v e
  exact ⟨T, c1, c2, t1, t2, e1, e2, e0, k T _ e2 e3, e4⟩
/-- the zip, its cells, the list that is filled -/
structure ZS (z TI TO i1 i2 S : Addr) (a b : Str) (ta tb : Tok) (h0 : Heap) (i : Nat) (acc : Array Value) (h : Heap) : Prop where
  zip : (i = 0 ∧ IsZip h z TI TO .none) ∨ ∃ T f oT, IsZipHeld h z TI TO T f ∧ h.get? T = some oT ∧ T ∉ [z, TO, i1, i2, S]
  ti : IsTupOf2 h TI (.ref i1) (.ref i2)
  tot : ∃ a1 a2, IsTupOf2 h TO a1 a2
  s1 : h.IsStrIter i1 (strIterType a) a ta i
  s2 : h.IsStrIter i2 (strIterType b) b tb i
  lst : ∃ c, h.get? S = some { cls := .type "list", dict := none, data := .seq acc c, slots := #[] }
  size : acc.size = i
  its : PairsAt a b acc [z, TO, i1, i2, S] h0.objs.size h
  old : ∀ c o, h0.get? c = some o → h.get? c = some o
section
variable {prog : Program} {w : World} {A : Around} {z TI TO i1 i2 S : Addr} {a b : Str} {ta tb : Tok} {h0 : Heap}
theorem zs_step {i : Nat} {acc : Array Value} {h h' : Heap} {T T0 : Addr} {c1 c2 : Nat} {t1 t2 : Tok} {f : Bool} (Z : ZS z TI TO i1 i2 S a b ta tb h0 i acc h) (sep : ZipSep2 z TI TO i1 i2 [i1] [i2]) (hS : S ∉ [z, TI, TO, i1, i2]) (hn : ∀ c ∈ [z, TI, TO, i1, i2, S], h0.objs.size ≤ c) (hT : h.objs.size ≤ T)
    (hz : IsZipHeld h' z TI TO T0 f) (hT0 : T0 = T ∨ (∃ o, h.get? T0 = some o) ∧ T0 ∉ [z, TO, i1, i2, S]) (tot : ∃ a1 a2, IsTupOf2 h' TO a1 a2) (n1 : h'.IsStrIter i1 (strIterType a) a ta (i + 1)) (n2 : h'.IsStrIter i2 (strIterType b) b tb (i + 1)) (nt : IsTupOf2 h' T (.str ⟨#[c1]⟩ t1) (.str ⟨#[c2]⟩ t2))
    (e1 : a.cps[i]? = some c1) (e2 : b.cps[i]? = some c2) (k : ∀ c o, c ≠ z → c ≠ TO → c ≠ i1 → c ≠ i2 → h.get? c = some o → h'.get? c = some o) :
    (∃ c, h'.get? S = some { cls := .type "list", dict := none, data := .seq acc c, slots := #[] }) ∧ ∀ h'' : Heap, (∃ c, h''.get? S = some { cls := .type "list", dict := none, data := .seq (acc.push (.ref T)) c, slots := #[] }) →
      (∀ c o, c ≠ S → h'.get? c = some o → h''.get? c = some o) → ZS z TI TO i1 i2 S a b ta tb h0 (i + 1) (acc.push (.ref T)) h'' := by
  simp only [List.mem_cons, List.not_mem_nil, or_false, not_or] at hS
  obtain ⟨hS1, hS2, hS3, hS4, hS5⟩ := hS
  obtain ⟨cS, lS⟩ := Z.lst
  have lt : ∀ {c o}, h.get? c = some o → T ≠ c := fun e q => by subst q; exact absurd (Heap.lt_size e) (Nat.not_lt.mpr hT)
  obtain ⟨o1, ho1, _⟩ := Z.s1
  obtain ⟨o2, ho2, _⟩ := Z.s2
  obtain ⟨y1, y2, hto⟩ := Z.tot
  have zin : ∃ o, h.get? z = some o := by
    rcases Z.zip with ⟨_, q⟩ | ⟨_, _, _, q, _⟩ <;> exact ⟨_, q⟩
  obtain ⟨oz, hoz⟩ := zin
  have Tn : T ∉ [z, TO, i1, i2, S] := by
    simp only [List.mem_cons, List.not_mem_nil, or_false, not_or]
    exact ⟨lt hoz, lt hto, lt ho1, lt ho2, lt lS⟩
  have TS : T ≠ S := lt lS
  refine ⟨⟨cS, k S _ hS1 hS3 hS4 hS5 lS⟩, fun h'' l'' k'' => ?_⟩
  have kk : ∀ c o, c ∉ [z, TO, i1, i2, S] → h.get? c = some o → h''.get? c = some o := fun c o hc e => by
    simp only [List.mem_cons, List.not_mem_nil, or_false, not_or] at hc
    exact k'' c o hc.2.2.2.2 (k c o hc.1 hc.2.1 hc.2.2.1 hc.2.2.2.1 e)
  have held : ∃ T f oT, IsZipHeld h'' z TI TO T f ∧ h''.get? T = some oT ∧ T ∉ [z, TO, i1, i2, S] := by
    rcases hT0 with e | ⟨⟨o, e⟩, m⟩
    · subst e
      exact ⟨T0, f, _, k'' z _ (Ne.symm hS1) hz, k'' T0 _ TS nt, Tn⟩
    · exact ⟨T0, f, _, k'' z _ (Ne.symm hS1) hz, kk T0 o m e, m⟩
  refine ⟨.inr held, k'' TI _ (Ne.symm hS2) (k TI _ sep.TIz sep.TITO sep.TIi1 sep.TIi2 Z.ti), ?_, ?_, ?_, l'', ?_, ?_, fun c o e => ?_⟩
  · obtain ⟨a1, a2, q⟩ := tot
    exact ⟨a1, a2, k'' TO _ (Ne.symm hS3) q⟩
  · obtain ⟨o, q, r⟩ := n1
    exact ⟨o, k'' i1 _ (Ne.symm hS4) q, r⟩
  · obtain ⟨o, q, r⟩ := n2
    exact ⟨o, k'' i2 _ (Ne.symm hS5) q, r⟩
  · rw [Array.size_push, Z.size]
  · intro j v e
    rw [Array.getElem?_push] at e
    split at e
    · rename_i q
      rw [Z.size] at q
      obtain rfl := Option.some.inj e
      subst q
      exact ⟨T, c1, c2, t1, t2, rfl, Tn, Nat.le_trans (Nat.le_trans (hn z List.mem_cons_self) (Nat.le_of_lt (Heap.lt_size hoz))) hT, k'' T _ TS nt, e1, e2⟩
    · exact (Z.its.keep kk) j v e
  · refine kk c o (fun m => ?_) (Z.old c o e)
    have q := hn c (by simp only [List.mem_cons, List.not_mem_nil, or_false] at m ⊢; rcases m with m | m | m | m | m <;> simp [m])
    exact absurd (Heap.lt_size e) (Nat.not_lt.mpr q)
theorem zip_loop {R : Result → Shared → Prop} {n : Nat} {res : Value} (hh : A.handled = none) (ha : a.cps.size = n) (hb : b.cps.size = n) (hn : n < sizeLine) (sep : ZipSep2 z TI TO i1 i2 [i1] [i2]) (hS : S ∉ [z, TI, TO, i1, i2]) (hn0 : ∀ c ∈ [z, TI, TO, i1, i2, S], h0.objs.size ≤ c) :
    ∀ (k i : Nat) (s : Shared) (acc : Array Value), n - i = k → i ≤ n → ZS z TI TO i1 i2 S a b ta tb h0 i acc s.heap →
      (∀ acc' h' tk, acc'.size = n → PairsAt a b acc' [z, TO, i1, i2, S] h0.objs.size h' → (∃ c, h'.get? S = some { cls := .type "list", dict := none, data := .seq acc' c, slots := #[] }) → (∀ c o, h0.get? c = some o → h'.get? c = some o) → R (.ok (.ret res)) { s with heap := h', toks := tk }) →
      codeAny (model prog w) A (.builtin "list.extend.loop" ⟨[.ref S, .ref z, res], []⟩) R s := by
  have D1 : Draws prog w A.in1.in1 i1 [i1] a.cps.size _ _ := Draws.text (A := A.in1.in1) hh i1 a ta
  have D2 : Draws prog w A.in1.in1 i2 [i2] b.cps.size _ _ := Draws.text (A := A.in1.in1) hh i2 b tb
  rw [ha] at D1
  rw [hb] at D2
  have hS' := hS
  simp only [List.mem_cons, List.not_mem_nil, or_false, not_or] at hS'
  obtain ⟨hS1, hS2, hS3, hS4, hS5⟩ := hS'
  intro k
  induction k with
  | zero =>
    intro i s acc hk hi Z hR
    have hin : i = n := by omega
    subst hin
    refine codeAny_builtin PySem.F.entry_extend_loop ?_
    rw [Around.under_plainId PySem.F.plain_extend_loop _]
    show wpAny _ A.in1 (pyNext (.ref z) >>= _) _ _ s
    have fin : ∀ h' tk, (∀ c o, c ≠ z → c ≠ TO → c ≠ i1 → c ≠ i2 → s.heap.get? c = some o → h'.get? c = some o) → R (.ok (.ret res)) { s with heap := h', toks := tk } := fun h' tk kp => by
      have kk : ∀ c o, c ∉ [z, TO, i1, i2, S] → s.heap.get? c = some o → h'.get? c = some o := fun c o hc e => by
        simp only [List.mem_cons, List.not_mem_nil, or_false, not_or] at hc
        exact kp c o hc.1 hc.2.1 hc.2.2.1 hc.2.2.2.1 e
      obtain ⟨cS, lS⟩ := Z.lst
      refine hR acc h' tk Z.size (Z.its.keep kk) ⟨cS, kp S _ hS1 hS3 hS4 hS5 lS⟩ fun c o e => kk c o (fun m => ?_) (Z.old c o e)
      have q := hn0 c (by simp only [List.mem_cons, List.not_mem_nil, or_false] at m ⊢; rcases m with m | m | m | m | m <;> simp [m])
      exact absurd (Heap.lt_size e) (Nat.not_lt.mpr q)
    rcases Z.zip with ⟨_, hz⟩ | ⟨T, f, oT, hz, hT, hTn⟩
    · obtain ⟨y1, y2, hto⟩ := Z.tot
      exact wpAny_bind (wpAny_pyNext_zipD2_end sep D1 D2 hz Z.ti hto Z.s1 Z.s2 (Nat.le_refl _) (Nat.le_refl _) (.inl rfl) fun h' tk kp => wpAny_pure (fin h' tk kp))
    · exact wpAny_bind (next_held_end sep D1 hz hT Z.ti Z.s1 fun h' kp => wpAny_pure (fin h' s.toks fun c o c0 _ c1 c2 e => kp c o c0 c1 c2 e))
  | succ k ih =>
    intro i s acc hk hi Z hR
    have hlt : i < n := by omega
    refine codeAny_builtin PySem.F.entry_extend_loop ?_
    rw [Around.under_plainId PySem.F.plain_extend_loop _]
    show wpAny _ A.in1 (pyNext (.ref z) >>= _) _ _ s
    have step : ∀ x1 x2 h' tk f T0, (T0 = s.heap.objs.size ∨ (∃ o, s.heap.get? T0 = some o) ∧ T0 ∉ [z, TO, i1, i2, S]) → (∃ c u, a.cps[i]? = some c ∧ x1 = .str ⟨#[c]⟩ u) → (∃ c u, b.cps[i]? = some c ∧ x2 = .str ⟨#[c]⟩ u) → IsZipHeld h' z TI TO T0 f → (∃ a1 a2, IsTupOf2 h' TO a1 a2) →
        h'.IsStrIter i1 (strIterType a) a ta (i + 1) → h'.IsStrIter i2 (strIterType b) b tb (i + 1) → IsTupOf2 h' s.heap.objs.size x1 x2 → (∀ c o, c ≠ z → c ≠ TO → c ≠ i1 → c ≠ i2 → s.heap.get? c = some o → h'.get? c = some o) →
        wpAny (model prog w) A.in1 (updateSeq S (·.push (.ref s.heap.objs.size)) >>= fun _ => again (.builtin "list.extend.loop" ⟨[.ref S, .ref z, res], []⟩)) (fun fin s' => match fin with | .done f => R (.ok f) s' | .again c' => c'.quiet = true ∧ codeAny (model prog w) A c' R s') (fun e s' => R (.error e) s') { s with heap := h', toks := tk } := by
      rintro x1 x2 h' tk f T0 hT0 ⟨c1, t1, e1, rfl⟩ ⟨c2, t2, e2, rfl⟩ hz tot n1 n2 nt kp
      obtain ⟨⟨cS, lS⟩, next⟩ := zs_step Z sep hS hn0 (Nat.le_refl _) hz hT0 tot n1 n2 nt e1 e2 kp
      refine wpAny_bind (wpAny_updateSeq (s := { s with heap := h', toks := tk }) lS rfl (wpAny_pure ⟨plainId_quiet PySem.F.plain_extend_loop _, ?_⟩) (by rw [Z.size]; omega) (by show (acc.push _).size ≤ sizeLine + 1; rw [Array.size_push, Z.size]; omega))
      refine ih (i + 1) _ (acc.push (.ref s.heap.objs.size)) (by omega) hlt (next _ ⟨_, Heap.get?_update_self _ lS rfl⟩ fun c o hc e => (Heap.get?_update_other _ _ (Ne.symm hc)).trans e) fun acc' h2 tk2 y1 y2 y3 y4 => hR acc' h2 tk2 y1 y2 y3 y4
    rcases Z.zip with ⟨_, hz⟩ | ⟨T, f, oT, hz, hT, hTn⟩
    · obtain ⟨y1, y2, hto⟩ := Z.tot
      exact wpAny_bind (wpAny_pyNext_zipD2_item sep D1 D2 hz Z.ti hto Z.s1 Z.s2 hlt hlt fun x1 x2 h' tk p1 p2 q1 q2 q3 q4 q5 _ kp => step x1 x2 h' tk false _ (.inl rfl) p1 p2 q1 ⟨_, _, q2⟩ q3 q4 q5 kp)
    · obtain ⟨y1, y2, hto⟩ := Z.tot
      have zTO := sep.TOz
      exact wpAny_bind (next_held sep D1 D2 hz hT Z.ti Z.s1 Z.s2 hlt hlt fun x1 x2 h' tk p1 p2 q1 q3 q4 q5 _ kp => step x1 x2 h' tk true T (.inr ⟨⟨_, hT⟩, hTn⟩) p1 p2 q1 ⟨_, _, kp TO _ sep.TOz sep.Ti1 sep.Ti2 hto⟩ q3 q4 q5 fun c o c0 _ c1 c2 e => kp c o c0 c1 c2 e)
end
end EL
namespace EL
open PySem PySem.Spec PyProof.Rows L2
theorem zip_len_none : typeLookup (.type "zip") "__len__" = pure none := by rw [typeLookup_type, builtinLookup_eq_fast]; kernel_rfl
theorem zip_hint_none : typeLookup (.type "zip") "__length_hint__" = pure none := by rw [typeLookup_type, builtinLookup_eq_fast]; kernel_rfl
/-- a zip of two texts that was just made over h0 -/
structure ZNew (z TI TO i1 i2 : Addr) (a b : Str) (ta tb : Tok) (h0 h : Heap) : Prop where
  zip : IsZip h z TI TO .none
  ti : IsTupOf2 h TI (.ref i1) (.ref i2)
  tot : IsTupOf2 h TO .none .none
  s1 : h.IsStrIter i1 (strIterType a) a ta 0
  s2 : h.IsStrIter i2 (strIterType b) b tb 0
  old : ∀ c o, h0.get? c = some o → h.get? c = some o
  new : ∀ c ∈ [z, TI, TO, i1, i2], h0.objs.size ≤ c
  le : h0.objs.size ≤ h.objs.size
section
variable {prog : Program} {w : World} {A : Around} {E : Value → Shared → Prop} {s : Shared} {z TI TO i1 i2 : Addr} {a b : Str} {ta tb : Tok} {h0 : Heap} {n : Nat}
theorem collect_zip {Q : List Value → Shared → Prop} (hh : A.handled = none) (ha : a.cps.size = n) (hb : b.cps.size = n) (hn : n < sizeLine) (sep : ZipSep2 z TI TO i1 i2 [i1] [i2]) (Z : ZNew z TI TO i1 i2 a b ta tb h0 s.heap)
    (hQ : ∀ (h' : Heap) (tk : Nat) (acc : Array Value), acc.size = n → (∃ no, PairsAt a b acc no h0.objs.size h') → (∀ c o, h0.get? c = some o → h'.get? c = some o) → h0.objs.size ≤ h'.objs.size → Q acc.toList { s with heap := h', toks := tk }) :
    wpAny (model prog w) A (collect (.ref z)) Q E s := by
  obtain ⟨o1, ho1, r1⟩ := Z.s1
  obtain ⟨o2, ho2, r2⟩ := Z.s2
  have nS : ∀ {c o}, s.heap.get? c = some o → s.heap.objs.size ≠ c := fun e => Nat.ne_of_gt (Heap.lt_size e)
  have hSz := nS Z.zip
  have hSm : s.heap.objs.size ∉ [z, TI, TO, i1, i2] := by
    simp only [List.mem_cons, List.not_mem_nil, or_false, not_or]
    exact ⟨nS Z.zip, nS Z.ti, nS Z.tot, nS ho1, nS ho2⟩
  unfold collect
  refine wpAny_bind (wpAny_runValue (codeAny_builtin PySem.F.entry_proto_collect ?_))
  rw [Around.under_plainId PySem.F.plain_proto_collect _]
  show wpAny _ A.in1 (newList [] >>= fun l => again (.builtin "list.__iadd__" ⟨[l, .ref z], []⟩)) _ _ s
  refine wpAny_bind (wpAny_newObj_type ?_)
  refine wpAny_pure ⟨plainId_quiet PySem.F.plain_list_iadd _, codeAny_builtin PySem.F.entry_list_iadd ?_⟩
  rw [Around.under_plainId PySem.F.plain_list_iadd _]
  generalize hG : s.heap.push { cls := .type "list", data := .seq ([] : List Value).toArray } = G
  have up : ∀ c o, s.heap.get? c = some o → G.get? c = some o := fun c o e => by rw [← hG]; exact Heap.get?_push_of_some _ e
  have lS : G.get? s.heap.objs.size = some { cls := .type "list", data := .seq ([] : List Value).toArray } := by rw [← hG]; exact Heap.get?_push_size _ rfl
  have ty : ({ s with heap := G } : Shared).TypeIs (.ref z) "zip" := ⟨_, up _ _ Z.zip, rfl⟩
  show wpAny _ A.in1 (Builtin.List.listExtendWith (.ref s.heap.objs.size) (.ref z) (.ref s.heap.objs.size)) _ _ _
  unfold Builtin.List.listExtendWith
  refine wpAny_bind (wpAny_typeOf ty ?_)
  have c1 : Builtin.List.listSameRef (.ref s.heap.objs.size) (.ref z) = false := by simp [Builtin.List.listSameRef, hSz]
  have c2 : (Value.type "zip" == Value.type "list") = false := by decide
  have c3 : (Value.type "zip" == Value.type "tuple") = false := by decide
  simp only [c1, c2, c3, Bool.or_false, Bool.false_eq_true, if_false]
  refine wpAny_bind (wpAny_pyIter_zip (s := { s with heap := G }) (up _ _ Z.zip) ?_)
  refine wpAny_bind (wpAny_holding ?_)
  unfold Builtin.List.listLengthHint
  refine wpAny_bind (wpAny_specialOf ty zip_len_none ?_)
  show wpAny _ A.in1 (specialOf (Value.ref z) (Str.ofString "__length_hint__") >>= _) _ _ _
  refine wpAny_bind (wpAny_specialOf ty zip_hint_none ?_)
  refine wpAny_pure ?_
  show wpAny _ A.in1 (rule "list.extend.makes-room" >>= fun _ => Builtin.List.listTouch (.ref s.heap.objs.size) >>= fun _ =>
    again (.builtin "list.extend.loop" ⟨[.ref s.heap.objs.size, .ref z, .ref s.heap.objs.size], []⟩)) _ _ _
  refine wpAny_bind (wpAny_rule (wpAny_bind ?_))
  show wpAny _ A.in1 (updateSeq s.heap.objs.size (·.push .none) >>= fun _ => updateSeq s.heap.objs.size (·.pop)) _ _ _
  refine wpAny_bind (wpAny_updateSeq lS rfl ?_)
  have l2 := Heap.get?_update_self (Obj.mapSeq (·.push Value.none)) lS rfl
  refine wpAny_updateSeq l2 rfl ?_
  have l3 := Heap.get?_update_self (Obj.mapSeq (·.pop)) l2 rfl
  generalize hK : (G.update s.heap.objs.size (Obj.mapSeq (·.push Value.none))).update s.heap.objs.size (Obj.mapSeq (·.pop)) = L at l3
  have oth : ∀ c o, s.heap.get? c = some o → L.get? c = some o := fun c o e => by
    rw [← hK]
    exact (Heap.get?_update_other _ _ (nS e)).trans ((Heap.get?_update_other _ _ (nS e)).trans (up c o e))
  have zs : ZS z TI TO i1 i2 s.heap.objs.size a b ta tb h0 0 #[] L := ⟨.inl ⟨rfl, oth _ _ Z.zip⟩, oth _ _ Z.ti, ⟨_, _, oth _ _ Z.tot⟩, ⟨o1, oth _ _ ho1, r1⟩, ⟨o2, oth _ _ ho2, r2⟩, ⟨_, l3⟩, rfl, fun j v e => by simp at e, fun c o e => oth c o (Z.old c o e)⟩
  refine wpAny_pure ⟨plainId_quiet PySem.F.plain_extend_loop _, zip_loop hh ha hb hn sep hSm (fun c m => ?_) n 0 _ #[] rfl (Nat.zero_le _) zs fun acc h' tk y1 y2 y3 y4 => ?_⟩
  · simp only [List.mem_cons, List.not_mem_nil, or_false] at m
    rcases m with m | m | m | m | m | m
    · exact Z.new c (by simp [m])
    · exact Z.new c (by simp [m])
    · exact Z.new c (by simp [m])
    · exact Z.new c (by simp [m])
    · exact Z.new c (by simp [m])
    · rw [m]; exact Z.le
  · obtain ⟨cS, y3⟩ := y3
    show wpAny _ A (load s.heap.objs.size >>= _) _ _ _
    refine wpAny_bind (wpAny_load y3 ?_)
    exact wpAny_pure (hQ h' tk acc y1 ⟨_, y2⟩ y4 (Nat.le_trans Z.le (Nat.le_of_lt (Heap.lt_size y3))))
theorem tuple_new_zip {Q₁ : Value → Shared → Prop} (hh : A.handled = none) (ha : a.cps.size = n) (hb : b.cps.size = n) (hn : n < sizeLine) (sep : ZipSep2 z TI TO i1 i2 [i1] [i2]) (Z : ZNew z TI TO i1 i2 a b ta tb h0 s.heap)
    (h : ∀ (h' : Heap) (tk : Nat) (acc : Array Value), acc.size = n → (∃ no, PairsAt a b acc no h0.objs.size h') → (∀ c o, h0.get? c = some o → h'.get? c = some o) → h0.objs.size ≤ h'.objs.size →
      Q₁ (.ref h'.objs.size) { s with heap := h'.push { cls := .type "tuple", data := .seq acc }, toks := tk }) :
    codeAny (model prog w) A (.call (.builtin "tuple.__new__") ⟨[.type "tuple", .ref z], []⟩) (wants Q₁ E) s := by
  refine codeAny_of_tree ?_
  show wpAny _ A.in1 (do checkBuiltinCall "tuple.__new__" ⟨[.type "tuple", .ref z], []⟩; again (.builtin "tuple.__new__" ⟨[.type "tuple", .ref z], []⟩)) _ _ s
  refine wpAny_bind (wpAny_of_eq (PySem.F.newCall_tuple_1 _) (wpAny_pure ⟨plainId_quiet PySem.F.plain_tuple_new _, codeAny_builtin PySem.F.entry_tuple_new ?_⟩))
  rw [Around.under_plainId PySem.F.plain_tuple_new _]
  have f1 := sub_tuple_self
  have f2 := init_tuple_lookup
  have f3 := madeHere_tuple
  have ty : s.TypeIs (.ref z) "zip" := ⟨_, Z.zip, rfl⟩
  have hh1 : A.in1.handled = none := hh
  wp_walk using wpAny_typeOf ty, collect_zip (A := A.in1) hh1 ha hb hn sep Z
  intro h' tk acc y1 y2 y3 y4
  show wpAny _ _ (Builtin.Tuple.tupleExact acc.toList.toArray >>= fun v => ret v) _ _ _
  unfold Builtin.Tuple.tupleExact
  refine wpAny_bind (wpAny_newObj_type ?_ (by show acc.toList.toArray.size ≤ sizeLine; simp only [Array.toArray_toList]; rw [y1]; omega))
  refine wpAny_pure ?_
  have e : acc.toList.toArray = acc := by simp
  rw [e]
  exact h h' tk acc y1 y2 y3 y4
theorem call_tuple_zip {Q : Value → Shared → Prop} (hh : A.handled = none) (ha : a.cps.size = n) (hb : b.cps.size = n) (hn : n < sizeLine) (sep : ZipSep2 z TI TO i1 i2 [i1] [i2]) (Z : ZNew z TI TO i1 i2 a b ta tb h0 s.heap)
    (hQ : ∀ (h' : Heap) (tk : Nat) (acc : Array Value), acc.size = n → (∃ no, PairsAt a b acc no h0.objs.size h') → (∀ c o, h0.get? c = some o → h'.get? c = some o) → h0.objs.size ≤ h'.objs.size →
      Q (.ref h'.objs.size) { s with heap := h'.push { cls := .type "tuple", data := .seq acc }, toks := tk }) :
    wpAny (model prog w) A (call (.type "tuple") [.ref z]) Q E s := by
  refine callType_codes (Q₁ := fun obj s₁ => s₁.TypeIs obj "tuple" ∧ Q obj s₁) PySem.F.called_tuple (PySem.F.typeCall_tuple_1 _) PySem.F.entry_object_init
    (tuple_new_zip (A := A.in1) hh ha hb hn sep Z fun h' tk acc y1 y2 y3 y4 => ⟨⟨_, Heap.get?_push_size _ rfl, rfl⟩, hQ h' tk acc y1 y2 y3 y4⟩) fun obj s₁ h₁ => ?_
  exact ⟨h₁.1, PySem.F.args_object_init_2 obj _, object_init_meets PySem.F.called_tuple.init.lookup PySem.F.called_tuple.made (by decide) prog w A.in1 _ s₁ ⟨h₁.1, rfl, h₁.2⟩⟩
end

/-! ### the rule -/
open Classical in
/-- what is tracked of a new pair of signs -/
noncomputable def pairHO (h : Heap) (c : Addr) : Option HO :=
  if x : ∃ q : Nat × Nat × Tok × Tok, IsTupOf2 h c (.str ⟨#[q.1]⟩ q.2.2.1) (.str ⟨#[q.2.1]⟩ q.2.2.2) then some (.tup [.str ⟨#[(Classical.choose x).1]⟩, .str ⟨#[(Classical.choose x).2.1]⟩]) else none
theorem pairHO_at {h : Heap} {c : Addr} {c1 c2 : Nat} {t1 t2 : Tok} (e : IsTupOf2 h c (.str ⟨#[c1]⟩ t1) (.str ⟨#[c2]⟩ t2)) : pairHO h c = some (.tup [.str ⟨#[c1]⟩, .str ⟨#[c2]⟩]) := by
  have x : ∃ q : Nat × Nat × Tok × Tok, IsTupOf2 h c (.str ⟨#[q.1]⟩ q.2.2.1) (.str ⟨#[q.2.1]⟩ q.2.2.2) := ⟨(c1, c2, t1, t2), e⟩
  have sp := Classical.choose_spec x
  unfold pairHO
  rw [dif_pos x]
  generalize Classical.choose x = q at sp
  have e2 : some ({ cls := .type "tuple", data := .seq #[Value.str ⟨#[c1]⟩ t1, Value.str ⟨#[c2]⟩ t2] } : Obj) = some { cls := .type "tuple", data := .seq #[Value.str ⟨#[q.1]⟩ q.2.2.1, Value.str ⟨#[q.2.1]⟩ q.2.2.2] } := e.symm.trans sp
  simp only [Option.some.injEq, Obj.mk.injEq, Data.seq.injEq, Array.mk.injEq, List.cons.injEq, Value.str.injEq, Str.mk.injEq, and_true, true_and] at e2
  obtain ⟨⟨e3, _⟩, e4, _⟩ := e2
  rw [e3, e4]
theorem pairHO_ok {P : Program} {w : World} {H : Hp} {h : Heap} {c : Addr} {o : HO} (e : pairHO h c = some o) : ObjOk P w H h c o := by
  unfold pairHO at e
  split at e
  · rename_i x
    have sp := Classical.choose_spec x
    generalize Classical.choose x = q at sp e
    obtain rfl := Option.some.inj e
    exact ⟨len_sz (by show 2 ≤ 1000000; decide), [.str ⟨#[q.1]⟩ q.2.2.1, .str ⟨#[q.2.1]⟩ q.2.2.2], .cons ⟨_, rfl⟩ (.cons ⟨_, rfl⟩ .nil), ⟨_, sp, rfl, _, rfl⟩⟩
  · cases e
/-- the pairs of two texts, sign beside sign -/
def pairsD : List Nat → List Nat → List PyData
  | c :: r, d :: q => .tuple [.str ⟨#[c]⟩, .str ⟨#[d]⟩] :: pairsD r q
  | _, _ => []
theorem pairsD_get : ∀ (xs ys : List Nat) (i : Nat) (c d : Nat), xs[i]? = some c → ys[i]? = some d → (pairsD xs ys)[i]? = some (.tuple [.str ⟨#[c]⟩, .str ⟨#[d]⟩])
  | [], _, _, _, _, h, _ => by simp at h
  | _ :: _, [], _, _, _, _, h => by simp at h
  | x :: xs, y :: ys, 0, c, d, h1, h2 => by
    simp at h1 h2; subst h1 h2; rfl
  | x :: xs, y :: ys, i + 1, c, d, h1, h2 => pairsD_get xs ys i c d (by simpa using h1) (by simpa using h2)
theorem pairsD_len : ∀ xs ys : List Nat, xs.length = ys.length → (pairsD xs ys).length = xs.length
  | [], [], _ => rfl
  | [], _ :: _, h => by simp at h
  | _ :: _, [], h => by simp at h
  | x :: xs, y :: ys, h => by
    show (pairsD xs ys).length + 1 = xs.length + 1
    rw [pairsD_len xs ys (by simpa using h)]
theorem dqAll_of {K : PySem.W.Frag} {H : Hp} : ∀ {vs : List V} {ds : List PyData}, vs.length = ds.length → (∀ (i : Nat) (v : V) (d : PyData), vs[i]? = some v → ds[i]? = some d → Dq K H v d) → DqAll K H vs ds
  | [], [], _, _ => .nil
  | [], _ :: _, h, _ => by simp at h
  | _ :: _, [], h, _ => by simp at h
  | v :: vs, d :: ds, h, f => .cons (f 0 v d rfl rfl) (dqAll_of (by simpa using h) fun i v' d' h1 h2 => f (i + 1) v' d' (by simpa using h1) (by simpa using h2))
def tTZ (K : PySem.W.Frag) (ta tb : TE) : TE := fun σ H Q => ta σ H fun x H1 => tb σ H1 fun y H2 => ∃ a b : Str, x = .str a ∧ y = .str b ∧ a.cps.size = b.cps.size ∧ a.cps.size ≤ 1000000 ∧
  ∀ p H3, Same H2 H3 → Dq K H3 (.ref p) (.tuple (pairsD a.cps.toList b.cps.toList)) → Q (.ref p) H3
section
variable {X : Cx} {pins : List (Addr × Obj)} {σ : L2.St} {H : Hp} {s : Shared}
theorem track_pairs {a b : Str} {no : List Addr} {acc : Array Value} {h' : Heap} {tk : Nat} (I : Inv X pins σ H s) (hab : a.cps.size = b.cps.size) (hl : a.cps.size ≤ 1000000) (hacc : acc.size = a.cps.size) (pa : PairsAt a b acc no s.heap.objs.size h')
    (old : ∀ c o, s.heap.get? c = some o → h'.get? c = some o) (le : s.heap.objs.size ≤ h'.objs.size) :
    ∃ H3, Same H H3 ∧ Dq X.K H3 (.ref h'.objs.size) (.tuple (pairsD a.cps.toList b.cps.toList)) ∧ Inv X pins σ H3 { s with heap := h'.push { cls := .type "tuple", data := .seq acc }, toks := tk } := by
  generalize hG : h'.push { cls := .type "tuple", data := .seq acc } = G
  have up : ∀ c o, h'.get? c = some o → G.get? c = some o := fun c o e => by rw [← hG]; exact Heap.get?_push_of_some _ e
  have gp : G.get? h'.objs.size = some { cls := .type "tuple", data := .seq acc } := by rw [← hG]; exact Heap.get?_push_size _ rfl
  have old2 : ∀ c o, s.heap.get? c = some o → G.get? c = some o := fun c o e => up c o (old c o e)
  have lenA : acc.size = (pairsD a.cps.toList b.cps.toList).length := by
    rw [pairsD_len _ _ (by rw [Array.length_toList, Array.length_toList]; exact hab), Array.length_toList]; exact hacc
  obtain ⟨vs, hv⟩ : ∃ vs : List V, Vals vs acc.toList := by
    have key : ∀ l : List Value, (∀ v ∈ l, ∃ T, v = Value.ref T) → ∃ vs : List V, Vals vs l := by
      intro l
      induction l with
      | nil => exact fun _ => ⟨[], .nil⟩
      | cons v l ih =>
        intro f
        obtain ⟨T, e⟩ := f v List.mem_cons_self
        obtain ⟨vs, q⟩ := ih fun v hv => f v (List.mem_cons_of_mem _ hv)
        exact ⟨.ref T :: vs, .cons e q⟩
    refine key _ fun v hm => ?_
    obtain ⟨j, hj⟩ := List.mem_iff_getElem?.mp hm
    obtain ⟨T, _, _, _, _, e, _⟩ := pa j v (by rw [← Array.getElem?_toList]; exact hj)
    exact ⟨T, e⟩
  have lenV : vs.length = acc.size := by rw [hv.length, Array.length_toList]
  let H3 : Hp := fun c => if c < s.heap.objs.size then H c else if c = h'.objs.size then some (.tup vs) else pairHO h' c
  have lo : ∀ c, c < s.heap.objs.size → H3 c = H c := fun c q => if_pos q
  have hp : H3 h'.objs.size = some (.tup vs) := by
    show (if _ then _ else _) = _
    rw [if_neg (Nat.not_lt.mpr le), if_pos rfl]
  have hpair : ∀ T c1 c2 t1 t2, s.heap.objs.size ≤ T → IsTupOf2 h' T (.str ⟨#[c1]⟩ t1) (.str ⟨#[c2]⟩ t2) → H3 T = some (.tup [.str ⟨#[c1]⟩, .str ⟨#[c2]⟩]) := fun T c1 c2 t1 t2 q e => by
    show (if _ then _ else _) = _
    rw [if_neg (Nat.not_lt.mpr q), if_neg (Nat.ne_of_lt (Heap.lt_size e))]
    exact pairHO_at e
  have sm : Same H H3 := fun c o e => by rw [lo c (I.hok.lt e)]; exact e
  have ok : HOk X.prog X.w H3 G := by
    intro c o e
    by_cases q : c < s.heap.objs.size
    · rw [lo c q] at e
      exact (I.hok c o e).stay (fun d u _ hd => old2 d u hd) (fun d hd => sm _ _ hd) fun d xs hd => sm _ _ hd
    · by_cases q2 : c = h'.objs.size
      · subst q2
        rw [hp] at e
        obtain rfl := Option.some.inj e
        exact ⟨len_sz (by rw [lenV, hacc]; exact hl), acc.toList, hv, ⟨_, gp, rfl, _, by simp; rfl⟩⟩
      · have e' : pairHO h' c = some o := by
          have z : H3 c = pairHO h' c := by
            show (if _ then _ else _) = _
            rw [if_neg q, if_neg q2]
          rw [← z]; exact e
        exact (pairHO_ok (P := X.prog) (w := X.w) (H := fun _ => none) e').stay (fun d u hd z => up d u z) (fun d hd => nomatch hd) fun d xs hd => nomatch hd
  refine ⟨H3, sm, .tup (stOf hp) (dqAll_of (by rw [lenV]; exact lenA) fun i v d hvi hdi => ?_), I.un ?_ ok⟩
  · obtain ⟨u, hu, ru⟩ := hv.get hvi
    obtain ⟨T, c1, c2, t1, t2, e, _, q, e3, e4, e5⟩ := pa i u (by rw [← Array.getElem?_toList]; exact hu)
    subst e
    have ev : v = .ref T := by
      cases v <;> simp [L2.RelV] at ru
      rw [ru]
    subst ev
    have hd : d = .tuple [.str ⟨#[c1]⟩, .str ⟨#[c2]⟩] := by
      have z := pairsD_get a.cps.toList b.cps.toList i c1 c2 (by rw [Array.getElem?_toList]; exact e4) (by rw [Array.getElem?_toList]; exact e5)
      rw [hdi] at z; exact Option.some.inj z
    subst hd
    exact .tup (stOf (hpair T c1 c2 t1 t2 q e3)) (.cons (.str _) (.cons (.str _) .nil))
  · have lt : ∀ {c o}, s.heap.get? c = some o → c < s.heap.objs.size := fun e => Heap.lt_size e
    exact ⟨fun c o e _ _ _ => old2 c o e, fun c o e _ _ _ => ⟨o.slots, old2 c o e⟩, fun c o e n _ => by rw [lo c (lt e)]; exact n, fun c o e _ => ⟨o, old2 c o e⟩, fun c xs e => sm _ _ e, fun c o u e => sm _ _ e, fun c ps e => ⟨#[], by rw [sm _ _ e]; simp⟩⟩
end
/-- what tuple(zip(..)) asks of its two values -/
def tzQ (K : PySem.W.Frag) (Q : VK) : List V → Hp → Prop := fun vs H2 => match vs with
  | [x, y] => ∃ a b : Str, x = .str a ∧ y = .str b ∧ a.cps.size = b.cps.size ∧ a.cps.size ≤ 1000000 ∧ ∀ p H3, Same H2 H3 → Dq K H3 (.ref p) (.tuple (pairsD a.cps.toList b.cps.toList)) → Q (.ref p) H3
  | _ => False
theorem tzQ_of {K : PySem.W.Frag} {Q : VK} {vs : List V} {H2 : Hp} (h : tzQ K Q vs H2) : ∃ a b : Str, vs = [.str a, .str b] ∧ a.cps.size = b.cps.size ∧ a.cps.size ≤ 1000000 ∧ ∀ p H3, Same H2 H3 → Dq K H3 (.ref p) (.tuple (pairsD a.cps.toList b.cps.toList)) → Q (.ref p) H3 := by
  unfold tzQ at h
  split at h
  · obtain ⟨a, b, rfl, rfl, r⟩ := h
    exact ⟨a, b, rfl, r⟩
  · exact h.elim
section
variable {X : Cx} {e1 e2 : Expr} {ta tb : TE} {p1 p2 pos1 pos2 : Pos}
/-- tuple(zip(e1, e2)) of two texts of one length -/
theorem pe_tupzip (hc : X.calm = true) (nt : X.mg "tuple" = none) (nz : X.mg "zip" = none) (h1 : PE X e1 ta) (h2 : PE X e2 tb) (gt : Gl X "tuple" := by rfl) (gz : Gl X "zip" := by rfl)
    (he : starEach [e1, e2] X.env = (false, eval e1 X.env) :: starEach [e2] X.env := by rfl) (he2 : starEach [e2] X.env = (false, eval e2 X.env) :: starEach [] X.env := by rfl) (hpl : (backTo pos2 (starEach [e2] X.env)).any (·.1) = false := by rfl)
    (ho : starEach [(Expr.Call (.Name "zip" p2) [e1, e2] [] pos2)] X.env = (false, eval (.Call (.Name "zip" p2) [e1, e2] [] pos2) X.env) :: starEach [] X.env := by rfl) (hpo : (backTo pos1 (starEach [] X.env)).any (·.1) = false := by rfl) :
    PE X (.Call (.Name "tuple" p1) [.Call (.Name "zip" p2) [e1, e2] [] pos2] [] pos1) (tTZ X.K ta tb) := by
  refine ⟨fun pins s σ H Q I h => ?_⟩
  refine wpAny_Call_Name_kw (ld_blt I gt nt PyProof.Rows.boot_tuple ?_)
  refine PyProof.Rows.callWith_type1 ?_ ho hpo
  rw [ho]
  show wpAny _ _ (spliced ((false, _) :: backTo pos1 (starEach [] X.env))) _ _ s
  refine Calls.spliced_cons ?_
  refine wpAny_Call_Name_kw (ld_blt I gz nz PyProof.Rows.boot_zip ?_)
  refine PyProof.Rows.callWith_type1 (thn ((pa_cons h1 (pa_cons h2 pa_nil he2) he).run pos2 pins s σ H (tzQ X.K Q) I h) fun us s1 hh => ?_) he hpl
  obtain ⟨vs, H1, I1, r1, q1⟩ := hh
  obtain ⟨a, b, rfl, hab, hl, q⟩ := tzQ_of q1
  obtain ⟨ta1, tb1, rfl⟩ : ∃ t u, us = [.str a t, .str b u] := by
    cases r1 with
    | cons x1 r =>
      cases r with
      | cons x2 r =>
        cases r
        obtain ⟨t, rfl⟩ := x1
        obtain ⟨u, rfl⟩ := x2
        exact ⟨t, u, rfl⟩
  obtain ⟨hp, g, d, tk0, os⟩ := s1
  refine zip_begins2 (begins_text a ta1) (begins_text b tb1) trivial trivial fun h' z1 z2 z3 z4 z5 z6 z7 => ?_
  have sep : ZipSep2 (hp.objs.size + 4) (hp.objs.size + 2) (hp.objs.size + 3) hp.objs.size (hp.objs.size + 1) [hp.objs.size] [hp.objs.size + 1] := zip_sep2 (fun _ m => (List.not_mem_nil m).elim) fun _ m => (List.not_mem_nil m).elim
  have Z : ZNew (hp.objs.size + 4) (hp.objs.size + 2) (hp.objs.size + 3) hp.objs.size (hp.objs.size + 1) a b ta1 tb1 hp h' := ⟨z1, z2, z3, ⟨_, z4, rfl, rfl⟩, ⟨_, z5, rfl, rfl⟩, z7, fun c m => (by
    simp only [List.mem_cons, List.not_mem_nil, or_false] at m
    rcases m with m | m | m | m | m <;> rw [m] <;> first | exact Nat.le_refl _ | exact Nat.le_add_right _ _), (by rw [z6]; exact Nat.le_add_right _ _)⟩
  show wpAny _ _ (spliced (backTo pos1 (starEach [] X.env))) _ _ _
  refine Calls.spliced_nil ?_
  have hh : X.A.handled = none := I1.ok.hd hc
  refine call_tuple_zip (s := ⟨h', g, d, tk0, os⟩) (n := a.cps.size) hh rfl hab.symm (lt_sz hl) sep Z fun h2 tk acc y1 y2 y3 y4 => ?_
  obtain ⟨no, pa⟩ := y2
  obtain ⟨H3, sm, dq, J⟩ := track_pairs (tk := tk) I1 hab hl y1 pa y3 y4
  exact ⟨.ref h2.objs.size, H3, J, rfl, q _ H3 sm dq⟩
end
end EL
namespace EL
open PySem PySem.Spec PyProof.Rows L2
/-! ### f(k = v, ..): keywords alone -/
section
variable {X : Cx} {k : Nat} {x : Str} {ps ks : List Str} {sp : Sp} {E : XK} {kws : List Keyword} {tk : TA} {p pos : Pos} {g : List Value → List Value → List Value} {gV : List V → List V → List V}
theorem pe_calK0 (C : Cal X.prog X.w X.K X.mg X.base k x ps sp) (hr : Room k X.A) (hg : Gl X x) (kb : KBinds X.K C.fd ps ks g gV) (hx : Passes CX0 X E) (hkw : PK X kws tk)
    (hall : (backToKw pos (keywordEach kws X.env)).all (·.1.isSome) = true := by rfl) (hks : (backToKw pos (keywordEach kws X.env)).filterMap (·.1) = ks := by rfl) (hdb : (x == ("__debug__" : Str)) = false := by decide)
    (hpl : ((backTo pos (starEach [] X.env)).any (·.1) || (backToKw pos (keywordEach kws X.env)).any (·.1.isNone)) = false := by rfl) :
    PE X (.Call (.Name x p) [] kws pos) (fun σ H Q => tk σ H fun zs H2 => sp (gV [] zs) H2 Q E) := by
  refine ⟨fun pins s σ H Q I h => wpAny_Call_Name_kw (ld_glob I hg C.g ?_ hdb)⟩
  refine PySem.W.callWith_KW0 (h₀ := X.base) I.ok.mod.kin C.kp hall (thn (hkw.run pos pins s σ H _ I h) fun ws s1 hh => ?_) hpl
  obtain ⟨zs, H1, I1, rz, q⟩ := hh
  refine ⟨I1.kIn, ?_⟩
  rw [hks]
  exact run_fnk C.ok hr kb hx I1 Paired.nil rz q
end
/-! ### comprehensions: what the list holds, by the turns -/
/-- behind i turns: the list at D holds what turns gave (none: left out) -/
def LcP (D : Addr) (P : Nat → Hp → Prop) (R : Nat → Option V → Prop) (i : Nat) (H : Hp) : Prop :=
  ∃ ys : List (Option V), ys.length = i ∧ (∀ (j : Nat) (v : Option V), ys[j]? = some v → R j v) ∧ H D = some (.lst (ys.filterMap id)) ∧ P i H
theorem LcP.start {D : Addr} {P : Nat → Hp → Prop} {R : Nat → Option V → Prop} {H : Hp} (p : P 0 (upd H D (.lst []))) : LcP D P R 0 (upd H D (.lst [])) := ⟨[], rfl, fun j v e => by simp at e, upd_same, p⟩
theorem rows_snoc {R : Nat → Option V → Prop} {ys : List (Option V)} {v : Option V} (h : ∀ (j : Nat) (v : Option V), ys[j]? = some v → R j v) (r : R ys.length v) : ∀ (j : Nat) (u : Option V), (ys ++ [v])[j]? = some u → R j u := fun j u e => by
  rw [List.getElem?_append] at e
  split at e
  · exact h j u e
  · rename_i q
    have : j - ys.length = 0 := by
      cases z : j - ys.length with
      | zero => rfl
      | succ m => rw [z] at e; simp at e
    rw [this] at e
    have ej : j = ys.length := by omega
    subst ej
    simp at e
    exact e ▸ r
theorem lcp_some {D : Addr} {P : Nat → Hp → Prop} {R : Nat → Option V → Prop} {i : Nat} {ys : List (Option V)} {H : Hp} {y : V} (hl : ys.length = i) (h : ∀ (j : Nat) (v : Option V), ys[j]? = some v → R j v) (hD : H D = some (.lst (ys.filterMap id))) (hi : i < 1000000) (r : R i (some y))
    (p : P (i + 1) (upd H D (.lst (ys.filterMap id ++ [y])))) : ∃ acc, H D = some (.lst acc) ∧ acc.length < sizeLine ∧ LcP D P R (i + 1) (upd H D (.lst (acc ++ [y]))) := by
  subst hl
  refine ⟨_, hD, lt_sz (Nat.le_trans (List.length_filterMap_le _ _) (Nat.le_of_lt hi)), ys ++ [some y], by simp, rows_snoc h r, ?_, p⟩
  rw [upd_same, List.filterMap_append]; rfl
theorem lcp_none {D : Addr} {P : Nat → Hp → Prop} {R : Nat → Option V → Prop} {i : Nat} {ys : List (Option V)} {H : Hp} (hl : ys.length = i) (h : ∀ (j : Nat) (v : Option V), ys[j]? = some v → R j v) (hD : H D = some (.lst (ys.filterMap id))) (r : R i none) (p : P (i + 1) H) : LcP D P R (i + 1) H := by
  subst hl
  refine ⟨ys ++ [none], by simp, rows_snoc h r, ?_, p⟩
  rw [hD, List.filterMap_append]; simp
/-- the list of what is given by a function -/
theorem rows_fn {f : Nat → Option V} {n : Nat} : ∀ {ys : List (Option V)}, ys.length = n → (∀ (j : Nat) (v : Option V), ys[j]? = some v → v = f j) → ys = (List.range n).map f := by
  intro ys hl h
  refine List.ext_getElem? fun j => ?_
  rw [List.getElem?_map]
  by_cases q : j < n
  · obtain ⟨v, e⟩ : ∃ v, ys[j]? = some v := ⟨_, List.getElem?_eq_getElem (by omega)⟩
    rw [List.getElem?_range q, e, h j v e]; rfl
  · rw [List.getElem?_eq_none (by omega), List.getElem?_eq_none (by rw [List.length_range]; omega)]; rfl
/-- .. of an array's items by a function of theirs -/
theorem rows_map {α : Type} {f : α → Option V} {l : List α} {ys : List (Option V)} (hl : ys.length = l.length) (h : ∀ (j : Nat) (v : Option V), ys[j]? = some v → ∃ a, l[j]? = some a ∧ v = f a) : ys = l.map f := by
  refine List.ext_getElem? fun j => ?_
  rw [List.getElem?_map]
  by_cases q : j < ys.length
  · obtain ⟨v, e⟩ : ∃ v, ys[j]? = some v := ⟨_, List.getElem?_eq_getElem q⟩
    obtain ⟨a, e1, e2⟩ := h j v e
    rw [e, e1, e2]; rfl
  · rw [List.getElem?_eq_none (by omega), List.getElem?_eq_none (by omega)]; rfl
/-! ### signs and texts -/
def isLow (c : Nat) : Bool := decide (c ∈ (Str.ofString "abcdefghijklmnopqrstuvwxyz").cps.toList)
def isTextD : PyData → Bool
  | .str x => x.cps.toList.all isLow
  | _ => false
/-- sizes of data that may be looked at -/
def Sz (d : PyData) : Prop := d.bulk ≤ 500000
theorem str_len (x : Str) : x.length = x.cps.toList.length := by rw [Array.length_toList]; rfl
theorem str_ext {x y : Str} (h : x.cps.toList = y.cps.toList) : x = y := by
  obtain ⟨a⟩ := x
  obtain ⟨b⟩ := y
  have : a = b := by
    apply Array.ext'
    exact h
  rw [this]
theorem str_inj {x y : Str} : x = y ↔ x.cps.toList = y.cps.toList := ⟨fun e => by rw [e], str_ext⟩
/-- a built-in's name is as it was -/
abbrev StrAt (mg : Str → Option Value) (x y : Str) : Prop := ∃ t, mg x = some (.str y t)
section
variable {X : Cx} {x : Str} {pos : Pos}
theorem pe_tyN {n : String} (hm : X.mg x = none) (hv : bootBuiltins x = some (.type n)) (hg : Gl X x := by rfl) (hn : x ≠ "__name__" := by decide) (hd : (x == ("__debug__" : Str)) = false := by decide) : PE X (.Name x pos) (tC (.ty n)) :=
  pe_bltn (v := .ty n) hg hm hv (show Value.type n = Value.type n from rfl) hn hd
theorem pe_gstr {y : Str} (hm : StrAt X.mg x y) (hg : Gl X x := by rfl) (hd : (x == ("__debug__" : Str)) = false := by decide) : PE X (.Name x pos) (tC (.str y)) := by
  obtain ⟨t, e⟩ := hm
  exact pe_glob (v := .str y) hg e ⟨t, rfl⟩ hd
end
end EL
/-! x[::-1] of texts and of tuples. -/
namespace EL
open PySem PySem.Spec PyProof.Rows L2
section
variable {prog : Program} {w : World} {A : Around} {E : Value → Shared → Prop} {s : Shared}
theorem adjust_rev (n : Nat) : Builtin.Slice.sliceAdjust none none (-1) (n : Int) = ((n : Int) - 1, -1) := by
  simp [Builtin.Slice.sliceAdjust]
theorem places_rev (n : Nat) : Builtin.Slice.slicePlaces ((n : Int) - 1) (-1) (-1) = n := by
  unfold Builtin.Slice.slicePlaces
  rw [if_neg (by decide)]
  by_cases h : n = 0
  · subst h; rfl
  · rw [if_pos (by omega)]
    have e : ((n : Int) - 1 - -1 - 1) / (- -1) + 1 = n := by
      have : (- -1 : Int) = 1 := by decide
      rw [this, Int.ediv_one]; omega
    rw [e, Int.toNat_natCast]
theorem pick_rev (xs : Array Value) : ((List.range xs.size).filterMap fun (k : Nat) => xs[(((xs.size : Nat) : Int) - 1 + (k : Int) * (-1)).toNat]?).toArray = xs.toList.reverse.toArray := by
  have e := PySem.W.krv_all xs
  congr 1
  have e2 : (List.range xs.size).filterMap (fun (k : Nat) => xs[(((xs.size : Nat) : Int) - 1 + (k : Int) * (-1)).toNat]?) = ((List.range xs.size).map fun k => xs.size - 1 - k).filterMap (xs[·]?) := by
    rw [List.filterMap_map]
    have cg : ∀ (l : List Nat) (f g : Nat → Option Value), (∀ k ∈ l, f k = g k) → l.filterMap f = l.filterMap g := by
      intro l f g
      induction l with
      | nil => exact fun _ => rfl
      | cons a r ih =>
        intro h
        rw [List.filterMap_cons, List.filterMap_cons, h a List.mem_cons_self, ih fun k hk => h k (List.mem_cons_of_mem _ hk)]
    refine cg _ _ _ fun k hk => ?_
    have hk' := List.mem_range.mp hk
    show xs[(((xs.size : Nat) : Int) - 1 + (k : Int) * (-1)).toNat]? = xs[xs.size - 1 - k]?
    congr 1
    omega
  rw [e2, PySem.W.krv_range, List.filterMap_reverse, e]
theorem applied_rev {sl : Addr} {u : Tok} {n : Nat} {Q : Int × Int × Nat → Shared → Prop} (hs : s.heap.IsSliceOf sl .none .none (.int (-1) u)) (h : Q ((n : Int) - 1, -1, n) s) : wpAny (model prog w) A (Builtin.Slice.sliceApplied (.ref sl) (pure (n : Int))) Q E s := by
  obtain ⟨o, ho, hc, hd⟩ := id hs
  unfold Builtin.Slice.sliceApplied Builtin.Slice.sliceFields
  refine wpAny_bind (wpAny_bind (wpAny_field ho hd (x := .none) rfl (wpAny_bind (wpAny_field ho hd (x := .none) rfl (wpAny_bind (wpAny_field ho hd (x := .int (-1) u) rfl (wpAny_pure ?_)))))))
  refine wpAny_bind (HT.slicePart_ (IsPart.int (-1) u) ?_)
  show wpAny _ _ (if ((-1 : Int) == 0) = true then _ else _) _ _ s
  rw [if_neg (by decide)]
  refine wpAny_bind (HT.slicePart_ IsPart.none (wpAny_bind (HT.slicePart_ IsPart.none (wpAny_bind (wpAny_pure ?_)))))
  show wpAny _ _ (match Builtin.Slice.sliceAdjust none none (-1) (n : Int) with | (lo, hi) => pure (lo, (-1 : Int), Builtin.Slice.slicePlaces lo hi (-1))) _ _ s
  rw [adjust_rev]
  show wpAny _ _ (pure ((n : Int) - 1, (-1 : Int), Builtin.Slice.slicePlaces ((n : Int) - 1) (-1) (-1))) _ _ s
  rw [places_rev]
  exact wpAny_pure h
theorem item_tuple_rev {t sl : Addr} {items : Array Value} {u : Tok} {Q : Value → Shared → Prop} (ht : IsTup s.heap t items) (hs : s.heap.IsSliceOf sl .none .none (.int (-1) u)) (hz : items.size ≤ sizeLine)
    (h : Q (.ref s.heap.objs.size) { s with heap := s.heap.push { cls := .type "tuple", data := .seq items.toList.reverse.toArray } }) : wpAny (model prog w) A (getItem (.ref t) (.ref sl)) Q E s := by
  obtain ⟨o, ho, hc, hd⟩ := id hs
  have ty : s.TypeIs (.ref sl) "slice" := ⟨o, ho, hc⟩
  unfold getItem
  try with_reducible refine wpAny_holding ?_
  first | refine wpAny_bind (wpAny_pure ?_) | skip
  refine wpAny_bind (wpAny_sequenceKey ht.typeIs (by decide) ?_)
  refine wpAny_bind (wpAny_callSpecial?_slot (name := Str.ofString "__getitem__") ht.typeIs PyProof.Rows.slot_tuple_getitem
    (wpAny_call_entry PyProof.Rows.slot_tuple_getitem ht.typeIs PyProof.Rows.entry_tuple_getitem ?_ (PyProof.Rows.args_tuple_getitem _ _)))
  show wpAny _ _ (Builtin.Tuple.tupleItemsOf (.ref t) >>= _) _ _ s
  refine wpAny_bind (tupleItemsOf_ ht ?_)
  refine wpAny_bind (wpAny_typeOf ty ?_)
  rw [if_pos (by decide)]
  refine wpAny_bind (applied_rev hs ?_)
  show wpAny _ _ (if ((((items.size : Nat) : Int) - 1 == 0) && ((-1 : Int) == 1) && (items.size == items.size)) = true then _ else _) _ _ s
  rw [if_neg (by simp)]
  rw [pick_rev]
  refine wpAny_bind ?_
  unfold Builtin.Tuple.tupleExact
  refine wpAny_newObj_type ?_ (by show items.toList.reverse.toArray.size ≤ sizeLine; simpa using hz)
  first
    | exact wpAny_pure ⟨_, rfl, wpAny_pure h⟩
    | exact wpAny_pure ⟨_, rfl, h⟩
    | exact wpAny_bind (wpAny_pure (wpAny_pure ⟨_, rfl, wpAny_pure h⟩))
end
section
variable {X : Cx} {e : Expr} {te : TE} {k : Nat} {p1 p2 p3 pos : Pos}
def tRevT (K : PySem.W.Frag) (te : TE) : TE := fun σ H Q => te σ H fun x H1 => ∃ a xs, x = .ref a ∧ SqT K H1 a xs ∧ ∀ p, H1 p = none → Q (.ref p) (upd H1 p (.tup xs.reverse))
theorem pe_revT (he : PE X e te) : PE X (.Subscript e (.Slice none none (some (.UnaryOp .USub (.Constant (.int 1) k p1) p2)) p3) pos) (tRevT X.K te) := by
  refine ⟨fun pins s σ H Q I h => ?_⟩
  refine Subscript_ (thn (he.run pins s σ H _ I h) fun v s1 hh => ?_)
  obtain ⟨x, H1, I1, r1, a, xs, rfl, hx, q⟩ := hh
  cases r1
  refine wpAny_Slice (wpAny_pure (wpAny_pure ?_))
  have neg : PE X (.UnaryOp .USub (.Constant (.int 1) k p1) p2) (tUn (rU fun i => .int (-i)) (tC (.int 1))) := pe_un un_neg pe_int
  refine thn (neg.run pins s1 σ H1 (fun v H2 => v = .int (-1) ∧ H2 = H1) I1 ⟨1, rfl, rfl, rfl⟩) fun vs s2 hh => ?_
  obtain ⟨v2, H2, I2, r2, rfl, rfl⟩ := hh
  obtain ⟨u, rfl⟩ := r2
  have I5 : Inv X pins σ H2 { s2 with heap := s2.heap.push { cls := .type "slice", data := .fields #[.none, .none, .int (-1) u] } } := I2.kept (t' := s2.toks) fun b ob q => Heap.get?_push_of_some _ q
  obtain ⟨its, r, ht, hz⟩ := I5.tuple hx
  have hlen := r.length
  show wpAny (model X.prog X.w) X.A (subscriptTail e (.Slice none none (some (.UnaryOp .USub (.Constant (.int 1) k p1) p2)) p3) (.ref a) (.ref s2.heap.objs.size)) (EP X pins σ Q) X.xe { s2 with heap := s2.heap.push { cls := .type "slice", data := .fields #[.none, .none, .int (-1) u] } }
  refine tail_any (ops := [.ref a, .ref s2.heap.objs.size]) ht.typeIs PyProof.Rows.slot_tuple_getitem.lookup ?_ (by with_unfolding_all rfl)
  refine item_tuple_rev ht (Heap.IsSliceOf.new _ _ _ _) (by rw [List.size_toArray]; omega) ?_
  refine ⟨.ref _, _, I5.laid (t' := s2.toks) (o := .tup xs.reverse) (fun b ob q => Heap.get?_push_of_some _ q) (Nat.le_refl _) ?_, rfl, q _ (I5.hok.fresh (Nat.le_refl _))⟩
  exact ⟨by rw [List.length_reverse]; exact hz, _, r.reverse, IsTup.new _ _⟩
/-- a text read from behind -/
def revS (x : Str) : Str := ⟨x.cps.toList.reverse.toArray⟩
def tRevS (te : TE) : TE := fun σ H Q => te σ H fun x H1 => ∃ z : Str, x = .str z ∧ z.length ≤ 1000000 ∧ Q (.str (revS z)) H1
theorem pick_revS (x : Str) : (⟨((Builtin.Str.strSliceIndices none none (-1) x.length).filterMap (x.cps[·]?)).toArray⟩ : Str) = revS x := by
  have e : Builtin.Str.strSliceIndices none none (-1) x.length = sliceRange ((x.length : Int) - 1) (-1) (-1) := by
    simp [Builtin.Str.strSliceIndices]
  unfold revS
  rw [e, PySem.W.krv_sliceRange, PySem.W.krv_range, List.filterMap_reverse]
  have e2 : (List.range x.length).filterMap (x.cps[·]?) = x.cps.toList := by
    have key : ∀ (xs : Array Nat), (List.range xs.size).filterMap (xs[·]?) = xs.toList := fun xs => PySem.W.krv_all xs
    exact key x.cps
  rw [e2]
theorem pe_revS (he : PE X e te) : PE X (.Subscript e (.Slice none none (some (.UnaryOp .USub (.Constant (.int 1) k p1) p2)) p3) pos) (tRevS te) := by
  refine ⟨fun pins s σ H Q I h => ?_⟩
  refine Subscript_ (thn (he.run pins s σ H _ I h) fun v s1 hh => ?_)
  obtain ⟨x, H1, I1, r1, z, rfl, hz, q⟩ := hh
  obtain ⟨t, rfl⟩ := r1
  refine wpAny_Slice (wpAny_pure (wpAny_pure ?_))
  have neg : PE X (.UnaryOp .USub (.Constant (.int 1) k p1) p2) (tUn (rU fun i => .int (-i)) (tC (.int 1))) := pe_un un_neg pe_int
  refine thn (neg.run pins s1 σ H1 (fun v H2 => v = .int (-1) ∧ H2 = H1) I1 ⟨1, rfl, rfl, rfl⟩) fun vs s2 hh => ?_
  obtain ⟨v2, H2, I2, r2, rfl, rfl⟩ := hh
  obtain ⟨u, rfl⟩ := r2
  have I5 : Inv X pins σ H2 { s2 with heap := s2.heap.push { cls := .type "slice", data := .fields #[.none, .none, .int (-1) u] } } := I2.kept (t' := s2.toks) fun b ob q => Heap.get?_push_of_some _ q
  show wpAny (model X.prog X.w) X.A (subscriptTail e (.Slice none none (some (.UnaryOp .USub (.Constant (.int 1) k p1) p2)) p3) (.str z t) (.ref s2.heap.objs.size)) (EP X pins σ Q) X.xe { s2 with heap := s2.heap.push { cls := .type "slice", data := .fields #[.none, .none, .int (-1) u] } }
  refine tail_any (ops := [.ref s2.heap.objs.size, .str z t]) (typeIs_str _ _ _) PySem.F.slot_str_getitem.lookup ?_ (by with_unfolding_all rfl)
  refine wpAny_getItem_str_slice (l := none) (u := none) (st := some (-1, u)) ⟨_, Heap.get?_push_size _ rfl, rfl, rfl⟩ rfl ?_
  have em : sliceMade z t none none (some (-1, u)) = Made.str (revS z) := by
    rw [← pick_revS]; rfl
  rw [em]
  exact ⟨by show z.cps.toList.reverse.toArray.size ≤ sizeLine; rw [List.size_toArray, List.length_reverse]; exact Nat.le_trans hz (by decide), .str (revS z), H2, I5.tok _, ⟨_, rfl⟩, q⟩
end
/-! ### a list == [], a list != [] -/
section
variable {X : Cx}
def rEqN (K : PySem.W.Frag) : R2 := fun x y H Q => ∃ a b xs, x = .ref a ∧ y = .ref b ∧ SqL K H a xs ∧ SqL K H b [] ∧ Q (.bl (decide (xs = []))) H
def rNeN (K : PySem.W.Frag) : R2 := fun x y H Q => ∃ a b xs, x = .ref a ∧ y = .ref b ∧ SqL K H a xs ∧ SqL K H b [] ∧ Q (.bl (!decide (xs = []))) H
theorem op_eqN (hu : X.A.units < cLine) : OpR X (compareOp .Eq) (rEqN X.K) := by
  intro pins s σ H x y v u Q I rx ry h
  obtain ⟨a, b, xs, rfl, rfl, ha, hb, q⟩ := h
  cases rx
  cases ry
  obtain ⟨its, r1, ⟨o, n, ho, hc, _, hd⟩, _⟩ := I.list ha
  obtain ⟨its2, r2, ⟨o2, n2, ho2, hc2, _, hd2⟩, _⟩ := I.list hb
  cases r2
  cases r1 with
  | nil => exact SeqAt.RcAt.lists (e := fun _ => true) ⟨o, ho, hc, n, hd⟩ ⟨o2, ho2, hc2, n2, hd2⟩ rfl hu (fun j h1 _ => absurd h1 (by simp)) _ _ _ _ ⟨.bl _, H, I, rfl, q⟩
  | cons r rr => exact SeqAt.RcAt.lists_lengths ⟨o, ho, hc, n, hd⟩ ⟨o2, ho2, hc2, n2, hd2⟩ (by simp) hu _ _ _ _ ⟨.bl _, H, I, rfl, q⟩
theorem op_neN (hu : X.A.units < cLine) : OpR X (compareOp .NotEq) (rNeN X.K) := by
  intro pins s σ H x y v u Q I rx ry h
  obtain ⟨a, b, xs, rfl, rfl, ha, hb, q⟩ := h
  cases rx
  cases ry
  obtain ⟨its, r1, ⟨o, n, ho, hc, _, hd⟩, _⟩ := I.list ha
  obtain ⟨its2, r2, ⟨o2, n2, ho2, hc2, _, hd2⟩, _⟩ := I.list hb
  cases r2
  cases r1 with
  | nil => exact SeqAt.RcNeAt.lists (e := fun _ => true) ⟨o, ho, hc, n, hd⟩ ⟨o2, ho2, hc2, n2, hd2⟩ rfl hu (fun j h1 _ => absurd h1 (by simp)) _ _ _ _ ⟨.bl _, H, I, rfl, q⟩
  | cons r rr => exact SeqAt.RcNeAt.lists_lengths ⟨o, ho, hc, n, hd⟩ ⟨o2, ho2, hc2, n2, hd2⟩ (by simp) hu _ _ _ _ ⟨.bl _, H, I, rfl, q⟩
end
end EL
/-! Calls by keywords alone: one parameter, two parameters the other way round. -/
namespace EL
open PySem PySem.Spec PyProof.Rows L2
def kw1 {α : Type} : List α → List α → List α
  | [], [z] => [z]
  | _, _ => []
def kw2r {α : Type} : List α → List α → List α
  | [], [z, y] => [y, z]
  | _, _ => []
theorem kw1_rel {vs : List V} {us : List Value} {zs : List V} {ws : List Value} (h1 : Vals vs us) (h2 : Vals zs ws) : Vals (kw1 vs zs) (kw1 us ws) := by
  cases h1 with
  | cons _ _ => exact .nil
  | nil =>
    cases h2 with
    | nil => exact .nil
    | cons r rr =>
      cases rr with
      | nil => exact .cons r .nil
      | cons _ _ => exact .nil
theorem kw2r_rel {vs : List V} {us : List Value} {zs : List V} {ws : List Value} (h1 : Vals vs us) (h2 : Vals zs ws) : Vals (kw2r vs zs) (kw2r us ws) := by
  cases h1 with
  | cons _ _ => exact .nil
  | nil =>
    cases h2 with
    | nil => exact .nil
    | cons r rr =>
      cases rr with
      | nil => exact .nil
      | cons r2 rr2 =>
        cases rr2 with
        | nil => exact .cons r2 (.cons r .nil)
        | cons _ _ => exact .nil
theorem Fun.kw1 {K : PySem.W.Frag} {x qual : Str} {st : Stmt} {f : Addr} {fd : FuncData} {p : Str} (F : Fun K x qual st f fd)
    (h : ∀ (kV doc pm : Value) (an : Option Addr) (cdv ct : Value) (u : Value), bindArgs (PySem.W.fnOf x qual (defArgs st) (defBody st) (defScope st) .none kV doc pm an cdv ct) ⟨[], [(p, u)]⟩ = pure [(p, u)]) : KBinds K fd [p] [p] EL.kw1 EL.kw1 := by
  obtain ⟨oc, od, kV, doc, pm, an, cdv, ct, osl, rfl, lk, hcd⟩ := F.ex
  refine ⟨fun s us ws _ hl => ?_, kw1_rel⟩
  match us, ws, hl with
  | [], [u], _ => exact .of_eq (h kV doc pm an cdv ct u)
  | [], [], hl => exact absurd hl (by simp [EL.kw1])
  | [], _ :: _ :: _, hl => exact absurd hl (by simp [EL.kw1])
  | _ :: _, _, hl => exact absurd hl (by simp [EL.kw1])
theorem Fun.kw2r {K : PySem.W.Frag} {x qual : Str} {st : Stmt} {f : Addr} {fd : FuncData} {p q : Str} (F : Fun K x qual st f fd)
    (h : ∀ (kV doc pm : Value) (an : Option Addr) (cdv ct : Value) (u v : Value), bindArgs (PySem.W.fnOf x qual (defArgs st) (defBody st) (defScope st) .none kV doc pm an cdv ct) ⟨[], [(q, u), (p, v)]⟩ = pure [(p, v), (q, u)]) : KBinds K fd [p, q] [q, p] EL.kw2r EL.kw2r := by
  obtain ⟨oc, od, kV, doc, pm, an, cdv, ct, osl, rfl, lk, hcd⟩ := F.ex
  refine ⟨fun s us ws _ hl => ?_, kw2r_rel⟩
  match us, ws, hl with
  | [], [u, v], _ => exact .of_eq (h kV doc pm an cdv ct u v)
  | [], [], hl => exact absurd hl (by simp [EL.kw2r])
  | [], [_], hl => exact absurd hl (by simp [EL.kw2r])
  | [], _ :: _ :: _ :: _, hl => exact absurd hl (by simp [EL.kw2r])
  | _ :: _, _, hl => exact absurd hl (by simp [EL.kw2r])
end EL
namespace KP
open PySem PySem.Spec PyProof.Rows L2 EL
open Evl (pss_cut)
def topS (i : Nat) : Stmt := PySem.Challenge.pw_evenlead_k16_pairs_of_steppers.main.body.getD i (.Pass ⟨0, 0, 0, 0⟩)
abbrev sIsText : Stmt := topS 14
theorem scIsText : FnScope ["thing", "letter"] ["thing"] (defScope sIsText) := ⟨rfl, rfl, rfl, by decide +kernel, rfl, by decide +kernel, by decide +kernel⟩
abbrev sIsInteger : Stmt := topS 23
theorem scIsInteger : FnScope ["thing"] ["thing"] (defScope sIsInteger) := ⟨rfl, rfl, rfl, by decide +kernel, rfl, by decide +kernel, by decide +kernel⟩
abbrev sIsSize : Stmt := topS 24
theorem scIsSize : FnScope ["thing"] ["thing"] (defScope sIsSize) := ⟨rfl, rfl, rfl, by decide +kernel, rfl, by decide +kernel, by decide +kernel⟩
abbrev sIsState : Stmt := topS 25
theorem scIsState : FnScope ["thing", "size"] ["thing", "size"] (defScope sIsState) := ⟨rfl, rfl, rfl, by decide +kernel, rfl, by decide +kernel, by decide +kernel⟩
abbrev sIsTupleOfStates : Stmt := topS 26
theorem scIsTupleOfStates : FnScope ["thing", "size", "low", "high", "part"] ["thing", "size"] (defScope sIsTupleOfStates) := ⟨rfl, rfl, rfl, by decide +kernel, rfl, by decide +kernel, by decide +kernel⟩
abbrev rLenK (K : PySem.W.Frag) : List V → Hp → VK → Prop := fun xs H Q => ∃ x n, xs = [x] ∧ LenV K x H n ∧ Q (V.int (n : Nat)) H
/-- a look at data: True or False by a function of it -/
def spLook (K : PySem.W.Frag) (f : PyData → Bool) : Sp := fun vs H Q _ => ∃ (v : V) (d : PyData), vs = [v] ∧ Dq K H v d ∧ Sz d ∧ ∀ H', Same H H' → Q (.bl (f d)) H'
/-- .. with a number beside -/
def spLookN (K : PySem.W.Frag) (f : Int → PyData → Bool) : Sp := fun vs H Q _ => ∃ (v : V) (d : PyData) (n : Int), vs = [v, .int n] ∧ Dq K H v d ∧ Sz d ∧ ∀ H', Same H H' → Q (.bl (f n d)) H'
def isIntD : PyData → Bool
  | .int _ => true
  | _ => false
def sizeD : PyData → Bool
  | .int i => decide (i ≥ 1)
  | _ => false
def stateD (n : Int) : PyData → Bool
  | .int i => decide (0 ≤ i) && decide (i < n)
  | _ => false
def intOf : PyData → Int
  | .int i => i
  | _ => 0
/-- ascending -/
def ascI : List Int → Bool
  | [] => true
  | [_] => true
  | a :: b :: r => decide (a < b) && ascI (b :: r)
def statesD (n : Int) : PyData → Bool
  | .tuple ds => ds.all (stateD n) && ascI (ds.map intOf)
  | _ => false
def moveD (n : Int) : PyData → Bool
  | .tuple ds => match ds with
    | [a, b, c, d] => stateD n a && (isTextD b && (isTextD c && stateD n d))
    | _ => false
  | _ => false
def movesD (n : Int) : PyData → Bool
  | .tuple ds => ds.all (moveD n)
  | _ => false
theorem kitL_int : ∀ n ∈ tyNs, kitB n "int" = some (decide (n = "int" ∨ n = "bool")) := by decide +kernel
theorem kit_int (d : PyData) : kitB (tyN d) "int" = some (decide (tyN d = "int" ∨ tyN d = "bool")) := kitL_int _ (tyN_mem d)
theorem kitL_bool : ∀ n ∈ tyNs, kitB n "bool" = some (decide (n = "bool")) := by decide +kernel
theorem kit_bool (d : PyData) : kitB (tyN d) "bool" = some (decide (tyN d = "bool")) := kitL_bool _ (tyN_mem d)
theorem sz_mem {ds : List PyData} (h : PyData.bulkAll ds ≤ 500000) : ∀ d ∈ ds, Sz d := by
  induction ds with
  | nil => exact fun _ m => (List.not_mem_nil m).elim
  | cons x r ih =>
    simp only [PyData.bulkAll] at h
    intro d m
    rcases List.mem_cons.mp m with rfl | m
    · unfold Sz; omega
    · exact ih (by omega) d m
theorem bulk_len : ∀ ds : List PyData, ds.length ≤ PyData.bulkAll ds
  | [] => Nat.le_refl _
  | x :: r => by
    simp only [PyData.bulkAll, List.length_cons]
    have := bulk_len r
    omega
section
variable {P : Program} {w : World} {K : PySem.W.Frag} {mg : Str → Option Value} {base : Heap}
theorem ok_IsText {f : Addr} {fd : FuncData} {k : Nat} (F : Fun K "is_text" "is_text" sIsText f fd) (nall : mg "all" = none) (nisinstance : mg "isinstance" = none) (nstr : mg "str" = none) (m_LETTERS : StrAt mg "LETTERS" "abcdefghijklmnopqrstuvwxyz") : FnOk P w K mg base CX0 (k + 1) f fd ["thing"] (spLook K isTextD) := by
  refine F.ok scIsText (fun vs H Q E h => ?_) (fun cdv A outer s H vs Q E hr h => ?_)
  · obtain ⟨v, d, rfl, _⟩ := h; rfl
  · obtain ⟨v, d, rfl, hd, hz, q⟩ := h
    have hu := hr.units
    refine ⟨_, (pss_one (ps_ret (pe_and (pe_callB call_isi (by rfl) nisinstance boot_isinstance (pa_cons (pv 0) (pa_cons (pe_tyN nstr boot_str) pa_nil))) (pe_one (pe_callB (cr_all rfl) (by rfl) nall (by decide +kernel) (pa_cons (pe_lc (own := [("letter", 1)]) (g := gName 1) (by rfl) scIsText.nd (pi_str (pv 0)) (blkOk_by (own := [("letter", 1)]) (N := ["thing", "letter"]) (sc := defScope sIsText) (by decide +kernel)) (fun _ _ _ _ _ => (pg_name (i := 1) scIsText.nd rfl (by first | exact Or.inl rfl | exact Or.inr rfl))) (fun _ _ _ _ _ => pts_nil) (fun _ _ _ _ _ => (pe_cmpR op_in_sign (pv 1) (pe_gstr m_LETTERS) (by rfl)))) pa_nil)))))), ?_⟩
    refine ⟨v, rfl, v, .ty "str", _, _, _, rfl, .ty "str", tyx_of hd, kit_ty (kit_str d), _, rfl, ?_⟩
    cases d with
    | str x =>
      cases hd
      refine iteT ⟨.str x, rfl, x, rfl, fun D nD => ?_⟩
      have hlen : x.cps.size ≤ 500000 := hz
      refine lc_it walk_str (LcP D (fun _ H' => ∀ b o, b ≠ D → H b = some o → H' b = some o) (fun j v => ∃ c, x.cps.toList[j]? = some c ∧ v = some (.bl (isLow c)))) (LcP.start fun b o hb e => by rw [upd_ne hb]; exact e) (fun _ _ _ _ => trivial) ?_ ?_
      · rintro i y H1 H2 hi ⟨ys, hl, hR, hD, hP⟩ ⟨rfl, c, hc, rfl⟩
        refine ⟨rfl, ?_⟩
        dsimp only [tYes]
        refine iteT ?_
        refine ⟨_, rfl, c, _, rfl, rfl, ?_⟩
        exact lcp_some hl hR hD (by omega) ⟨c, by rw [Array.getElem?_toList]; exact hc, rfl⟩ fun b o hb e => by rw [upd_ne hb]; exact hP b o hb e
      · rintro H2 ⟨ys, hl, hR, hD, hP⟩
        have e := rows_map (f := fun c => some (V.bl (isLow c))) (l := x.cps.toList) (by rw [hl, Array.length_toList]) hR
        refine ⟨D, x.cps.toList.map isLow, rfl, sqOf (by rw [hD, e]; simp [List.filterMap_map, Function.comp_def]), ?_⟩
        have e2 : (x.cps.toList.map isLow).all id = isTextD (.str x) := by simp [isTextD, List.all_map, Function.comp_def]
        rw [e2]
        exact q H2 fun b o e => hP b o (ne_of_none e nD) e
    | _ => exact iteF (q H (Same.refl H))
theorem ok_IsInteger {f : Addr} {fd : FuncData} {k : Nat} (F : Fun K "is_integer" "is_integer" sIsInteger f fd) (nisinstance : mg "isinstance" = none) (nint : mg "int" = none) (nbool : mg "bool" = none)   : FnOk P w K mg base CX0 (k + 1) f fd ["thing"] (spLook K isIntD) := by
  refine F.ok scIsInteger (fun vs H Q E h => ?_) (fun cdv A outer s H vs Q E hr h => ?_)
  · obtain ⟨v, d, rfl, _⟩ := h; rfl
  · obtain ⟨v, d, rfl, hd, hz, q⟩ := h
    have hu := hr.units
    refine ⟨_, (pss_one (ps_ret (pe_and (pe_callB call_isi (by rfl) nisinstance boot_isinstance (pa_cons (pv 0) (pa_cons (pe_tyN nint boot_int) pa_nil))) (pe_one (pe_not (pe_callB call_isi (by rfl) nisinstance boot_isinstance (pa_cons (pv 0) (pa_cons (pe_tyN (n := "bool") nbool (by decide +kernel)) pa_nil)))))))), ?_⟩
    refine ⟨v, rfl, v, .ty "int", _, _, _, rfl, .ty "int", tyx_of hd, kit_ty (kit_int d), _, rfl, ?_⟩
    have qq := q H (Same.refl H)
    cases d with
    | int i => exact iteT ⟨v, rfl, v, .ty "bool", _, _, _, rfl, .ty "bool", tyx_of hd, kit_ty (kit_bool (.int i)), _, rfl, qq⟩
    | bool b => exact iteT ⟨v, rfl, v, .ty "bool", _, _, _, rfl, .ty "bool", tyx_of hd, kit_ty (kit_bool (.bool b)), _, rfl, qq⟩
    | _ => exact iteF qq
theorem ok_IsSize {f : Addr} {fd : FuncData} {k : Nat} (F : Fun K "is_size" "is_size" sIsSize f fd)   (CIsInteger : Cal P w K mg base k "is_integer" ["thing"] (spLook K isIntD)) : FnOk P w K mg base CX0 (k + 1) f fd ["thing"] (spLook K sizeD) := by
  refine F.ok scIsSize (fun vs H Q E h => ?_) (fun cdv A outer s H vs Q E hr h => ?_)
  · obtain ⟨v, d, rfl, _⟩ := h; rfl
  · obtain ⟨v, d, rfl, hd, hz, q⟩ := h
    have hu := hr.units
    refine ⟨_, (pss_one (ps_ret (pe_and (pe_cal CIsInteger hr (by rfl) pass0 (pa_cons (pv 0) pa_nil)) (pe_one (pe_cmpR op_ge (pv 0) pe_int (nomark _)))))), ?_⟩
    refine ⟨v, rfl, v, d, rfl, hd, hz, fun H1 s1 => ⟨_, rfl, ?_⟩⟩
    have qq := q H1 s1
    cases d with
    | int i =>
      cases hd
      exact iteT ⟨_, rfl, _, _, rfl, rfl, qq⟩
    | _ => exact iteF qq
theorem ok_IsState {f : Addr} {fd : FuncData} {k : Nat} (F : Fun K "is_state" "is_state" sIsState f fd)   (CIsInteger : Cal P w K mg base k "is_integer" ["thing"] (spLook K isIntD)) : FnOk P w K mg base CX0 (k + 1) f fd ["thing", "size"] (spLookN K stateD) := by
  refine F.ok scIsState (fun vs H Q E h => ?_) (fun cdv A outer s H vs Q E hr h => ?_)
  · obtain ⟨v, d, n, rfl, _⟩ := h; rfl
  · obtain ⟨v, d, n, rfl, hd, hz, q⟩ := h
    have hu := hr.units
    refine ⟨_, (pss_one (ps_ret (pe_and (pe_cal CIsInteger hr (by rfl) pass0 (pa_cons (pv 0) pa_nil)) (pe_one (pe_chain op_le op_lt pe_int (pv 0) (pv 1)))))), ?_⟩
    refine ⟨v, rfl, v, d, rfl, hd, hz, fun H1 s1 => ⟨_, rfl, ?_⟩⟩
    have qq := q H1 s1
    cases d with
    | int i =>
      cases hd
      refine iteT ⟨_, rfl, _, _, rfl, rfl, _, rfl, ?_⟩
      by_cases h0 : 0 ≤ i
      · simp only [stateD, decide_eq_true h0, Bool.true_and] at qq
        rw [decide_eq_true h0]
        exact iteT ⟨_, rfl, _, _, rfl, rfl, qq⟩
      · simp only [stateD, decide_eq_false h0, Bool.false_and] at qq
        rw [decide_eq_false h0]
        exact iteF qq
    | _ => exact iteF qq
end
end KP
/-! Slices and sums of tuples, told by what they hold; zip of two tuples as a walk. -/
namespace EL
open PySem PySem.Spec PyProof.Rows L2
theorem sl_of {K : PySem.W.Frag} {a : Addr} {H : Hp} {xs : List V} {lo hi : Option Int} {Q : VK} (h : SqT K H a xs) (k : ∀ b H', Same H H' → SqT K H' b (cutV xs lo hi) → Q (.ref b) H') : rSlA K (.ref a) lo hi H Q := by
  refine ⟨a, xs, rfl, h, fun hw => k a H (Same.refl H) ?_, fun _ p np => k p _ (same_upd np) (stOf upd_same)⟩
  have : cutV xs lo hi = xs := by
    unfold cutV
    rw [hw.1, hw.2, List.drop_zero, Nat.sub_zero, List.take_of_length_le (Nat.le_refl _)]
  rw [this]; exact h
theorem cat_of {K : PySem.W.Frag} {a b : Addr} {H : Hp} {xs ys : List V} {Q : VK} (h1 : SqT K H a xs) (h2 : SqT K H b ys) (hz : xs.length + ys.length ≤ 1000000) (k : ∀ c H', Same H H' → SqT K H' c (xs ++ ys) → Q (.ref c) H') : rCatA K (.ref a) (.ref b) H Q := by
  refine ⟨a, b, xs, ys, rfl, rfl, h1, h2, len_sz hz, fun e => k b H (Same.refl H) (by rw [e]; exact h2), fun _ e => k a H (Same.refl H) (by rw [e, List.append_nil]; exact h1), fun _ _ p np => k p _ (same_upd np) (stOf upd_same)⟩
theorem cut_tk (xs : List V) (n : Nat) : cutV xs none (some (n : Int)) = xs.take n := by
  unfold cutV
  rw [HT.sIx_nat, HT.sIx_none, List.drop_zero, Nat.sub_zero, List.take_eq_take_iff]
  omega
theorem cut_dp (xs : List V) (n : Nat) : cutV xs (some (n : Int)) none = xs.drop n := by
  unfold cutV
  rw [HT.sIx_nat, HT.sIx_none]
  by_cases h : n ≤ xs.length
  · rw [Nat.min_eq_left h, List.take_of_length_le (by rw [List.length_drop]; omega)]
  · rw [Nat.min_eq_right (by omega), List.drop_of_length_le (Nat.le_refl _), List.drop_of_length_le (by omega), List.take_nil]
theorem walk_zipT {K : PySem.W.Frag} {a b : Addr} {xs ys : List V} {n : Nat} (hn : n = min xs.length ys.length) : Walk (RZ.ItzT K a b) n (fun H => SqT K H a xs ∧ SqT K H b ys) (YPair (fun i => xs[i]?) (fun i => ys[i]?)) := by
  subst hn
  refine ⟨fun i _ hi q => ?_, fun _ q => ⟨xs, ys, q.1, q.2, by omega⟩, fun i H v H' _ q y => ?_⟩
  · have h1 : i < xs.length := by omega
    have h2 : i < ys.length := by omega
    exact ⟨xs, ys, xs[i], ys[i], q.1, q.2, by simp [h1], by simp [h2]⟩
  · obtain ⟨T, x, z, h1, h2, h3, h4, h5⟩ := y
    exact ⟨T, x, z, h1, h2, h3, h4 xs q.1, h5 ys q.2⟩
theorem dqAll_ints {K : PySem.W.Frag} {H : Hp} : ∀ {ns : List Int} {xs : List V}, DqAll K H xs (ns.map PyData.int) → xs = ns.map V.int
  | [], _, h => by cases h; rfl
  | n :: r, _, h => by
    cases h with
    | cons h1 h2 => cases h1; rw [dqAll_ints h2]; rfl
theorem ints_dqAll {K : PySem.W.Frag} {H : Hp} : ∀ ns : List Int, DqAll K H (ns.map V.int) (ns.map PyData.int)
  | [] => .nil
  | n :: r => .cons (.int n) (ints_dqAll r)
end EL
namespace KP
open PySem PySem.Spec PyProof.Rows L2 EL
open Evl (pss_cut)
theorem ascI_zip : ∀ l : List Int, ascI l = ((l.zip (l.drop 1)).map fun p => decide (p.1 < p.2)).all id
  | [] => rfl
  | [_] => rfl
  | a :: b :: r => by
    have ih := ascI_zip (b :: r)
    simp only [ascI, List.drop_succ_cons, List.drop_zero, List.zip_cons_cons, List.map_cons, List.all_cons, id_eq] at ih ⊢
    rw [ih]
theorem all_ints {n : Int} : ∀ {ds : List PyData}, ds.all (stateD n) = true → ds = (ds.map intOf).map PyData.int
  | [], _ => rfl
  | d :: r, h => by
    obtain ⟨h1, h2⟩ : stateD n d = true ∧ r.all (stateD n) = true := by simpa using h
    have := all_ints h2
    cases d with
    | int i => simp only [List.map_cons, intOf]; rw [← this]
    | _ => cases h1
section
variable {P : Program} {w : World} {K : PySem.W.Frag} {mg : Str → Option Value} {base : Heap}
theorem ok_IsTupleOfStates {f : Addr} {fd : FuncData} {k : Nat} (F : Fun K "is_tuple_of_states" "is_tuple_of_states" sIsTupleOfStates f fd) (nisinstance : mg "isinstance" = none) (ntuple : mg "tuple" = none) (nall : mg "all" = none) (nzip : mg "zip" = none)  (CIsState : Cal P w K mg base k "is_state" ["thing", "size"] (spLookN K stateD)) : FnOk P w K mg base CX0 (k + 1) f fd ["thing", "size"] (spLookN K statesD) := by
  refine F.ok scIsTupleOfStates (fun vs H Q E h => ?_) (fun cdv A outer s H vs Q E hr h => ?_)
  · obtain ⟨v, d, n, rfl, _⟩ := h; rfl
  · obtain ⟨v, d, n, rfl, hd, hz, q⟩ := h
    have hu := hr.units
    refine ⟨_, (pss_cons (ps_if (PW.pt (pw_or (pt_not (pt_val (pe_callB call_isi (by rfl) nisinstance boot_isinstance (pa_cons (pv 0) (pa_cons (pe_tyN ntuple boot_tuple) pa_nil))))) (pw_or1 (pt_not (pt_val (pe_callB (cr_all rfl) (by rfl) nall (by decide +kernel) (pa_cons (pe_lc (own := [("part", 4)]) (g := (gName 4)) (by rfl) scIsTupleOfStates.nd (pi_tup (pv 0)) (blkOk_by (own := [("part", 4)]) (N := ["thing", "size", "low", "high", "part"]) (sc := defScope sIsTupleOfStates) (by decide +kernel)) (fun _ _ _ _ _ => (pg_name (i := 4) scIsTupleOfStates.nd rfl (by first | exact Or.inl rfl | exact Or.inr rfl))) (fun _ _ _ _ _ => pts_nil) (fun _ _ _ _ _ => (pe_cal CIsState hr (by rfl) pass0 (pa_cons (pv 4) (pa_cons (pv 1) pa_nil))))) pa_nil))))))) (pss_one (ps_ret pe_bl)) pss_nil)
      (pss_one (ps_ret (pe_callB (cr_all rfl) (by rfl) nall (by decide +kernel) (pa_cons (pe_lc (own := [("low", 2), ("high", 3)]) (g := (gTup K 2 (gCons (gName 2) (gCons (gName 3) gNil)))) (by rfl) scIsTupleOfStates.nd (RZ.pi_zipA (by rfl) nzip (pa_cons (pv 0) (pa_cons (pe_slice sl_tupA (pv 0) (po_some pe_int) po_none) pa_nil))) (blkOk_by (own := [("low", 2), ("high", 3)]) (N := ["thing", "size", "low", "high", "part"]) (sc := defScope sIsTupleOfStates) (by decide +kernel)) (fun _ _ _ _ _ => (pg_tup (by rfl) (pgs_cons (pg_name (i := 2) scIsTupleOfStates.nd rfl (by first | exact Or.inl rfl | exact Or.inr rfl)) (pgs_cons (pg_name (i := 3) scIsTupleOfStates.nd rfl (by first | exact Or.inl rfl | exact Or.inr rfl)) pgs_nil)))) (fun _ _ _ _ _ => pts_nil) (fun _ _ _ _ _ => (pe_cmpR op_lt (pv 2) (pv 3) (nomark _)))) pa_nil))))), ?_⟩
    refine ⟨v, rfl, v, .ty "tuple", _, _, _, rfl, .ty "tuple", tyx_of hd, kit_ty (kit_tuple d), _, rfl, ?_⟩
    cases d with
    | tuple ds =>
      cases hd with
      | tup hs ha =>
      rename_i a xs
      have hzz : PyData.bulkAll ds ≤ 500000 := hz
      have hlen : xs.length ≤ 500000 := by rw [ha.len]; exact Nat.le_trans (bulk_len ds) hzz
      refine iteF ?_
      refine ⟨.ref a, rfl, a, rfl, ⟨xs, hs⟩, fun D nD => ?_⟩
      refine lc_it walk_tup (LcP D (fun _ H' => Same H H') (fun j v => ∃ e, ds[j]? = some e ∧ v = some (.bl (stateD n e)))) (LcP.start (same_upd nD)) (fun i H' _ p => by obtain ⟨_, _, _, _, sm⟩ := p; exact ex_t' sm hs) ?_ ?_
      · rintro i y H1 H2 hi ⟨ys, hl, hR, hD, sm⟩ ⟨rfl, hy⟩
        obtain ⟨e, ee, he⟩ := ha.at hy
        refine ⟨rfl, ?_⟩
        dsimp only [tYes]
        refine iteT ?_
        refine ⟨y, rfl, _, rfl, y, e, n, rfl, he.up sm, sz_mem hzz e (List.mem_of_getElem? ee), fun H3 sm3 => ?_⟩
        exact lcp_some hl hR (sm3 _ _ hD) (by omega) ⟨e, ee, rfl⟩ fun b o q => by rw [upd_ne (ne_of_none q nD)]; exact sm3 _ _ (sm b o q)
      rintro H1 ⟨ys, hl, hR, hD, sm⟩
      have e1 := rows_map (f := fun e => some (V.bl (stateD n e))) (l := ds) (by rw [hl, ha.len]) hR
      refine ⟨D, ds.map (stateD n), rfl, sqOf (by rw [hD, e1]; simp [List.filterMap_map, Function.comp_def]), _, rfl, ?_⟩
      have e2 : (ds.map (stateD n)).all id = ds.all (stateD n) := by simp [List.all_map, Function.comp_def]
      rw [e2]
      cases hall : ds.all (stateD n) with
      | false =>
        refine iteT ?_
        have := q H1 sm
        simp only [statesD, hall, Bool.false_and] at this
        exact this
      | true =>
        refine iteF ?_
        have hds := all_ints hall
        simp only [statesD, hall, Bool.true_and] at q
        generalize ds.map intOf = ns at hds q
        subst hds
        obtain rfl := dqAll_ints ha
        have hnl : ns.length ≤ 500000 := by simpa using hlen
        refine ⟨.ref a, rfl, .ref a, rfl, 1, rfl, ?_⟩
        dsimp only [tNoPart]
        refine sl_of (ex_t' sm hs) fun b H2 s2 h2 => ?_
        rw [show cutV (ns.map V.int) (some 1) none = (ns.drop 1).map V.int by rw [show (1 : Int) = ((1 : Nat) : Int) from rfl, cut_dp, List.map_drop]] at h2
        have h3 := ex_t' s2 (ex_t' sm hs)
        refine ⟨a, b, _, _, rfl, .inr ⟨h3, h2, fun D2 nD2 => ?_⟩⟩
        have hn : (ns.zip (ns.drop 1)).length = min (ns.map V.int).length ((ns.drop 1).map V.int).length := by simp
        refine lc_it (walk_zipT hn) (LcP D2 (fun _ H' => Same H2 H') (fun j v => ∃ p, (ns.zip (ns.drop 1))[j]? = some p ∧ v = some (.bl (decide (p.1 < p.2))))) (LcP.start (same_upd nD2)) (fun i H' _ p => by obtain ⟨_, _, _, _, sm⟩ := p; exact ⟨ex_t' sm h3, ex_t' sm h2⟩) ?_ ?_
        · rintro i y H3 H4 hi ⟨ys, hl, hR, hD2, sm2⟩ ⟨T, x, z, rfl, nT, rfl, hx, hy⟩
          obtain ⟨x', ex, rfl⟩ := get_map_int hx
          obtain ⟨z', ez, rfl⟩ := get_map_int hy
          have eT : SqT K (upd H3 T (.tup [.int x', .int z'])) T [.int x', .int z'] := stOf upd_same
          have lz : (ns.zip (ns.drop 1)).length ≤ 500000 := by rw [List.length_zip]; omega
          refine ⟨T, _, rfl, eT, rfl, _, _, rfl, _, _, rfl, rfl, rfl, ?_⟩
          dsimp only [tYes]
          refine iteT ⟨_, rfl, _, rfl, _, _, rfl, rfl, ?_⟩
          refine lcp_some hl hR (by rw [upd_ne (ne_of_none hD2 nT)]; exact hD2) (by omega) ⟨(x', z'), List.getElem?_zip_eq_some.mpr ⟨ex, ez⟩, rfl⟩ fun b o q => ?_
          rw [upd_ne (ne_of_none q nD2), upd_ne (ne_of_none (sm2 b o q) nT)]; exact sm2 b o q
        · rintro H3 ⟨ys, hl, hR, hD2, sm2⟩
          have e4 := rows_map (f := fun p : Int × Int => some (V.bl (decide (p.1 < p.2)))) (l := ns.zip (ns.drop 1)) hl hR
          refine ⟨D2, (ns.zip (ns.drop 1)).map (fun p => decide (p.1 < p.2)), rfl, sqOf (by rw [hD2, e4]; simp [List.filterMap_map, Function.comp_def]), ?_⟩
          rw [← ascI_zip]
          exact q H3 (sm.trans (s2.trans sm2))
    | _ => exact iteT (q H (Same.refl H))
end
end KP
namespace KP
open PySem PySem.Spec PyProof.Rows L2 EL
/-! ### the mathematics: signs, rows -/
abbrev dash : Str := "-"
def isSignD : PyData → Bool
  | .str x => decide (V.str x = V.str dash) || (isTextD (.str x) && decide (V.int (x.length : Nat) = V.int 1))
  | _ => false
def isPairD : PyData → Bool
  | .tuple ds => match ds with
    | [d, e] => isSignD d && isSignD e
    | _ => false
  | _ => false
/-- a pair of signs by their codes -/
abbrev pr (p : Nat × Nat) : PyData := .tuple [.str ⟨#[p.1]⟩, .str ⟨#[p.2]⟩]
theorem dash_cps : dash = ⟨#[45]⟩ := by decide
/-- what stands for a sign -/
def okS (c : Nat) : Bool := decide (c = 45) || isLow c
theorem low_45 : isLow 45 = false := by decide
theorem sign_iff (x : Str) : isSignD (.str x) = true ↔ ∃ c, x = ⟨#[c]⟩ ∧ okS c = true := by
  constructor
  · intro h
    simp only [isSignD, Bool.or_eq_true, Bool.and_eq_true, decide_eq_true_eq, V.str.injEq, V.int.injEq] at h
    rcases h with h | ⟨h1, h2⟩
    · exact ⟨45, h.trans dash_cps, by simp [okS]⟩
    · obtain ⟨a⟩ := x
      have hs : a.size = 1 := by exact_mod_cast h2
      obtain ⟨c, rfl⟩ : ∃ c, a = #[c] := by
        refine ⟨a[0], ?_⟩
        apply Array.ext
        · simp [hs]
        · intro i h1 h2
          have : i = 0 := by simp at h2; exact h2
          subst this; simp
      refine ⟨c, rfl, ?_⟩
      simp [isTextD] at h1
      simp [okS, h1]
  · rintro ⟨c, rfl, h⟩
    simp only [okS, Bool.or_eq_true, decide_eq_true_eq] at h
    simp only [isSignD, Bool.or_eq_true, Bool.and_eq_true, decide_eq_true_eq, V.str.injEq, V.int.injEq]
    rcases h with rfl | h
    · exact .inl dash_cps.symm
    · exact .inr ⟨by simp [isTextD, h], rfl⟩
/-- filled up by dashes -/
def padL (xs : List Nat) (n : Nat) : List Nat := xs ++ List.replicate (n - xs.length) 45
theorem padL_len {xs : List Nat} {n : Nat} (h : xs.length ≤ n) : (padL xs n).length = n := by
  unfold padL; rw [List.length_append, List.length_replicate]; omega
/-- the row of a pair, by codes -/
def rowN (xs ys : List Nat) : List (Nat × Nat) := (padL xs (max xs.length ys.length)).zip (padL ys (max xs.length ys.length))
theorem pairsD_zip : ∀ xs ys : List Nat, pairsD xs ys = (xs.zip ys).map pr
  | [], _ => by cases ‹List Nat› <;> rfl
  | _ :: _, [] => rfl
  | x :: xs, y :: ys => by
    show _ :: pairsD xs ys = _ :: (xs.zip ys).map pr
    rw [pairsD_zip xs ys]
/-- the left and right texts -/
def leftN (ps : List (Nat × Nat)) : List Nat := (ps.map (·.1)).filter (fun c => decide (c ≠ 45))
def rightN (ps : List (Nat × Nat)) : List Nat := (ps.map (·.2)).filter (fun c => decide (c ≠ 45))
/-- data that is made of pairs of single signs -/
def dec : List PyData → Option (List (Nat × Nat))
  | [] => some []
  | .tuple [.str a, .str b] :: r => match a.cps.toList, b.cps.toList, dec r with
    | [c], [d], some q => some ((c, d) :: q)
    | _, _, _ => none
  | _ :: _ => none
end KP
namespace KP
open PySem PySem.Spec PyProof.Rows L2 EL
open Evl (pss_cut)
abbrev sIsLetter : Stmt := topS 15
theorem scIsLetter : FnScope ["thing"] ["thing"] (defScope sIsLetter) := ⟨rfl, rfl, rfl, by decide +kernel, rfl, by decide +kernel, by decide +kernel⟩
def isLetterD : PyData → Bool
  | .str x => isTextD (.str x) && decide (V.int (x.length : Nat) = V.int 1)
  | _ => false
abbrev sIsSign : Stmt := topS 16
theorem scIsSign : FnScope ["thing"] ["thing"] (defScope sIsSign) := ⟨rfl, rfl, rfl, by decide +kernel, rfl, by decide +kernel, by decide +kernel⟩
abbrev sIsPairOfSigns : Stmt := topS 17
theorem scIsPairOfSigns : FnScope ["thing"] ["thing"] (defScope sIsPairOfSigns) := ⟨rfl, rfl, rfl, by decide +kernel, rfl, by decide +kernel, by decide +kernel⟩
abbrev sRowOf : Stmt := topS 18
theorem scRowOf : FnScope ["left", "right", "longer"] ["left", "right"] (defScope sRowOf) := ⟨rfl, rfl, rfl, by decide +kernel, rfl, by decide +kernel, by decide +kernel⟩
/-- the row of two texts -/
def spRow (K : PySem.W.Frag) : Sp := fun vs H Q _ => ∃ a b : Str, vs = [.str a, .str b] ∧ a.length ≤ 1000000 ∧ b.length ≤ 1000000 ∧ ∀ p H', Same H H' → Dq K H' (.ref p) (.tuple ((rowN a.cps.toList b.cps.toList).map pr)) → Q (.ref p) H'
section
variable {P : Program} {w : World} {K : PySem.W.Frag} {mg : Str → Option Value} {base : Heap}
theorem ok_IsLetter {f : Addr} {fd : FuncData} {k : Nat} (F : Fun K "is_letter" "is_letter" sIsLetter f fd) (nlen : mg "len" = none) (CIsText : Cal P w K mg base k "is_text" ["thing"] (spLook K isTextD)) : FnOk P w K mg base CX0 (k + 1) f fd ["thing"] (spLook K isLetterD) := by
  refine F.ok scIsLetter (fun vs H Q E h => ?_) (fun cdv A outer s H vs Q E hr h => ?_)
  · obtain ⟨v, d, rfl, _⟩ := h; rfl
  · obtain ⟨v, d, rfl, hd, hz, q⟩ := h
    have hu := hr.units
    refine ⟨_, (pss_one (ps_ret (pe_and (pe_cal CIsText hr (by rfl) pass0 (pa_cons (pv 0) pa_nil)) (pe_one (pe_cmpR op_eq (pe_callB call_len (by rfl) nlen boot_len (pa_cons (pv 0) pa_nil)) pe_int (nomark _)))))), ?_⟩
    refine ⟨v, rfl, v, d, rfl, hd, hz, fun H1 sm => ⟨_, rfl, ?_⟩⟩
    cases d with
    | str x =>
      cases hd
      cases ht : isTextD (.str x) with
      | false =>
        refine iteF ?_
        have e2 : isLetterD (.str x) = false := by simp [isLetterD, ht]
        rw [← e2]; exact q H1 sm
      | true =>
        have hl : x.length ≤ 1000000 := Nat.le_trans (show x.cps.size ≤ 500000 from hz) (by decide)
        refine iteT ?_
        refine ⟨.str x, rfl, .str x, (x.length : Nat), rfl, ⟨len_sz hl, rfl⟩, rfl, ?_⟩
        have e2 : decide (V.int (x.length : Nat) = V.int 1) = isLetterD (.str x) := by simp [isLetterD, ht]
        rw [e2]; exact q H1 sm
    | _ => exact iteF (q H1 sm)
theorem ok_IsSign {f : Addr} {fd : FuncData} {k : Nat} (F : Fun K "is_sign" "is_sign" sIsSign f fd) (m_NO_LETTER : StrAt mg "NO_LETTER" dash) (CIsLetter : Cal P w K mg base k "is_letter" ["thing"] (spLook K isLetterD)) : FnOk P w K mg base CX0 (k + 1) f fd ["thing"] (spLook K isSignD) := by
  refine F.ok scIsSign (fun vs H Q E h => ?_) (fun cdv A outer s H vs Q E hr h => ?_)
  · obtain ⟨v, d, rfl, _⟩ := h; rfl
  · obtain ⟨v, d, rfl, hd, hz, q⟩ := h
    have hu := hr.units
    refine ⟨_, (pss_one (ps_ret (pe_or (pe_cmpR (op_eqS hu) (pv 0) (pe_gstr m_NO_LETTER) (nomark _)) (pe_one (pe_cal CIsLetter hr (by rfl) pass0 (pa_cons (pv 0) pa_nil)))))), ?_⟩
    refine ⟨v, rfl, ⟨d, hd⟩, ⟨_, rfl⟩, _, rfl, ?_⟩
    by_cases e : v = .str dash
    · rw [decide_eq_true e]
      refine iteT ?_
      subst e
      have e2 : isSignD d = true := by
        cases hd
        simp [isSignD]
      have := q H (Same.refl H)
      rw [e2] at this; exact this
    · rw [decide_eq_false e]
      refine iteF ?_
      refine ⟨v, rfl, v, d, rfl, hd, hz, fun H1 sm => ?_⟩
      have e2 : isLetterD d = isSignD d := by
        cases d with
        | str x => cases hd; simp [isSignD, isLetterD, e]
        | _ => rfl
      rw [e2]; exact q H1 sm
theorem ok_IsPairOfSigns {f : Addr} {fd : FuncData} {k : Nat} (F : Fun K "is_pair_of_signs" "is_pair_of_signs" sIsPairOfSigns f fd) (nisinstance : mg "isinstance" = none) (nlen : mg "len" = none) (ntuple : mg "tuple" = none) (CIsSign : Cal P w K mg base k "is_sign" ["thing"] (spLook K isSignD)) : FnOk P w K mg base CX0 (k + 1) f fd ["thing"] (spLook K isPairD) := by
  refine F.ok scIsPairOfSigns (fun vs H Q E h => ?_) (fun cdv A outer s H vs Q E hr h => ?_)
  · obtain ⟨v, d, rfl, _⟩ := h; rfl
  · obtain ⟨v, d, rfl, hd, hz, q⟩ := h
    have hu := hr.units
    refine ⟨_, (pss_one (ps_ret (pe_and (pe_callB call_isi (by rfl) nisinstance boot_isinstance (pa_cons (pv 0) (pa_cons (pe_tyN ntuple boot_tuple) pa_nil))) (pe_and (pe_cmpR op_eq (pe_callB call_len (by rfl) nlen boot_len (pa_cons (pv 0) pa_nil)) pe_int (nomark _)) (pe_and (pe_cal CIsSign hr (by rfl) pass0 (pa_cons (pe_ix ix_seq (pv 0) pe_int (fun _ _ => rfl)) pa_nil)) (pe_one (pe_cal CIsSign hr (by rfl) pass0 (pa_cons (pe_ix ix_seq (pv 0) pe_int (fun _ _ => rfl)) pa_nil)))))))), ?_⟩
    refine ⟨v, rfl, v, .ty "tuple", _, _, _, rfl, .ty "tuple", tyx_of hd, kit_ty (kit_tuple d), _, rfl, ?_⟩
    cases d with
    | tuple ds =>
      cases hd with
      | tup hs ha =>
      rename_i a xs
      refine iteT ?_
      refine ⟨.ref a, rfl, .ref a, (xs.length : Nat), rfl, .inr ⟨xs, hs, rfl⟩, rfl, _, rfl, ?_⟩
      have hzz : PyData.bulkAll ds ≤ 500000 := hz
      by_cases e : V.int (xs.length : Nat) = V.int 2
      · rw [decide_eq_true e]
        refine iteT ?_
        have e2 : xs.length = 2 := by
          have := V.int.inj e
          exact_mod_cast this
        match ds, ha, hzz, q with
        | [d0, d1], ha, hzz, q =>
          cases ha with
          | cons h0 ha =>
            cases ha with
            | cons h1 ha =>
              cases ha
              rename_i x0 x1
              refine ⟨.ref a, rfl, .inr (.inl ⟨a, [x0, x1], 0, x0, rfl, rfl, hs, rfl, x0, d0, rfl, h0, sz_mem hzz d0 (by simp), fun H1 sm => ⟨_, rfl, ?_⟩⟩)⟩
              cases b0 : isSignD d0 with
              | false =>
                refine iteF ?_
                have := q H1 sm
                rw [show isPairD (.tuple [d0, d1]) = false by simp [isPairD, b0]] at this
                exact this
              | true =>
                refine iteT ?_
                refine ⟨.ref a, rfl, .inr (.inl ⟨a, [x0, x1], 1, x1, rfl, rfl, ex_t' sm hs, rfl, x1, d1, rfl, h1.up sm, sz_mem hzz d1 (by simp), fun H2 sm2 => ?_⟩)⟩
                have := q H2 (sm.trans sm2)
                rw [show isPairD (.tuple [d0, d1]) = isSignD d1 by simp [isPairD, b0]] at this
                exact this
        | [], ha, _, _ => rw [ha.len] at e2; simp at e2
        | [_], ha, _, _ => rw [ha.len] at e2; simp at e2
        | _ :: _ :: _ :: _, ha, _, _ => rw [ha.len] at e2; simp at e2
      · rw [decide_eq_false e]
        refine iteF ?_
        have e3 : isPairD (.tuple ds) = false := by
          match ds, ha with
          | [], _ => rfl
          | [_], _ => rfl
          | _ :: _ :: _ :: _, _ => rfl
          | [_, _], ha => exact absurd (by rw [ha.len]; rfl) e
        rw [← e3]
        exact q H (Same.refl H)
    | _ => exact iteF (q H (Same.refl H))
theorem pad_ok {n : Nat} (h : n ≤ 1000000) : PadOk (n : Int) = true := by
  unfold PadOk
  have h1 : fitsSsize (n : Int) = true := by
    unfold fitsSsize
    simp only [Bool.and_eq_true, decide_eq_true_eq, Bool.not_eq_true', Bool.or_eq_false_iff, decide_eq_false_iff_not]
    omega
  rw [h1]
  unfold Builtin.Str.tooLong
  simp only [Int.toNat_natCast, Bool.true_and, Bool.not_eq_true', decide_eq_false_iff_not]
  rw [sizeLine_eq]
  omega
theorem ok_RowOf {f : Addr} {fd : FuncData} {k : Nat} (F : Fun K "row_of" "row_of" sRowOf f fd) (nlen : mg "len" = none) (nmax : mg "max" = none) (ntuple : mg "tuple" = none) (nzip : mg "zip" = none) (m_NO_LETTER : StrAt mg "NO_LETTER" dash) : FnOk P w K mg base CX0 (k + 1) f fd ["left", "right"] (spRow K) := by
  refine F.ok scRowOf (fun vs H Q E h => ?_) (fun cdv A outer s H vs Q E hr h => ?_)
  · obtain ⟨a, b, rfl, _⟩ := h; rfl
  · obtain ⟨a, b, rfl, ha, hb, q⟩ := h
    have hu := hr.units
    refine ⟨_, (pss_cons (ps_set (i := 2) scRowOf.nd rfl (by first | exact Or.inl rfl | exact Or.inr rfl) (pe_callB (call_max2 rfl) (by rfl) nmax (by decide +kernel) (pa_cons (pe_callB call_len (by rfl) nlen boot_len (pa_cons (pv 0) pa_nil)) (pa_cons (pe_callB call_len (by rfl) nlen boot_len (pa_cons (pv 1) pa_nil)) pa_nil))))
      (pss_one (ps_ret (pe_tupzip rfl ntuple nzip (pe_bm PySem.F.plainAttrs_str PySem.F.slot_str_ljust PySem.F.type_str_ljust mt_ljust3 (pv 0) (pa_cons (pv 2) (pa_cons (pe_gstr m_NO_LETTER) pa_nil))) (pe_bm PySem.F.plainAttrs_str PySem.F.slot_str_ljust PySem.F.type_str_ljust mt_ljust3 (pv 1) (pa_cons (pv 2) (pa_cons (pe_gstr m_NO_LETTER) pa_nil))))))), ?_⟩
    refine ⟨.str a, rfl, .str a, (a.length : Nat), rfl, ⟨len_sz ha, rfl⟩, .str b, rfl, .str b, (b.length : Nat), rfl, ⟨len_sz hb, rfl⟩, _, _, rfl, ?_⟩
    have em : (if (b.length : Int) > (a.length : Int) then (b.length : Int) else (a.length : Int)) = ((max a.length b.length : Nat) : Int) := by
      split <;> omega
    rw [em]
    generalize hm : max a.length b.length = m
    have hm1 : m ≤ 1000000 := by omega
    refine ⟨.str a, rfl, rfl, _, rfl, a, _, dash, rfl, rfl, pad_ok hm1, rfl, .str b, rfl, rfl, _, rfl, b, _, dash, rfl, rfl, pad_ok hm1, rfl, _, _, rfl, rfl, ?_, ?_, fun p H3 sm dq => ?_⟩
    · rw [← Array.length_toList, ← Array.length_toList, PyProof.Rows.ljustF_list, PyProof.Rows.ljustF_list, List.length_append, List.length_append, List.length_replicate, List.length_replicate, str_len a, str_len b]
      rw [str_len a, str_len b] at hm
      omega
    · rw [← Array.length_toList, PyProof.Rows.ljustF_list, List.length_append, List.length_replicate, str_len a]
      rw [str_len a, str_len b] at hm
      omega
    · refine q p H3 sm ?_
      rw [PyProof.Rows.ljustF_list, PyProof.Rows.ljustF_list, pairsD_zip] at dq
      have e1 : rowN a.cps.toList b.cps.toList = (a.cps.toList ++ List.replicate ((m : Int).toNat - a.length) (dash.cps.getD 0 0)).zip (b.cps.toList ++ List.replicate ((m : Int).toNat - b.length) (dash.cps.getD 0 0)) := by
        unfold rowN padL
        rw [← str_len a, ← str_len b, hm, Int.toNat_natCast]
        rfl
      rw [e1]; exact dq
end
end KP
namespace KP
open PySem PySem.Spec PyProof.Rows L2 EL
open Evl (pss_cut)
theorem dec_pr : ∀ ps : List (Nat × Nat), dec (ps.map pr) = some ps
  | [] => rfl
  | p :: r => by simp [dec, dec_pr r]
theorem one_code {a : Str} {c : Nat} (h : a.cps.toList = [c]) : a = ⟨#[c]⟩ := str_ext h
theorem dec_some : ∀ (ds : List PyData) (ps : List (Nat × Nat)), dec ds = some ps → ds = ps.map pr
  | [], ps, h => by
    simp only [dec, Option.some.injEq] at h; subst h; rfl
  | d :: r, ps, h => by
    unfold dec at h
    split at h
    · rename_i heq; cases heq
    · rename_i a b r' heq
      injection heq with e1 e2
      subst e1 e2
      split at h
      · rename_i c d' q h1 h2 h3
        obtain rfl := Option.some.inj h
        rw [one_code h1, one_code h2, dec_some r q h3]; rfl
      · cases h
    · cases h
/-- a look at a row -/
def isRowD : PyData → Bool
  | .tuple ds => match dec ds with
    | some ps => (ps.all fun p => okS p.1 && okS p.2) && decide (rowN (leftN ps) (rightN ps) = ps)
    | none => false
  | _ => false
theorem pairD_iff (d : PyData) : isPairD d = true ↔ ∃ p : Nat × Nat, d = pr p ∧ (okS p.1 && okS p.2) = true := by
  constructor
  · intro h
    unfold isPairD at h
    split at h
    · rename_i ds
      split at h
      · rename_i d e
        obtain ⟨h1, h2⟩ := Bool.and_eq_true_iff.mp h
        have strOf : ∀ x, isSignD x = true → ∃ y, x = .str y := fun x hx => by
          unfold isSignD at hx
          split at hx
          · exact ⟨_, rfl⟩
          · cases hx
        obtain ⟨y1, rfl⟩ := strOf d h1
        obtain ⟨y2, rfl⟩ := strOf e h2
        obtain ⟨c1, rfl, o1⟩ := (sign_iff y1).mp h1
        obtain ⟨c2, rfl, o2⟩ := (sign_iff y2).mp h2
        exact ⟨(c1, c2), rfl, by rw [o1, o2]; rfl⟩
      · cases h
    · cases h
  · rintro ⟨p, rfl, h⟩
    obtain ⟨h1, h2⟩ := Bool.and_eq_true_iff.mp h
    show (isSignD _ && isSignD _) = true
    rw [(sign_iff _).mpr ⟨p.1, rfl, h1⟩, (sign_iff _).mpr ⟨p.2, rfl, h2⟩]; rfl
theorem all_pairs : ∀ ds : List PyData, ds.all isPairD = true ↔ ∃ ps : List (Nat × Nat), ds = ps.map pr ∧ (ps.all fun p => okS p.1 && okS p.2) = true
  | [] => ⟨fun _ => ⟨[], rfl, rfl⟩, fun _ => rfl⟩
  | d :: r => by
    rw [List.all_cons, Bool.and_eq_true_iff, pairD_iff, all_pairs r]
    constructor
    · rintro ⟨⟨p, rfl, h⟩, ps, rfl, h2⟩
      exact ⟨p :: ps, rfl, by rw [List.all_cons, h, h2]; rfl⟩
    · rintro ⟨ps, h1, h2⟩
      cases ps with
      | nil => cases h1
      | cons p ps =>
        rw [List.map_cons] at h1
        injection h1 with e1 e2
        rw [List.all_cons, Bool.and_eq_true_iff] at h2
        exact ⟨⟨p, e1, h2.1⟩, ps, e2, h2.2⟩
theorem row_all {ds : List PyData} (h : ds.all isPairD = false) : isRowD (.tuple ds) = false := by
  cases e : dec ds with
  | none => simp only [isRowD, e]
  | some ps =>
    have e2 := dec_some ds ps e
    cases h3 : (ps.all fun p => okS p.1 && okS p.2) with
    | false => simp only [isRowD, e, h3, Bool.false_and]
    | true => rw [(all_pairs ds).mpr ⟨ps, e2, h3⟩] at h; cases h
theorem low_lt {c : Nat} (h : isLow c = true) : c < 128 := by
  have h2 : c ∈ (Str.ofString "abcdefghijklmnopqrstuvwxyz").cps.toList := of_decide_eq_true h
  have key : ∀ x ∈ (Str.ofString "abcdefghijklmnopqrstuvwxyz").cps.toList, x < 128 := by decide +kernel
  exact key c h2
theorem ok_lt {c : Nat} (h : okS c = true) : c < 128 := by
  simp only [okS, Bool.or_eq_true, decide_eq_true_eq] at h
  rcases h with rfl | h
  · decide
  · exact low_lt h
theorem strOk_one {c : Nat} (h : c < 128) : PyData.strOk ⟨#[c]⟩ = true := by
  simp [PyData.strOk]; omega
theorem canLay_pr {ps : List (Nat × Nat)} (h : ∀ p ∈ ps, p.1 < 128 ∧ p.2 < 128) : PyData.canLayAll0 (ps.map pr) = true := by
  induction ps with
  | nil => simp [PyData.canLayAll0]
  | cons p r ih =>
    obtain ⟨h1, h2⟩ := h p List.mem_cons_self
    have := ih fun q m => h q (List.mem_cons_of_mem _ m)
    simp [PyData.canLayAll0, PyData.canLay0, strOk_one h1, strOk_one h2, this]
theorem depth_pr (ps : List (Nat × Nat)) : PyData.depthAll (ps.map pr) ≤ 1 := by
  induction ps with
  | nil => simp [PyData.depthAll]
  | cons p r ih => simp only [List.map_cons, PyData.depthAll, PyData.depth]; omega
theorem shaped_pr {ps : List (Nat × Nat)} (h : ∀ p ∈ ps, p.1 < 128 ∧ p.2 < 128) : SeqAt.shaped (.tuple (ps.map pr)) = true := by
  have := depth_pr ps
  simp only [SeqAt.shaped, PyData.canLay0, canLay_pr h, Bool.true_and]
  refine decide_eq_true ?_
  simp only [PyData.depth]
  omega
theorem str_beq (c d : Nat) : ((⟨#[c]⟩ : Str) == ⟨#[d]⟩) = decide (c = d) := by
  by_cases h : c = d
  · subst h; simp
  · have : (⟨#[c]⟩ : Str) ≠ ⟨#[d]⟩ := fun e => h (by simpa using e)
    rw [decide_eq_false h]
    exact beq_eq_false_iff_ne.mpr this
theorem eqv_pr : ∀ ps qs : List (Nat × Nat), PyData.eqvAll (ps.map pr) (qs.map pr) = decide (ps = qs)
  | [], [] => by simp [PyData.eqvAll]
  | [], _ :: _ => by simp [PyData.eqvAll]
  | _ :: _, [] => by simp [PyData.eqvAll]
  | (a, b) :: r, (c, d) :: q => by
    have ih := eqv_pr r q
    simp only [List.map_cons, PyData.eqvAll, PyData.eqv, str_beq, ih, Bool.and_true]
    by_cases h1 : a = c <;> by_cases h2 : b = d <;> by_cases h3 : r = q <;> simp [h1, h2, h3]
mutual
theorem dp_of {K : PySem.W.Frag} {H : Hp} : ∀ (d : PyData) (v : V), Dq K H v d → d.hasDict = false → Dp K H v d
  | .none, _, h, _ => by cases h; exact .non
  | .bool b, _, h, _ => by cases h; exact .bl b
  | .int i, _, h, _ => by cases h; exact .int i
  | .str x, _, h, _ => by cases h; exact .str x
  | .list ds, _, h, n => by
    cases h with
    | lst hs ha => exact .lst hs (dpAll_of ds _ ha (by simpa [PyData.hasDict] using n))
  | .tuple ds, _, h, n => by
    cases h with
    | tup hs ha => exact .tup hs (dpAll_of ds _ ha (by simpa [PyData.hasDict] using n))
  | .dict _, _, h, n => by simp [PyData.hasDict] at n
theorem dpAll_of {K : PySem.W.Frag} {H : Hp} : ∀ (ds : List PyData) (vs : List V), DqAll K H vs ds → PyData.hasDictAll ds = false → DpAll K H vs ds
  | [], _, h, _ => by cases h; exact .nil
  | d :: ds, _, h, n => by
    cases h with
    | cons h1 h2 =>
      obtain ⟨n1, n2⟩ : d.hasDict = false ∧ PyData.hasDictAll ds = false := by simpa [PyData.hasDictAll] using n
      exact .cons (dp_of d _ h1 n1) (dpAll_of ds _ h2 n2)
end
theorem noDict_pr (ps : List (Nat × Nat)) : PyData.hasDictAll (ps.map pr) = false := by
  induction ps with
  | nil => simp [PyData.hasDictAll]
  | cons p r ih => simp [PyData.hasDictAll, PyData.hasDict]; exact ih
theorem mem_pad {xs : List Nat} {n c : Nat} (h : c ∈ padL xs n) : c ∈ xs ∨ c = 45 := by
  unfold padL at h
  rcases List.mem_append.mp h with h | h
  · exact .inl h
  · exact .inr (List.eq_of_mem_replicate h)
theorem row_lt {xs ys : List Nat} (h1 : ∀ c ∈ xs, c < 128) (h2 : ∀ c ∈ ys, c < 128) : ∀ p ∈ rowN xs ys, p.1 < 128 ∧ p.2 < 128 := fun p hp => by
  obtain ⟨a, b⟩ := p
  have z := List.of_mem_zip hp
  refine ⟨?_, ?_⟩
  · rcases mem_pad z.1 with q | q
    · exact h1 _ q
    · show a < 128; omega
  · rcases mem_pad z.2 with q | q
    · exact h2 _ q
    · show b < 128; omega
end KP
/-! The deck of draws beside a list that grows; rows of signs; numbers kept of a range. -/
namespace EL
open PySem PySem.Spec PyProof.Rows L2
theorem offNone {a q b : Addr} {m : Nat} {H H' : Hp} (o : Off a q H H') (d : Dw a q m H') (h : H' b = none) : H b = none := by
  cases e : H b with
  | none => rfl
  | some x =>
    obtain ⟨h1, h2⟩ := d.na h
    rw [o b x h1 h2 e] at h; cases h
theorem offUpd {a q b : Addr} {H H' : Hp} {x : HO} (o : Off a q H H') (h : H b = none) : Off a q H (upd H' b x) := fun c y h1 h2 e => by
  rw [upd_ne (ne_of_none e h)]; exact o c y h1 h2 e
theorem rows_signs {p : Nat → Prop} : ∀ {ys : List (Option V)}, (∀ (j : Nat) (v : Option V), ys[j]? = some v → ∃ c, p c ∧ v = some (.str ⟨#[c]⟩)) → ∃ cs : List Nat, ys.filterMap id = (cs.map fun c => (⟨#[c]⟩ : Str)).map V.str ∧ cs.length = ys.length ∧ ∀ c ∈ cs, p c
  | [], _ => ⟨[], rfl, rfl, fun _ m => (List.not_mem_nil m).elim⟩
  | y :: r, h => by
    obtain ⟨c, hc, e⟩ := h 0 y rfl
    obtain ⟨cs, e1, e2, e3⟩ := rows_signs (ys := r) fun j v e => h (j + 1) v (by rw [List.getElem?_cons_succ]; exact e)
    refine ⟨c :: cs, ?_, by rw [List.length_cons, List.length_cons, e2], fun d m => ?_⟩
    · subst e; rw [List.filterMap_cons]; simp only [id_eq, List.map_cons, e1]
    · rcases List.mem_cons.mp m with rfl | m
      · exact hc
      · exact e3 d m
theorem join_cps : ∀ cs : List Nat, (Str.join (Str.ofString "") (cs.map fun c => (⟨#[c]⟩ : Str))).cps.toList = cs
  | [] => rfl
  | [c] => rfl
  | c :: d :: r => by
    have ih := join_cps (d :: r)
    show ((⟨#[c]⟩ : Str) ++ Str.ofString "" ++ Str.join (Str.ofString "") ((d :: r).map fun c => (⟨#[c]⟩ : Str))).cps.toList = c :: d :: r
    rw [show ((⟨#[c]⟩ : Str) ++ Str.ofString "" ++ Str.join (Str.ofString "") ((d :: r).map fun c => (⟨#[c]⟩ : Str))).cps = #[c] ++ #[] ++ (Str.join (Str.ofString "") ((d :: r).map fun c => (⟨#[c]⟩ : Str))).cps from rfl, Array.toList_append, ih]
    rfl
theorem join_signs (cs : List Nat) : Txt.join (Str.ofString "") (cs.map fun c => (⟨#[c]⟩ : Str)) = ⟨cs.toArray⟩ := by
  refine str_ext ?_
  unfold Txt.join
  rw [StrLaws.glued_eq_join, join_cps]
theorem ones (cs : List Nat) : ((cs.map fun c => (⟨#[c]⟩ : Str)).map (·.length)).sum = cs.length := by
  induction cs with
  | nil => rfl
  | cons c r ih => rw [List.map_cons, List.map_cons, List.sum_cons, ih, List.length_cons, show (⟨#[c]⟩ : Str).length = 1 from rfl]; omega
theorem hid_upd {l : Addr} {H : Hp} {o : HO} : hid l l (upd H l o) = hid l l H := by
  funext b
  by_cases h : b = l
  · subst h; unfold hid; simp
  · rw [hid_ne h h, hid_ne h h, upd_ne h]
theorem hid_fresh {l p : Addr} {H : Hp} {o : HO} (h : H p = none) : Same (hid l l H) (hid l l (upd H p o)) := fun b x e => by
  obtain ⟨h1, _, h3⟩ := hid_some e
  rw [hid_ne h1 h1, upd_ne (ne_of_none h3 h)]; exact h3
theorem DqAll.snoc {K : PySem.W.Frag} {H : Hp} {v : V} {d : PyData} : ∀ {ds : List PyData} {vs : List V}, DqAll K H vs ds → Dq K H v d → DqAll K H (vs ++ [v]) (ds ++ [d])
  | [], _, h, e => by cases h; exact .cons e .nil
  | _ :: _, _, h, e => by
    cases h with
    | cons h1 h2 => exact .cons h1 (DqAll.snoc h2 e)
theorem same_hid {a q : Addr} {H H' : Hp} (s : Same H H') {m : Nat} (d : Dw a q m H) : Same (hid a q H) (hid a q H') := fun b o h => by
  obtain ⟨h1, h2, h3⟩ := hid_some h
  rw [hid_ne h1 h2]; exact s b o h3
theorem hid_of {a q p : Addr} {m : Nat} {H G : Hp} {o : HO} (d : Dw a q m H) (np : H p = none) (h : G p = some o) : hid a q G p = some o := by
  obtain ⟨h1, h2⟩ := d.na np
  rw [hid_ne h1 h2]; exact h
def hi (a q z : Addr) (H : Hp) : Hp := hid z z (hid a q H)
structure Dx (a q z : Addr) (m : Nat) (H : Hp) : Prop where
  dw : Dw a q m H
  li : z = a ∨ (z ≠ a ∧ z ≠ q ∧ ∃ ys, H z = some (.lst ys))
theorem Dx.step {a q z : Addr} {m n : Nat} {H H' : Hp} (d : Dx a q z m H) (o : EL.Off a q H H') (d' : Dw a q n H') : Dx a q z n H' :=
  ⟨d', d.li.imp id fun ⟨h1, h2, ys, h3⟩ => ⟨h1, h2, ys, o _ _ h1 h2 h3⟩⟩
theorem Dx.same {a q z : Addr} {m : Nat} {H H' : Hp} (d : Dx a q z m H) (s : Same H H') : Dx a q z m H' := d.step (.of_same s) (d.dw.same s)
theorem Dx.nz {a q z p : Addr} {m : Nat} {H : Hp} (d : Dx a q z m H) (h : H p = none) : p ≠ z := by
  rcases d.li with rfl | ⟨_, _, ys, h3⟩
  · exact (d.dw.na h).1
  · exact (ne_of_none h3 h).symm
theorem hi_sub {a q z : Addr} {H : Hp} : Same (hi a q z H) H := hid_sub.trans hid_sub
theorem hid_hid {z : Addr} {H H' : Hp} (s : Same H H') : Same (hid z z H) (hid z z H') := fun b o h => by
  obtain ⟨h1, _, h3⟩ := hid_some h
  rw [hid_ne h1 h1]; exact s b o h3
theorem off_hi {a q z : Addr} {H H' : Hp} (o : EL.Off a q H H') : Same (hi a q z H) (hi a q z H') := hid_hid o.hid
theorem hi_ne {a q z b : Addr} {H : Hp} (h1 : b ≠ a) (h2 : b ≠ q) (h3 : b ≠ z) : hi a q z H b = H b := by
  unfold hi; rw [hid_ne h3 h3, hid_ne h1 h2]
theorem same_hi {a q z : Addr} {H H' : Hp} (s : Same H H') {m : Nat} (d : Dx a q z m H) : Same (hi a q z H) (hi a q z H') := off_hi (.of_same s)
theorem hi_of {a q z p : Addr} {m : Nat} {H G : Hp} {o : HO} (d : Dx a q z m H) (np : H p = none) (h : G p = some o) : hi a q z G p = some o := by
  obtain ⟨h1, h2⟩ := d.dw.na np
  rw [hi_ne h1 h2 (d.nz np)]; exact h
theorem sqt_hid {K : PySem.W.Frag} {a q b : Addr} {m : Nat} {H : Hp} {xs : List V} (d : Dw a q m H) (h : SqT K H b xs) : SqT K (hid a q H) b xs := by
  obtain ⟨c, _, k⟩ := d
  obtain ⟨i, _, _, h3⟩ := k.top
  obtain ⟨ns, _, h5⟩ := k.que
  have ne : ∀ o, H b = some o → (∀ ys, o ≠ .lst ys) → (∀ ys, o ≠ .dK ys) → b ≠ a ∧ b ≠ q := fun o e n n' => ⟨fun z => by subst z; rw [h3] at e; exact n' _ (Option.some.inj e).symm, fun z => by subst z; rw [h5] at e; exact n _ (Option.some.inj e).symm⟩
  rcases h with (h | ⟨o, h⟩) | h
  · obtain ⟨n1, n2⟩ := ne _ h (fun _ z => nomatch z) (fun _ z => nomatch z)
    exact .inl (.inl (by rw [hid_ne n1 n2]; exact h))
  · obtain ⟨n1, n2⟩ := ne _ h (fun _ z => nomatch z) (fun _ z => nomatch z)
    exact .inl (.inr ⟨o, by rw [hid_ne n1 n2]; exact h⟩)
  · exact .inr h
theorem sqt_hi {K : PySem.W.Frag} {a q z b : Addr} {m : Nat} {H : Hp} {xs : List V} (d : Dx a q z m H) (h : SqT K H b xs) : SqT K (hi a q z H) b xs := by
  rcases d.li with rfl | ⟨_, _, ys, h3⟩
  · have e : hi z q z H = hid z q H := by
      funext b
      unfold hi
      by_cases hb : b = z
      · subst hb; unfold hid; simp
      · rw [hid_ne hb hb]
    rw [e]; exact sqt_hid d.dw h
  · have ne : ∀ o, H b = some o → (∀ ys, o ≠ .lst ys) → b ≠ z := fun o e n e2 => by subst e2; rw [h3] at e; exact n _ (Option.some.inj e).symm
    have h2 := sqt_hid d.dw h
    have key : ∀ o, (∀ ys, o ≠ .lst ys) → hid a q H b = some o → hi a q z H b = some o := fun o n e => by
      have := (hid_some e).2.2
      have nb := ne _ this n
      unfold hi; rw [hid_ne nb nb]; exact e
    rcases h2 with (h2 | ⟨o, h2⟩) | h2
    · exact .inl (.inl (key _ (fun _ z => nomatch z) h2))
    · exact .inl (.inr ⟨o, key _ (fun _ z => nomatch z) h2⟩)
    · exact .inr h2
theorem hi_upd {a q z : Addr} {H : Hp} {o : HO} : hi a q z (upd H z o) = hi a q z H := by
  funext b
  unfold hi
  by_cases h : b = z
  · subst h; unfold hid; simp
  · rw [hid_ne h h, hid_ne h h]
    unfold hid
    by_cases h2 : b = a ∨ b = q
    · rw [if_pos h2, if_pos h2]
    · rw [if_neg h2, if_neg h2, upd_ne h]
theorem rows_sub : ∀ (n0 : Nat) {ys : List (Option V)}, (∀ (j : Nat) (v : Option V), ys[j]? = some v → v = none ∨ v = some (.int ((n0 + j : Nat) : Int))) → ∃ ns : List Nat, ys.filterMap id = ns.map (fun (n : Nat) => V.int (n : Int)) ∧ ns.Pairwise (· < ·) ∧ (∀ x ∈ ns, n0 ≤ x ∧ x < n0 + ys.length) ∧ ns.length ≤ ys.length
  | _, [], _ => ⟨[], rfl, .nil, fun _ m => (List.not_mem_nil m).elim, Nat.le_refl _⟩
  | n0, y :: r, h => by
    obtain ⟨ns, e1, e2, e3, e4⟩ := rows_sub (n0 + 1) (ys := r) fun j v e => by
      have := h (j + 1) v (by rw [List.getElem?_cons_succ]; exact e)
      rwa [show n0 + (j + 1) = n0 + 1 + j by omega] at this
    rcases h 0 y rfl with rfl | rfl
    · refine ⟨ns, by rw [List.filterMap_cons]; simpa using e1, e2, fun x m => ?_, by rw [List.length_cons]; omega⟩
      have := e3 x m
      rw [List.length_cons]; omega
    · refine ⟨n0 :: ns, by rw [List.filterMap_cons]; simp only [id_eq, List.map_cons, e1, Nat.add_zero], .cons (fun x m => by have := e3 x m; omega) e2, fun x m => ?_, by rw [List.length_cons, List.length_cons]; omega⟩
      rw [List.length_cons]
      rcases List.mem_cons.mp m with rfl | m
      · omega
      · have := e3 x m; omega
end EL
/-! {x: True for x in e}, e a list of tuples: a dict whose keys are these tuples. -/
namespace EL
open PySem PySem.Spec PyProof.Rows L2
theorem upd_upd {H : Hp} {a : Addr} {x y : HO} : L2.upd (L2.upd H a x) a y = L2.upd H a y := by
  funext b
  by_cases h : b = a
  · subst h; rw [upd_same, upd_same]
  · rw [upd_ne h, upd_ne h, upd_ne h]
/-- the dict of the first keys -/
def dT1 (ks : List (List L2.Key)) : List (List L2.Key × V) := ks.foldl (fun acc k => putK acc k (.bl true)) []
theorem dT1_snoc (ks : List (List L2.Key)) (k : List L2.Key) : dT1 (ks ++ [k]) = putK (dT1 ks) k (.bl true) := by
  unfold dT1; rw [List.foldl_append]; rfl
theorem dT1_len (ks : List (List L2.Key)) : (dT1 ks).length ≤ ks.length := by
  have key : ∀ (ks : List (List L2.Key)) (acc : List (List L2.Key × V)), (ks.foldl (fun acc k => putK acc k (.bl true)) acc).length ≤ acc.length + ks.length := by
    intro ks
    induction ks with
    | nil => intro acc; exact Nat.le_refl _
    | cons k r ih =>
      intro acc
      have h1 := ih (putK acc k (.bl true))
      have h2 := length_putK acc k (V.bl true)
      simp only [List.foldl_cons, List.length_cons]; omega
  have := key ks []
  simpa [dT1] using this
def tDcT (K : PySem.W.Frag) (te : TE) : TE := fun σ H Q => te σ H fun v H1 => ∃ (l : Addr) (vs : List V) (ks : List (List L2.Key)), v = .ref l ∧ SqL K H1 l vs ∧ vs.length = ks.length ∧ vs.length ≤ 1000000 ∧
  (∀ (j : Nat) (k : List L2.Key), ks[j]? = some k → ∃ T, vs[j]? = some (.ref T) ∧ H1 T = some (.tup (k.map kV))) ∧ ∀ D, H1 D = none → Q (.ref D) (L2.upd H1 D (.dT (dT1 ks)))
section
variable {X : Cx} {e : Expr} {te : TE} {x : Str} {scope : Scope} {p0 p1 p2 pos : Pos} {kk : Nat}
theorem dct_goes {pins : List (Addr × Obj)} {σ : L2.St} {H1 : Hp} {s1 : Shared} {l : Addr} {vs : List V} {ks : List (List L2.Key)} {use : Option (Value → Sem Unit)} {Qf : Value → Shared → Prop} (hc : X.calm = true) (hu : X.A.units + 1 < cLine) (hx : scope.names.lookup x = some .local)
    (hkind : scope.kind = .function) (hdb : (x == ("__debug__" : Str)) = false) (I1 : Inv X pins σ H1 s1) (hS : SqL X.K H1 l vs) (hlen : vs.length = ks.length) (hsz : vs.length ≤ 1000000)
    (hk : ∀ (j : Nat) (k : List L2.Key), ks[j]? = some k → ∃ T, vs[j]? = some (.ref T) ∧ H1 T = some (.tup (k.map kV)))
    (fin : ∀ (D C : Addr) (m : Str → Option Value) (s' : Shared), H1 D = none → s'.heap.Ns C m → Inv X pins σ (L2.upd H1 D (.dT (dT1 ks))) s' → FpOk X pins (L2.upd H1 D (.dT (dT1 ks))) C → compEnds (model X.prog X.w) X.A X.xe use Qf (.ref D) (compEnvC scope [] C X.env) (.ok .next) s') :
    wpAny (model X.prog X.w) X.A (pyIter (.ref l)) (DcGoes X.prog X.w X.A X.xe X.env scope [] (.Name x p0) [] (.Name x p1) (.Constant (.bool true) kk p2) use Qf) X.xe s1 := by
  obtain ⟨its, rv, pl, hz⟩ := I1.list hS
  have hl : s1.heap.IsList l its.toArray := pl.isList
  refine wpAny_pyIter_list hl ?_
  have hh := I1.ok.hd hc
  have lI : l ≠ s1.heap.objs.size := fun e => by
    obtain ⟨o, ho, _⟩ := hl
    have := Heap.lt_size ho
    rw [e] at this
    exact Nat.lt_irrefl _ this
  have up2 : ∀ b o, s1.heap.get? b = some o → (s1.heap.push { cls := .type "list_iterator", data := .fields #[.ref l, .int 0 0] }).get? b = some o := fun b o e => Heap.get?_push_of_some _ e
  have sz2 : (s1.heap.push { cls := .type "list_iterator", data := .fields #[.ref l, .int 0 0] }).objs.size = s1.heap.objs.size + 1 := Heap.size_push ..
  generalize hI : s1.heap.objs.size = it at lI sz2 ⊢
  refine ⟨it, [it, l], [it], its.toArray.size, _, _, rfl, Goes.list hh it l lI its.toArray, ⟨⟨_, (by rw [← hI]; exact Heap.get?_push_size _ rfl), rfl, rfl⟩, ?_⟩, fun D C s3 cb hD => ?_⟩
  · obtain ⟨o, ho, hr⟩ := hl
    exact ⟨o, up2 _ _ ho, hr⟩
  have lenV : its.length = vs.length := rv.length.symm
  have nD : it + 1 ≤ D := by have := cb.newD; rw [← sz2]; exact this
  have nC : it + 1 ≤ C := by have := cb.newC; rw [← sz2]; exact this
  have old3 := cb.old
  have ns3 := cb.names
  have neDC := cb.ne
  obtain ⟨h3, tk3, rfl⟩ := cb.only
  have hD0 : H1 D = none := I1.hok.fresh (by omega)
  have hC0 : H1 C = none := I1.hok.fresh (by omega)
  have hI0 : H1 it = none := I1.hok.fresh (by omega)
  have fpI : ∀ o : HO, FpOk X pins (L2.upd H1 D o) it := fun o => I1.fpOk (by omega) (by rw [upd_ne (Nat.ne_of_lt nD)]; exact hI0)
  have fpC : ∀ o : HO, FpOk X pins (L2.upd H1 D o) C := fun o => I1.fpOk (by omega) (by rw [upd_ne neDC.symm]; exact hC0)
  refine ⟨fun i s' => ∃ m, s'.heap.Ns C m ∧ Inv X pins σ (L2.upd H1 D (.dT (dT1 (ks.take i)))) s', ⟨_, ns3, ?_⟩, ?_, ?_, ?_⟩
  · exact I1.laid (t' := tk3) (fun b o e => old3 b o (up2 b o e)) (by omega) ⟨Nat.zero_le _, beq_eq_false_iff_ne.mpr (Ne.symm (Nat.ne_of_lt (Nat.lt_of_lt_of_le I1.big (by rw [hI]; exact Nat.le_of_succ_le nD)))), [], .nil, _, #[], 0, hD, ⟨rfl, rfl, rfl⟩, rfl, rfl, List.nodup_nil⟩
  · rintro i s' h' tk ⟨m, hn, J⟩ k _
    obtain ⟨f0, f1, f2, f3, f4, f5⟩ := fpI (.dT (dT1 (ks.take i)))
    refine ⟨m, ?_, J.turned (t' := tk) (fun b o hb e => k b o (by simpa using hb) e) f0 f1 f3 f4 f5⟩
    obtain ⟨o, es, n, e, d, r⟩ := hn
    exact ⟨o, es, n, k C o (by simp only [List.mem_singleton]; exact (Nat.ne_of_lt nC).symm) e, d, r⟩
  · rintro i v s' hi hY hSt ⟨m, hn, J⟩
    have hi2 : i < ks.length := by rw [List.size_toArray, lenV, hlen] at hi; exact hi
    obtain ⟨T, hT1, hT2⟩ := hk i _ (List.getElem?_eq_getElem hi2)
    obtain ⟨u, hu1, hu2⟩ := rv.get hT1
    have ev : v = .ref T := by
      have e1 : its[i]? = some v := by simpa using hY
      rw [e1] at hu1
      cases hu1
      exact hu2
    subst ev
    have hk' : (compEnvC scope [] C X.env).scope.kind = .function := by simp [compEnvC, relabel, hkind]
    have lk : Env.kindOf (compEnvC scope [] C X.env) x = some .local := lookup_relabel_local hx
    refine wpAny_assign_Name (wpAny_storeName_local (m := m) (hp := by rw [hk']; rfl) lk hn fun h' hn' sb => ?_)
    obtain ⟨f0, f1, f2, f3, f4, f5⟩ := fpC (.dT (dT1 (ks.take i)))
    have J2 := J.turned (t' := s'.toks + 1) (fun b o hb e => (sb.2 b hb).trans e) f0 f1 f3 f4 f5
    refine wpAny_pure ?_
    rw [if_pos rfl]
    refine wpAny_Name (wpAny_loadName_local hk' lk hn' (if_pos rfl) ?_) hdb
    refine wpAny_Constant_bool ?_
    have eD : L2.upd H1 D (.dT (dT1 (ks.take i))) D = some (.dT (dT1 (ks.take i))) := upd_same
    obtain ⟨zz, hd, xs, rel, dd⟩ := dt_of J2.hok eD
    have hz' : xs.length ≤ sizeLine := by rw [← Paired.length rel]; exact zz
    have neT : T ≠ D := ne_of_none hT2 hD0
    have eb : L2.upd H1 D (.dT (dT1 (ks.take i))) T = some (.tup (ks[i].map kV)) := by rw [upd_ne neT]; exact hT2
    have hl2 : (putK (dT1 (ks.take i)) ks[i] (V.bl true)).length ≤ sizeLine := by
      have h1 := length_putK (dT1 (ks.take i)) ks[i] (V.bl true)
      have h2 := dT1_len (ks.take i)
      rw [List.length_take] at h2
      exact Nat.le_trans h1 (lt_sz (by omega))
    have ksn : dT1 (ks.take (i + 1)) = putK (dT1 (ks.take i)) ks[i] (.bl true) := by
      rw [List.take_add_one, List.getElem?_eq_getElem hi2]
      exact dT1_snoc _ _
    have llt : l < it := by
      obtain ⟨o, ho, _⟩ := hl
      rw [← hI]; exact Heap.lt_size ho
    have itC : it ≠ C := Nat.ne_of_lt nC
    have itD : it ≠ D := Nat.ne_of_lt nD
    have lC : l ≠ C := Nat.ne_of_lt (Nat.lt_trans llt nC)
    have lD : l ≠ D := Nat.ne_of_lt (Nat.lt_trans llt nD)
    refine wpAny_dictSet_heap (hsz := hz') (show X.A.units < cLine by omega) (key_of J2.hok eb) dd fun h4 dd' sb2 => ?_
    have keep4 : ∀ b o, b ≠ C → b ≠ D → s'.heap.get? b = some o → h4.get? b = some o := fun b o h1 h2 e => (sb2.2 b h2).trans ((sb.2 b h1).trans e)
    refine ⟨⟨fun x' => if x' = x then some (.ref T) else m x', ?_, ?_⟩, ?_, ?_⟩
    · obtain ⟨o, es, n, e, d, r⟩ := hn'
      exact ⟨o, es, n, (sb2.2 C neDC.symm).trans e, d, r⟩
    · obtain ⟨q4, es, ep, hq, y2, y3, y4, _, y5⟩ := dd'
      have J3 := d_write (t' := s'.toks + 1 + (tupleKind (mixKind X.prog X.w)).draws ks[i]) (ob := .dT (putK (dT1 (ks.take i)) ks[i] (.bl true))) J2 (by rw [eD]; exact True.intro) sb2 ⟨q4, hq⟩ ⟨hl2, hd, _, (rel.put ks[i] eb (show RelV (.bl true) (.bool true) from rfl)).keeps fun c ys ec => by
        rw [upd_ne (ne_of ec eD (fun z => nomatch z))]; exact ec, q4, es, ep, hq, y2, y3, y4, y5⟩
      rw [upd_upd] at J3
      rw [ksn]
      exact J3
    · obtain ⟨o, ho, hr⟩ := hSt.1
      exact ⟨o, keep4 it o itC itD ho, hr⟩
    · obtain ⟨o, ho, hr⟩ := hSt.2
      exact ⟨o, keep4 l o lC lD ho, hr⟩
  · rintro s' ⟨m, hn, J⟩
    have f := fpC (.dT (dT1 (ks.take its.toArray.size)))
    rw [List.size_toArray, lenV, hlen, List.take_of_length_le (Nat.le_refl _)] at J f
    exact fin D C m s' hD0 hn J f
theorem pe_dctrue (hc : X.calm = true) (hu : X.A.units + 1 < cLine) (he : PE X e te) (hx : scope.names.lookup x = some .local) (hclos : closureFor scope X.env = pure [])
    (hcell : ∀ y ∈ scope.names, y.2 ≠ .cell) (hkind : scope.kind = .function) (hnames : ∀ y ∈ scope.names, y.2 = .local → scope.names.lookup y.1 = some .local) (hs : ∀ x, foldedSetIterable e X.env x = pure x := by intro _; rfl)
    (hdb : (x == ("__debug__" : Str)) = false := by decide) :
    PE X (.DictComp (.Name x p1) (.Constant (.bool true) kk p2) [⟨.Name x p0, e, [], 0⟩] scope pos) (tDcT X.K te) := by
  refine ⟨fun pins s σ H Q I h => ?_⟩
  refine DictComp_goes hclos hcell hkind hnames (thn (he.run pins s σ H _ I h) fun v s1 hh => ?_) hs
  obtain ⟨xv, H1, I1, r1, l, vs, ks, rfl, hS, hlen, hsz, hk, q⟩ := hh
  cases r1
  refine dct_goes hc hu hx hkind hdb I1 hS hlen hsz hk fun D C m s' hD0 hn J f => ?_
  refine ⟨m, hn, fun h' sb => ?_⟩
  obtain ⟨f0, f1, f2, f3, f4, f5⟩ := f
  exact ⟨.ref D, _, J.turned (t' := s'.toks) (fun b o hb e => (sb.2 b hb).trans e) f0 f1 f3 f4 f5, rfl, q D hD0⟩
/-- y = {x: True for x in e}, stored before the block is let go -/
theorem ps_dctrue {i : Nat} {y : Str} {py spos : Pos} (hc : X.calm = true) (hu : X.A.units + 1 < cLine) (hN : X.N.Nodup) (hy : X.N[i]? = some y) (hyl : X.env.scope.names.lookup y = some .local)
    (hsw : swapsWith (.DictComp (.Name x p1) (.Constant (.bool true) kk p2) [⟨.Name x p0, e, [], 0⟩] scope pos) (some (.Name y py)) spos.line X.env = pure true) (he : PE X e te) (hx : scope.names.lookup x = some .local) (hclos : closureFor scope X.env = pure [])
    (hcell : ∀ y ∈ scope.names, y.2 ≠ .cell) (hkind : scope.kind = .function) (hnames : ∀ y ∈ scope.names, y.2 = .local → scope.names.lookup y.1 = some .local) (hs : ∀ x, foldedSetIterable e X.env x = pure x := by intro _; rfl)
    (hdb : (x == ("__debug__" : Str)) = false := by decide) :
    PS X (.Assign [.Name y py] (.DictComp (.Name x p1) (.Constant (.bool true) kk p2) [⟨.Name x p0, e, [], 0⟩] scope pos) spos) (tAsg (tDcT X.K te) (gName i)) := by
  refine ⟨fun pins s σ H D I h => ?_⟩
  have h : tDcT X.K te σ H (fun v H1 => gName i v σ H1 D.nx) := h
  rw [exec_Assign_Name_used _ _ _ _ hsw]
  refine wpAny_bind (wpAny_standAt (wpAny_bind ?_))
  refine wpAny_bind (wpAny_mono (comprehension_at (use := some (assign (.Name y py) X.env)) (Q := fun _ s' => SP X pins D .next s') rfl hs hclos hkind hnames
    (thn (he.run pins s σ H _ I h) fun v s1 hh => ?_)) (fun _ s' hq => wpAny_pure (wpAny_pure hq)) fun _ _ z => z)
  obtain ⟨xv, H1, I1, r1, l, vs, ks, rfl, hS, hlen, hsz, hk, q⟩ := hh
  cases r1
  refine wpAny_mono (dct_goes (use := some (assign (.Name y py) X.env)) (Qf := fun _ s' => SP X pins D .next s') hc hu hx hkind hdb I1 hS hlen hsz hk fun L C m s' hD0 hn J f => ?_) (fun it s2 h2 => compBlock_dict hcell hkind h2) fun _ _ z => z
  show wpAny _ _ (assign (.Name y py) X.env (.ref L)) _ _ _
  refine wpAny_assign_Name (store_ok2 (v := V.ref L) J hN hy (.inl hyl) rfl (fun s2 J2 hst => ?_) (.inr hyl))
  obtain ⟨a, sb, ha⟩ := hst
  obtain ⟨f0, f1, f2, f3, f4, f5⟩ := f
  have haC : C ≠ a := by
    rcases ha with z | z
    · rw [z]; exact f1
    · exact fun q => f4 y a z q.symm
  refine ⟨m, hn.sameBut sb haC, fun h3 sb3 => ?_⟩
  exact ⟨_, _, J2.turned (t' := s2.toks) (fun b o hb q => (sb3.2 b hb).trans q) f0 f1 f3 f4 f5, q L hD0⟩
end
end EL
/-! sum(lists, []): one list after the other put behind. -/
namespace EL
open PySem PySem.Spec PyProof.Rows L2
/-- the first i parts, one behind the other -/
def catA (parts : Nat → Array Value) : Nat → Array Value
  | 0 => #[]
  | i + 1 => catA parts i ++ parts i
section
variable {prog : Program} {w : World} {A : Around} {E : Value → Shared → Prop} {R : Result → Shared → Prop} {I lx S : Addr} {items : Array Value} {parts : Nat → Array Value}
theorem sumL_loop (hh : A.handled = none) (hI : lx ≠ I) (hSI : S ≠ I) (hSl : S ≠ lx) (hcat : ∀ i, i ≤ items.size → (catA parts i).size ≤ 1000000) :
    ∀ (k i : Nat) (s : Shared) (T : Addr) (c : Nat), items.size - i = k → i ≤ items.size → s.heap.IsListIter I lx i → s.heap.IsList lx items →
      s.heap.get? S = some { cls := .type "list", dict := none, data := .seq #[.ref T] c, slots := #[] } → T ≠ S → T ≠ I → (∃ n, IsL s.heap T (catA parts i) n) →
      (∀ j, i ≤ j → j < items.size → ∃ b n, items[j]? = some (.ref b) ∧ b ≠ S ∧ b ≠ I ∧ IsL s.heap b (parts j) n) →
      (∀ h' tk T' n, (∀ b o, b ≠ I → b ≠ S → s.heap.get? b = some o → h'.get? b = some o) → IsL h' T' (catA parts items.size) n → ((i = items.size ∧ T' = T) ∨ I < T') → R (.ok (.ret (.ref T'))) { s with heap := h', toks := tk }) →
      codeAny (model prog w) A (.builtin "sum.loop" ⟨[.ref I, .ref S, rawInt 2, rawInt 0], []⟩) R s := by
  intro k
  have W : Walks prog w A.in1 I [I, lx] [I] items.size _ _ := Walks.list (A := A.in1) hh I lx hI items
  induction k with
  | zero =>
    intro i s T c hk hi hit hlx hS hTS hTI hT hp hR
    obtain rfl : i = items.size := by omega
    obtain ⟨nT, hT⟩ := hT
    refine codeAny_builtin PySem.F.entry_sum_loop ?_
    rw [Around.under_plainId PySem.F.plain_sum_loop _]
    refine wpAny_bind (wpAny_seqItems hS rfl ?_)
    show wpAny _ A.in1 (tryCatch (pyNext (.ref I)) _ >>= _) _ _ s
    refine wpAny_bind (wpAny_tryCatch (W.done s _ _ ⟨hit, hlx⟩ fun h' tk keep => ?_))
    have kp : ∀ b o, b ≠ I → b ≠ S → s.heap.get? b = some o → h'.get? b = some o := fun b o hb _ e => keep b o (by simpa using hb) e
    exact wpAny_pure (hR h' tk T nT kp (kp T _ hTI hTS hT) (.inl ⟨rfl, rfl⟩))
  | succ k ih =>
    intro i s T c hk hi hit hlx hS hTS hTI hT hp hR
    have hlt : i < items.size := by omega
    obtain ⟨nT, hT⟩ := hT
    obtain ⟨b, nb, hb1, hbS, hbI, hb2⟩ := hp i (Nat.le_refl _) hlt
    refine codeAny_builtin PySem.F.entry_sum_loop ?_
    rw [Around.under_plainId PySem.F.plain_sum_loop _]
    refine wpAny_bind (wpAny_seqItems hS rfl ?_)
    show wpAny _ A.in1 (tryCatch (pyNext (.ref I)) _ >>= _) _ _ s
    refine wpAny_bind (wpAny_tryCatch (W.item i s _ _ hlt ⟨hit, hlx⟩ fun v h1 tk hv st1 keep => ?_))
    have ev : v = .ref b := by
      have : items[i]? = some v := hv
      rw [hb1] at this
      exact (Option.some.inj this).symm
    subst ev
    have kp : ∀ b o, b ≠ I → s.heap.get? b = some o → h1.get? b = some o := fun b o hb e => keep b o (by simpa using hb) e
    have hS1 := kp S _ hSI hS
    have hT1 := kp T _ hTI hT
    have hb1' := kp b _ hbI hb2
    have hsz : (catA parts i).size + (parts i).size ≤ 1000000 := by
      have := hcat (i + 1) hlt
      simpa [catA, Array.size_append] using this
    show wpAny _ A.in1 ((holding [Value.ref b] (binaryOp .Add (.ref T) (.ref b))).attempt >>= _) _ _ _
    refine wpAny_bind (wpAny_attempt (wpAny_holding (PySem.P.add_list (hsz := Nat.le_trans hsz (by decide)) hT1 hb1' ?_)))
    generalize hN : h1.objs.size = N
    have nN : h1.get? N = none := by
      cases e : h1.get? N with
      | none => rfl
      | some o => exact absurd (Heap.lt_size e) (by rw [hN]; exact Nat.lt_irrefl _)
    have NI : N ≠ I := fun e => by
      obtain ⟨o, ho, _⟩ := st1.1
      rw [← e, nN] at ho; cases ho
    have NS : N ≠ S := fun e => by rw [← e, nN] at hS1; cases hS1
    have IN : I < N := by
      obtain ⟨o, ho, _⟩ := st1.1
      rw [← hN]; exact Heap.lt_size ho
    have hS2 : (h1.push { cls := .type "list", data := .seq (catA parts i ++ parts i) }).get? S = _ := Heap.get?_push_of_some _ hS1
    have gN : (h1.push { cls := .type "list", data := .seq (catA parts i ++ parts i) }).get? N = some { cls := .type "list", data := .seq (catA parts i ++ parts i) } := by rw [← hN]; exact Heap.get?_push_size _ rfl
    have kp2 : ∀ b o, b ≠ I → s.heap.get? b = some o → (h1.push { cls := .type "list", data := .seq (catA parts i ++ parts i) }).get? b = some o := fun b o hb e => Heap.get?_push_of_some _ (kp b o hb e)
    have it2 : (h1.push { cls := .type "list", data := .seq (catA parts i ++ parts i) }).IsListIter I lx (i + 1) := st1.1.at fun o e => Heap.get?_push_of_some _ e
    have lx2 : (h1.push { cls := .type "list", data := .seq (catA parts i ++ parts i) }).IsList lx items := st1.2.at fun o e => Heap.get?_push_of_some _ e
    generalize h1.push { cls := .type "list", data := .seq (catA parts i ++ parts i) } = h2 at hS2 gN kp2 it2 lx2 ⊢
    show wpAny _ A.in1 (updateSeq S (fun _ => #[.ref N]) >>= _) _ _ _
    refine wpAny_bind (wpAny_updateSeq hS2 rfl ?_)
    have hS3 := Heap.get?_update_self (Obj.mapSeq fun _ => #[Value.ref N]) hS2 rfl
    refine wpAny_bind (wpAny_letGo (wpAny_bind (wpAny_updateSeq hS3 rfl (wpAny_pure ⟨plainId_quiet PySem.F.plain_sum_loop _, ?_⟩))))
    have oth : ∀ b o, b ≠ S → h2.get? b = some o → ((h2.update S (Obj.mapSeq fun _ => #[Value.ref N])).update S (Obj.mapSeq fun _ => #[Value.ref N])).get? b = some o := fun b o hb e =>
      (Heap.get?_update_other _ _ (Ne.symm hb)).trans ((Heap.get?_update_other _ _ (Ne.symm hb)).trans e)
    refine ih (i + 1) _ N _ (by omega) hlt (it2.at fun o e => oth _ _ (Ne.symm hSI) e) (lx2.at fun o e => oth _ _ (Ne.symm hSl) e) (Heap.get?_update_self _ hS3 rfl) NS NI ⟨_, oth N _ NS gN⟩ (fun j h1 h2 => ?_) fun h' tk' T' n k' hT' hn => ?_
    · obtain ⟨b', n', q1, q2, q3, q4⟩ := hp j (by omega) h2
      exact ⟨b', n', q1, q2, q3, oth _ _ q2 (kp2 _ _ q3 q4)⟩
    · refine hR h' tk' T' n (fun b o hb1 hb2 e => k' b o hb1 hb2 (oth b o hb2 (kp2 b o hb1 e))) hT' (.inr ?_)
      rcases hn with ⟨_, rfl⟩ | hn
      · exact IN
      · exact hn
theorem args_sum2 (a b : Value) : argsOk "sum" ⟨[a, b], []⟩ := by unfold argsOk; kernel_rfl
theorem sumL_call {s : Shared} {t : Addr} {Q : Value → Shared → Prop} (hh : A.handled = none) (hlx : s.heap.IsList lx items) (ht : ∃ n, IsL s.heap t #[] n) (h1 : 0 < items.size) (hcat : ∀ i, i ≤ items.size → (catA parts i).size ≤ 1000000)
    (hp : ∀ j, j < items.size → ∃ b n, items[j]? = some (.ref b) ∧ IsL s.heap b (parts j) n)
    (hQ : ∀ h' tk T' n, (∀ b o, s.heap.get? b = some o → h'.get? b = some o) → IsL h' T' (catA parts items.size) n → s.heap.objs.size ≤ T' → Q (.ref T') { s with heap := h', toks := tk }) :
    wpAny (model prog w) A (call (.builtin "sum") [.ref lx, .ref t]) Q E s := by
  refine call_function_tree PySem.F.kind_sum PySem.F.plain_sum PySem.F.entry_sum (args_sum2 _ _) ?_
  unfold Builtin.«sum»
  simp only [List.length_cons, List.length_nil]
  rw [if_neg (by decide)]
  refine wpAny_bind (wpAny_of_eq (show Builtin.Builtins.bindParams "sum" ["start"] 0 ⟨[.ref t], []⟩ = pure [some (.ref t)] from rfl) ?_)
  refine wpAny_bind (wpAny_pyIter_list hlx ?_)
  obtain ⟨nt, ht⟩ := ht
  generalize hI : s.heap.objs.size = it
  have up : ∀ b o, s.heap.get? b = some o → (s.heap.push { cls := .type "list_iterator", data := .fields #[.ref lx, .int 0 0] }).get? b = some o := fun b o e => Heap.get?_push_of_some _ e
  have gI : (s.heap.push { cls := .type "list_iterator", data := .fields #[.ref lx, .int 0 0] }).get? it = some { cls := .type "list_iterator", data := .fields #[.ref lx, .int 0 0] } := by rw [← hI]; exact Heap.get?_push_size _ rfl
  have szI : (s.heap.push { cls := .type "list_iterator", data := .fields #[.ref lx, .int 0 0] }).objs.size = it + 1 := by rw [Heap.size_push, hI]
  generalize s.heap.push { cls := .type "list_iterator", data := .fields #[.ref lx, .int 0 0] } = h1 at up gI szI ⊢
  refine wpAny_bind (wpAny_pure ?_)
  have ty : ({ s with heap := h1 } : Shared).TypeIs (.ref t) "list" := ⟨_, up _ _ ht, rfl⟩
  simp only [List.forIn_cons, List.forIn_nil]
  refine wpAny_bind (wpAny_bind (wpAny_bind (wpAny_isInstance (T := "list") (b := false) ty sub_list_str ?_)))
  simp only [Bool.false_eq_true, if_false]
  refine wpAny_pure (wpAny_bind (wpAny_bind (wpAny_isInstance (T := "list") (b := false) ty PySem.F.sub_list_bytes ?_)))
  simp only [Bool.false_eq_true, if_false]
  refine wpAny_pure (wpAny_bind (wpAny_bind (wpAny_isInstance (T := "list") (b := false) ty PySem.F.sub_list_bytearray ?_)))
  simp only [Bool.false_eq_true, if_false]
  refine wpAny_pure (wpAny_pure ?_)
  refine wpAny_bind (wpAny_newObj_type ?_)
  have old : ∀ b o, s.heap.get? b = some o → b < it := fun b o e => by rw [← hI]; exact Heap.lt_size e
  have ltx : lx < it := by obtain ⟨o, ho, _⟩ := hlx; exact old _ _ ho
  have ltt : t < it := old _ _ ht
  have itS : it < h1.objs.size := by rw [szI]; exact Nat.lt_succ_self _
  have up2 : ∀ b o, h1.get? b = some o → (h1.push { cls := .type "list", data := .seq #[.ref t] }).get? b = some o := fun b o e => Heap.get?_push_of_some _ e
  show wpAny _ _ (pure _) _ _ _
  refine wpAny_pure ⟨plainId_quiet PySem.F.plain_sum_loop _, sumL_loop (I := it) (lx := lx) (S := h1.objs.size) (items := items) (parts := parts) hh (Nat.ne_of_lt ltx) (Nat.ne_of_gt itS) (Nat.ne_of_gt (Nat.lt_trans ltx itS)) hcat items.size 0 _ t _ rfl (Nat.zero_le _) ⟨_, up2 _ _ gI, rfl, rfl⟩ ?_ (Heap.get?_push_size _ rfl) (Nat.ne_of_lt (Nat.lt_trans ltt itS)) (Nat.ne_of_lt ltt) ⟨nt, up2 _ _ (up _ _ ht)⟩ (fun j _ hj => ?_) fun h' tk T' n keep hT' hn => ?_⟩
  · obtain ⟨o, ho, hr⟩ := hlx
    exact ⟨o, up2 _ _ (up _ _ ho), hr⟩
  · obtain ⟨b, n, q1, q2⟩ := hp j hj
    have := old _ _ q2
    exact ⟨b, n, q1, Nat.ne_of_lt (Nat.lt_trans this itS), Nat.ne_of_lt this, up2 _ _ (up _ _ q2)⟩
  · refine hQ h' tk T' n (fun b o e => keep b o (Nat.ne_of_lt (old b o e)) (Nat.ne_of_lt (Nat.lt_trans (old b o e) itS)) (up2 _ _ (up _ _ e))) hT' ?_
    rcases hn with ⟨h0, _⟩ | hn
    · omega
    · rw [hI]; exact Nat.le_of_lt hn
end
theorem vals_append {xs ys : List V} {us ws : List Value} (h1 : Vals xs us) (h2 : Vals ys ws) : Vals (xs ++ ys) (us ++ ws) := by
  induction h1 with
  | nil => exact h2
  | cons a _ ih => exact .cons a ih
def rSumL (K : PySem.W.Frag) : List V → Hp → VK → Prop := fun xs H Q => ∃ (l t : Addr) (vs : List V) (parts : List (List V)), xs = [.ref l, .ref t] ∧ SqL K H l vs ∧ H t = some (.lst []) ∧ 0 < vs.length ∧ vs.length = parts.length ∧ parts.flatten.length ≤ 1000000 ∧
  (∀ (j : Nat) (p : List V), parts[j]? = some p → ∃ b, vs[j]? = some (.ref b) ∧ H b = some (.lst p)) ∧ ∀ q, H q = none → Q (.ref q) (L2.upd H q (.lst parts.flatten))
theorem cr_sumL {X : Cx} (hc : X.calm = true) : CallR X (.builtin "sum") (rSumL X.K) := by
  intro pins s σ H xs us Q I rv h
  obtain ⟨l, t, vs, parts, rfl, hS, ht, h1, hlen, hz, hk, q⟩ := h
  obtain ⟨u1, u2, rfl, r1, r2⟩ : ∃ u1 u2, us = [u1, u2] ∧ RelV (.ref l) u1 ∧ RelV (.ref t) u2 := by
    cases rv with
    | cons a r =>
      cases r with
      | cons b r => cases r; exact ⟨_, _, rfl, a, b⟩
  cases r1
  cases r2
  obtain ⟨its, rv2, pl, _⟩ := I.list hS
  have li : its.length = vs.length := rv2.length.symm
  have ch : ∀ j : Nat, ∃ ws : List Value, ∀ p, parts[j]? = some p → Vals p ws ∧ ∃ b n, its.toArray[j]? = some (.ref b) ∧ IsL s.heap b ws.toArray n := fun j => by
    cases e : parts[j]? with
    | none => exact ⟨[], fun p h => by cases h⟩
    | some p =>
      obtain ⟨b, hb1, hb2⟩ := hk j p e
      obtain ⟨u, hu1, hu2⟩ := rv2.get hb1
      cases hu2
      obtain ⟨_, ws, n, rw', gb⟩ := (show ObjOk X.prog X.w H s.heap b (.lst p) from I.hok b _ hb2)
      exact ⟨ws, fun p' h => by cases h; exact ⟨rw', b, n, by simpa using hu1, gb⟩⟩
  obtain ⟨f, hf⟩ := Classical.skolem.mp ch
  have vals : ∀ i, i ≤ parts.length → Vals (parts.take i).flatten (catA (fun j => (f j).toArray) i).toList := by
    intro i
    induction i with
    | zero => intro _; exact .nil
    | succ i ih =>
      intro hi
      have e : parts[i]? = some (parts[i]'(by omega)) := List.getElem?_eq_getElem (by omega)
      rw [List.take_add_one, e]
      simp only [Option.toList_some, List.flatten_append, List.flatten_cons, List.flatten_nil, List.append_nil, catA, Array.toList_append]
      exact vals_append (ih (by omega)) (hf i _ e).1
  have szs : ∀ i, i ≤ parts.length → (catA (fun j => (f j).toArray) i).size ≤ 1000000 := fun i hi => by
    have e1 : (parts.take i).flatten.length = (catA (fun j => (f j).toArray) i).toList.length := (vals i hi).length
    have e3 : (catA (fun j => (f j).toArray) i).toList.length = (catA (fun j => (f j).toArray) i).size := Array.length_toList
    have e2 : parts.flatten.length = (parts.take i).flatten.length + (parts.drop i).flatten.length := by
      rw [← List.length_append, ← List.flatten_append, List.take_append_drop]
    omega
  have sz : its.toArray.size = parts.length := by rw [List.size_toArray, li, hlen]
  obtain ⟨_, w0, n0, r0, g0⟩ := (show ObjOk X.prog X.w H s.heap t (.lst []) from I.hok t _ ht)
  cases r0
  refine sumL_call (parts := fun j => (f j).toArray) (I.ok.hd hc) pl.isList ⟨n0, g0⟩ (by rw [sz, ← hlen]; exact h1) (fun i hi => szs i (by rw [← sz]; exact hi)) (fun j hj => ?_) fun h' tk T' n keep hT' le => ?_
  · exact (hf j _ (List.getElem?_eq_getElem (by rw [← sz]; exact hj))).2
  · rw [sz] at hT'
    have v2 := vals parts.length (Nat.le_refl _)
    rw [List.take_of_length_le (Nat.le_refl _)] at v2
    refine ⟨.ref T', _, I.laid (t' := tk) (o := .lst parts.flatten) keep le ⟨len_sz hz, _, n, v2, ?_⟩, rfl, q T' (I.hok.fresh le)⟩
    rw [Array.toArray_toList]
    exact hT'
end EL
/-! == and != of instances by their class's own __eq__, whatever it answers; o.m(k = v, ..) by keywords alone. -/
namespace EL
open PySem PySem.Spec PyProof.Rows L2
section
variable {X : Cx} {k : Nat} {C f : Addr} {fd : FuncData} {ps : List Str} {sp : Sp} {E : XK}
/-- an instance compared by its own __eq__: what is asked -/
def rOwn (C : Addr) (sp : Sp) (E : XK) (g : Bool → Bool) : R2 := fun x y H Q => ∃ a b dx dy fs gs, x = .ref a ∧ y = .ref b ∧ H a = some (.ins C dx fs) ∧ H b = some (.ins C dy gs) ∧ sp [.ref a, .ref b] H (fun v H' => ∃ r : Bool, v = .bl r ∧ Q (.bl (g r)) H') E
theorem run_own {A : Around} {pins : List (Addr × Obj)} {s : Shared} {σ : L2.St} {H : Hp} {a b : Addr} {Q : VK} (hA : A.frames = X.A.frames) (hr : Room k A) (F : FnOk X.prog X.w X.K X.mg X.base CX0 k f fd ps sp) (hb : Binds X.K fd ps []) (hx : Passes CX0 X E) (I : Inv X pins σ H s)
    (hsp : sp [.ref a, .ref b] H (fun v H' => ∃ r : Bool, v = .bl r ∧ Q v H') E) :
    wpAny (model X.prog X.w) A (call (.ref f) [.ref a, .ref b]) (fun v s' => ∃ r : Bool, v = .bool r ∧ EP X pins σ (fun v H' => v = .bl r ∧ Q v H') (.bool r) s') X.xe s := by
  have e0 : Env0 X.prog X.w X.K X.mg X.base A X.stack s H := by
    have e := I.env0
    exact ⟨by rw [hA]; exact e.frames, e.mod, e.bs, e.bsz, e.funs, e.frf, e.hok, e.bare⟩
  have hl := F.len _ _ _ _ hsp
  have r2 : Vals [V.ref a, V.ref b] [Value.ref a, Value.ref b] := .cons rfl (.cons rfl .nil)
  refine wpAny_call (codeAny_mono (F.run A X.stack s H ⟨[.ref a, .ref b], []⟩ [.ref a, .ref b] [.ref a, .ref b] _ E hr e0 (by
    have := hb s [.ref a, .ref b] I.kIn (by simpa using hl)
    simpa using this) r2 hsp) fun r s' hq => ?_)
  cases r with
  | error e => exact hx pins σ H s e s' I hq
  | ok fl =>
    cases fl with
    | ret w =>
      obtain ⟨z, H', I', rz, r, ez, q⟩ := I.after hq
      subst ez
      cases rz
      exact ⟨r, rfl, .bl r, H', I', rfl, rfl, q⟩
    | next => exact False.elim hq
    | brk => exact False.elim hq
    | cont => exact False.elim hq
theorem op_eqOwn (F : FnOk X.prog X.w X.K X.mg X.base CX0 k f fd ps sp) (hr : Room k X.A) (hs : PySem.W.findIn X.K (.ref C) "__eq__" = some (some (.ref f))) (hf : PySem.W.isFn X.K (.ref f) = true) (hb : Binds X.K fd ps []) (hx : Passes CX0 X E) :
    OpR X (compareOp .Eq) (rOwn C sp E id) := by
  intro pins s σ H x y v u Q I rx ry hq
  obtain ⟨a, b, dx, dy, fs, gs, rfl, rfl, ha, hb', hsp⟩ := hq
  cases rx
  cases ry
  obtain ⟨mA, J, _⟩ := ins_get I.hok ha
  obtain ⟨mB, J', _⟩ := ins_get I.hok hb'
  obtain ⟨od, J, _⟩ := J.look
  obtain ⟨od', J', _⟩ := J'.look
  obtain ⟨m, hF⟩ := I.fr
  show wpAny (model X.prog X.w) X.A (richCompare .Eq (.ref a) (.ref b)) (EP X pins σ Q) X.xe s
  refine PySem.W.cmp_K (op := .Eq) (tb := .ref C) hr.units0 hF I.ok.mod.kin J J'.type (by simp [PySem.W.notFirst]) hs hf ?_
  refine wpAny_mono (run_own (Q := Q) rfl hr F hb hx I (show sp _ H (fun v H' => ∃ r : Bool, v = .bl r ∧ Q v H') E from ?_)) (fun r s' hq => ?_) fun _ _ z => z
  · have e : (fun (v : V) (H' : Hp) => ∃ r : Bool, v = .bl r ∧ Q (.bl (id r)) H') = fun v H' => ∃ r : Bool, v = .bl r ∧ Q v H' := by
      funext v H'
      apply propext
      constructor
      · rintro ⟨r, rfl, q⟩; exact ⟨r, rfl, q⟩
      · rintro ⟨r, rfl, q⟩; exact ⟨r, rfl, q⟩
    rw [← e]; exact hsp
  · obtain ⟨r, rfl, z, H', I', rz, rfl, q⟩ := hq
    exact ⟨_, H', I', rz, q⟩
theorem ne_units {A : Around} {k : Nat} (h : Room (k + 1) A) : A.units < cLine := h.units0
/-- what != wants to know of the class -/
structure NeOwn (K : PySem.W.Frag) (C f : Addr) : Prop where
  ne : PySem.W.findIn K (.ref C) "__ne__" = some (some (.builtin "object.__ne__"))
  eq : PySem.W.findIn K (.ref C) "__eq__" = some (some (.ref f))
  fn : PySem.W.isFn K (.ref f) = true
  ob : PySem.W.subIn K (.ref C) (.type "object") = some true
theorem op_neOwn (F : FnOk X.prog X.w X.K X.mg X.base CX0 k f fd ps sp) (hr : Room (k + 1) X.A) (N : NeOwn X.K C f) (hb : Binds X.K fd ps []) (hx : Passes CX0 X E) :
    OpR X (compareOp .NotEq) (rOwn C sp E not) := by
  intro pins s σ H x y v u Q I rx ry hq
  obtain ⟨a, b, dx, dy, fs, gs, rfl, rfl, ha, hb', hsp⟩ := hq
  cases rx
  cases ry
  obtain ⟨mA, J, _⟩ := ins_get I.hok ha
  obtain ⟨mB, J', _⟩ := ins_get I.hok hb'
  obtain ⟨od, J, _⟩ := J.look
  obtain ⟨od', J', _⟩ := J'.look
  show wpAny (model X.prog X.w) X.A (richCompare .NotEq (.ref a) (.ref b)) (EP X pins σ Q) X.xe s
  have inA : wpAny (model X.prog X.w) X.A.in1 (call (.ref f) [.ref a, .ref b]) (fun v s' => ∃ r : Bool, v = .bool r ∧ EP X pins σ Q (.bool (!r)) s') X.xe s := by
    refine wpAny_mono (run_own (X := X) (A := X.A.in1) (Q := fun v H' => ∃ r, v = V.bl r ∧ Q (.bl (!r)) H') rfl hr.in1 F hb hx I ?_) (fun r s' hq => ?_) fun _ _ z => z
    · have e : (fun (v : V) (H' : Hp) => ∃ r : Bool, v = .bl r ∧ Q (.bl (not r)) H') = fun v H' => ∃ r : Bool, v = .bl r ∧ ∃ r, v = V.bl r ∧ Q (.bl (!r)) H' := by
        funext v H'
        apply propext
        constructor
        · rintro ⟨r, rfl, q⟩; exact ⟨r, rfl, r, rfl, q⟩
        · rintro ⟨r, rfl, r', e, q⟩; cases e; exact ⟨r, rfl, q⟩
      rw [← e]; exact hsp
    · obtain ⟨r, rfl, z, H', I', rz, rfl, r', e, q⟩ := hq
      cases e
      exact ⟨r, rfl, .bl (!r), H', I', rfl, q⟩
  have one : wpAny (model X.prog X.w) X.A (call (.builtin "object.__ne__") [.ref a, .ref b]) (fun v s' => v ≠ .notImplemented ∧ EP X pins σ Q v s') X.xe s := by
    have t2 : PySem.W.Looks (model X.prog X.w) s.heap (isInstance (.ref a) (.type "object")) true := J.type.andThen (PySem.W.looks_subIn I.kIn N.ob)
    refine wpAny_call (codeAny_call_builtin PySem.F.cmp_object.ne.plain PySem.F.cmpEntry_ne (@PySem.W.check_slot (model X.prog X.w) _ _ _ "object.__ne__" "object" "__ne__" (.ref a) [.ref b] [] _ PySem.F.cmpKind_ne PySem.F.cmpSplit_ne t2 (PySem.F.cmpArgs_ne _ _) ?_))
    show wpAny (model X.prog X.w) X.A.in1 (Builtin.«object.__ne__» ⟨[.ref a, .ref b], []⟩) _ _ s
    unfold Builtin.«object.__ne__»
    repeat (first
      | with_reducible refine wpAny_cRoomFor hr.in1.units0 ?_
      | (refine wpAny_bind (m := callSpecialIfBound? (.ref a) (Str.ofString "__eq__") [.ref b])
          (PySem.W.ifBound_K I.kIn J N.eq N.fn (wpAny_mono inA (fun r s' hr => by
            obtain ⟨b, rfl, hq⟩ := hr
            repeat (first | exact ⟨by simp, hq⟩ | exact wpAny_pure ⟨by simp, hq⟩ | exact wpAny_truthy_bool ⟨by simp, hq⟩ | (refine wpAny_bind (m := truthy (.bool _)) (wpAny_truthy_bool ?_)) | wp_step)) fun _ _ e => e)))
      | wp_step)
  have try1 : wpAny (model X.prog X.w) X.A (tryCompare (.ref a) "__ne__" (.ref b)) (fun r s' => ∃ v, r = some v ∧ EP X pins σ Q v s') X.xe s := by
    unfold tryCompare
    refine wpAny_bind ?_
    simp only [callSpecialIfBound?, bindSpecialIfBound?]
    refine wpAny_holding (wpAny_bind (wpAny_bind (wpAny_bind (J.type.here ((PySem.W.looks_findIn I.kIn N.ne).here ?_)))))
    refine wpAny_bind (wpAny_askSetting (wpAny_ite ?_))
    have fin : wpAny (model X.prog X.w) X.A (call (.builtin "object.__ne__") ([.ref a] ++ [.ref b]) >>= fun v => pure (some v)) (fun r s' => wpAny (model X.prog X.w) X.A (match r with | some .notImplemented => pure none | none => pure none | some v => pure (some v)) (fun r s' => ∃ v, r = some v ∧ EP X pins σ Q v s') X.xe s') X.xe s := by
      refine wpAny_bind (wpAny_mono one (fun v s' h' => wpAny_pure ?_) fun _ _ h' => h')
      obtain ⟨hn, q⟩ := h'
      cases v <;> first | exact absurd rfl hn | exact wpAny_pure ⟨_, rfl, q⟩
    split
    · exact wpAny_bind ((PySem.W.Looks.of_pure (PySem.F.cmp_object.ne.bind _)).here (wpAny_pure (by exact fin)))
    · exact wpAny_tryCatch (wpAny_bind ((PySem.W.Looks.of_pure (PySem.F.cmp_object.ne.bind _)).here (wpAny_pure (by exact fin))))
  unfold richCompare
  simp only [oneThing_ref]
  refine wpAny_holding (wpAny_bind (wpAny_cRoomFor hr.units0 ?_))
  refine wpAny_bind (J.type.here (wpAny_bind (J'.type.here ?_)))
  rw [show (Value.ref C != Value.ref C) = false from by simp]
  simp only [Bool.false_eq_true, if_false]
  refine wpAny_bind (wpAny_pure ?_)
  simp only [Bool.false_eq_true, if_false]
  refine wpAny_bind (wpAny_mono try1 (fun r s' z => ?_) fun _ _ e => e)
  obtain ⟨v, rfl, hq⟩ := z
  exact wpAny_pure hq
end
/-! ### o.m(k = v, ..): keywords alone -/
section
variable {X : Cx} {k : Nat} {f C : Addr} {fd : FuncData} {m : Str} {ps ks : List Str} {sp : Sp} {E : XK} {o : Expr} {kws : List Keyword} {ta : TE} {tk : TA} {apos pos : Pos} {g : List Value → List Value → List Value} {gV : List V → List V → List V}
theorem pe_methK0 {pl : Sem Bool} (he : PE X o ta) (c : Cls X.K C) (hm : Meth X.K C m f) (F : FnOk X.prog X.w X.K X.mg X.base CX0 k f fd ps sp) (hr : Room k X.A) (kb : KBinds X.K fd ps ks g gV) (hx : Passes CX0 X E) (hkw : PK X kws tk)
    (hall : (backToKw pos (keywordEach kws X.env)).all (·.1.isSome) = true := by rfl) (hks : (backToKw pos (keywordEach kws X.env)).filterMap (·.1) = ks := by rfl)
    (hpl : ((backTo pos (starEach [] X.env)).any (·.1) || (backToKw pos (keywordEach kws X.env)).any (·.1.isNone)) = false := by rfl)
    (ht : eval (.Call (.Attribute o m apos) [] kws pos) X.env = (do
      let ov ← eval o X.env
      standAt apos.atName
      let (f, first) ← holding [ov] (getMethod ov m pl)
      callWith pos f first (backTo pos (starEach [] X.env)) (backToKw pos (keywordEach kws X.env))) := by rfl) :
    PE X (.Call (.Attribute o m apos) [] kws pos) (fun σ H Q => ta σ H fun x H1 => ∃ a dx fs, x = .ref a ∧ H1 a = some (.ins C dx fs) ∧ fs.lookup m = none ∧ tk σ H1 fun zs H2 => sp (gV [.ref a] zs) H2 Q E) := by
  refine ⟨fun pins s σ H Q I h => ?_⟩
  refine PySem.W.methodCall_KW (pl := pl) (thn (he.run pins s σ H _ I h) fun u s1 ⟨x, H1, I1, rx, a, dx, fs, ex, ea, l, q⟩ => ?_) ht
  subst ex
  obtain rfl : u = Value.ref a := rx
  refine getmeth_ok I1 ea c hm l ?_
  refine PySem.W.callWith_KW0 (first := [.ref a]) (h₀ := X.base) I1.ok.mod.kin hm.kp hall (thn (hkw.run pos pins s1 σ H1 _ I1 q) fun ws s2 hh => ?_) hpl
  obtain ⟨zs, H2, I2, rz, q2⟩ := hh
  refine ⟨I2.kIn, ?_⟩
  rw [hks]
  exact run_fnk (us := [.ref a]) (vs := [.ref a]) F hr kb hx I2 (.cons rfl .nil) rz q2
end
def kwM2r {α : Type} : List α → List α → List α
  | [s], [z, y] => [s, y, z]
  | _, _ => []
theorem kwM2r_rel {vs : List V} {us : List Value} {zs : List V} {ws : List Value} (h1 : Vals vs us) (h2 : Vals zs ws) : Vals (kwM2r vs zs) (kwM2r us ws) := by
  cases h1 with
  | nil => exact .nil
  | cons r0 rr0 =>
    cases rr0 with
    | cons _ _ => exact .nil
    | nil =>
    cases h2 with
    | nil => exact .nil
    | cons r rr =>
      cases rr with
      | nil => exact .nil
      | cons r2 rr2 =>
        cases rr2 with
        | nil => exact .cons r0 (.cons r2 (.cons r .nil))
        | cons _ _ => exact .nil
theorem Fun.kwM2r {K : PySem.W.Frag} {x qual : Str} {st : Stmt} {f : Addr} {fd : FuncData} {r p q : Str} (F : Fun K x qual st f fd)
    (h : ∀ (kV doc pm : Value) (an : Option Addr) (cdv ct : Value) (t u v : Value), bindArgs (PySem.W.fnOf x qual (defArgs st) (defBody st) (defScope st) .none kV doc pm an cdv ct) ⟨[t], [(q, u), (p, v)]⟩ = pure [(r, t), (p, v), (q, u)]) : KBinds K fd [r, p, q] [q, p] EL.kwM2r EL.kwM2r := by
  obtain ⟨oc, od, kV, doc, pm, an, cdv, ct, osl, rfl, lk, hcd⟩ := F.ex
  refine ⟨fun s us ws _ hl => ?_, kwM2r_rel⟩
  match us, ws, hl with
  | [t], [u, v], _ => exact .of_eq (h kV doc pm an cdv ct t u v)
  | [], _, hl => exact absurd hl (by simp [EL.kwM2r])
  | [_], [], hl => exact absurd hl (by simp [EL.kwM2r])
  | [_], [_], hl => exact absurd hl (by simp [EL.kwM2r])
  | [_], _ :: _ :: _ :: _, hl => exact absurd hl (by simp [EL.kwM2r])
  | _ :: _ :: _, _, hl => exact absurd hl (by simp [EL.kwM2r])
/-! ### a text, so often -/
def rRepS : R2 := fun x y H Q => ∃ z k, x = .str z ∧ y = .int k ∧ 2 ≤ k ∧ k ≤ 1000 ∧ z.length ≠ 0 ∧ z.length ≤ 1000 ∧ Q (.str ⟨(List.replicate k.toNat z.cps).foldl (· ++ ·) #[]⟩) H
theorem fold_size (c : Array Nat) : ∀ (n : Nat) (acc : Array Nat), (List.foldl (fun x1 x2 => x1 ++ x2) acc (List.replicate n c)).size = acc.size + n * c.size
  | 0, acc => by simp
  | n + 1, acc => by
    rw [List.replicate_succ, List.foldl_cons, fold_size c n, Array.size_append, Nat.add_mul]; omega
theorem op_repS {X : Cx} : OpR X (binaryOp .Mult) rRepS := by
  intro pins s σ H x y v u Q I rx ry h
  obtain ⟨z, k, rfl, rfl, h1, h2, hz, hz2, q⟩ := h
  obtain ⟨t, rfl⟩ := rx
  obtain ⟨t', rfl⟩ := ry
  have c0 : (decide (k < -(2 ^ 63 : Int)) || decide (k ≥ 2 ^ 63)) = false := by
    rw [decide_eq_false (by omega), decide_eq_false (by omega)]; rfl
  have c1 : (k == 1 || z.length == 0) = false := by
    rw [Bool.or_eq_false_iff]
    exact ⟨by simpa using (by omega : k ≠ 1), by simpa using hz⟩
  have hm : z.length * k.toNat ≤ 1000 * 1000 := Nat.mul_le_mul hz2 (by omega)
  refine P.mul_str c0 (fun _ _ => ?_) (fun _ _ => ?_) ?_
  · have : (2 : Int) ^ 63 - 1 = 9223372036854775807 := by decide
    rw [this]
    have : (1000 : Int) * k ≤ 9223372036854775807 := by omega
    have := Int.le_ediv_of_mul_le (by omega : 0 < k) this
    omega
  · have : sizeLine = 16777216 := by decide
    exact decide_eq_false (by omega)
  · rw [if_neg (by omega), if_neg (by rw [c1]; exact Bool.false_ne_true)]
    refine ⟨?_, ⟨.str _, H, I.tok _, ⟨_, rfl⟩, q⟩⟩
    show (List.foldl (fun x1 x2 => x1 ++ x2) #[] (List.replicate k.toNat z.cps)).size ≤ sizeLine
    rw [fold_size]
    have h0 : (#[] : Array Nat).size = 0 := rfl
    have h3 : k.toNat * z.cps.size = z.length * k.toNat := Nat.mul_comm _ _
    rw [h0, h3]
    have : sizeLine = 16777216 := by decide
    omega
end EL
/-! Plain data (signs below 128, ints of at most 50 digits, dicts that are empty): what repr and == ask of it. -/
namespace EL
open PySem PySem.Spec PyProof.Rows L2
mutual
def pln : PyData → Bool
  | .none | .bool _ => true
  | .int i => decide (i.natAbs < 10 ^ 50)
  | .str x => x.cps.toList.all fun c => decide (c < 128)
  | .list xs | .tuple xs => plns xs
  | .dict kvs => kvs.isEmpty
def plns : List PyData → Bool
  | [] => true
  | x :: xs => pln x && plns xs
end
theorem plns_all : ∀ ds : List PyData, plns ds = ds.all pln
  | [] => by simp [plns]
  | d :: r => by simp [plns, plns_all r]
theorem log2_lt {n : Nat} (h : n < 10 ^ 50) : n.log2 < 1920 := by
  by_cases h0 : n = 0
  · subst h0; decide
  · rw [Nat.log2_lt h0]
    exact Nat.lt_of_lt_of_le h (by decide +kernel)
theorem shown_int60 {i : Int} (h : i.natAbs < 10 ^ 50) : (PyData.shown (.int i)).length ≤ 60 := by
  have e := int_text_length_le10 (k := 50) (by decide) h
  show (Str.ofString (toString i)).length ≤ 60
  rw [PySem.ofString_length]; exact Nat.le_trans e (by decide)
mutual
theorem pln_showable : ∀ d : PyData, pln d = true → d.showable = true
  | .none, _ => by simp [PyData.showable]
  | .bool _, _ => by simp [PyData.showable]
  | .int i, h => by
    have : i.natAbs < 10 ^ 50 := by simpa only [pln, decide_eq_true_eq] using h
    simpa only [PyData.showable, decide_eq_true_eq] using log2_lt this
  | .str _, _ => by simp [PyData.showable]
  | .list xs, h => by
    have := plns_showable xs (by simpa [pln] using h)
    simpa [PyData.showable] using this
  | .tuple xs, h => by
    have := plns_showable xs (by simpa [pln] using h)
    simpa [PyData.showable] using this
  | .dict kvs, h => by
    have : kvs = [] := by simpa [pln] using h
    subst this; simp [PyData.showable, PyData.showableKv]
theorem plns_showable : ∀ ds : List PyData, plns ds = true → PyData.showableAll ds = true
  | [], _ => by simp [PyData.showableAll]
  | d :: r, h => by
    obtain ⟨h1, h2⟩ : pln d = true ∧ plns r = true := by simpa [plns] using h
    simp [PyData.showableAll, pln_showable d h1, plns_showable r h2]
end
mutual
theorem pln_short : ∀ d : PyData, pln d = true → d.leavesShort 60 = true
  | .none, _ => by simp [PyData.leavesShort]
  | .bool _, _ => by simp [PyData.leavesShort]
  | .int i, h => by
    have : i.natAbs < 10 ^ 50 := by simpa only [pln, decide_eq_true_eq] using h
    simpa only [PyData.leavesShort, decide_eq_true_eq] using shown_int60 this
  | .str x, h => by
    simp only [PyData.leavesShort, List.all_eq_true, decide_eq_true_eq]
    simp only [pln, List.all_eq_true, decide_eq_true_eq] at h
    intro c hc
    have := h c hc
    omega
  | .list xs, h => by
    have := plns_short xs (by simpa [pln] using h)
    simpa [PyData.leavesShort] using this
  | .tuple xs, h => by
    have := plns_short xs (by simpa [pln] using h)
    simpa [PyData.leavesShort] using this
  | .dict kvs, h => by
    have : kvs = [] := by simpa [pln] using h
    subst this; simp [PyData.leavesShort, PyData.leavesShortKv]
theorem plns_short : ∀ ds : List PyData, plns ds = true → PyData.leavesShortAll 60 ds = true
  | [], _ => by simp [PyData.leavesShortAll]
  | d :: r, h => by
    obtain ⟨h1, h2⟩ : pln d = true ∧ plns r = true := by simpa [plns] using h
    simp [PyData.leavesShortAll, pln_short d h1, plns_short r h2]
end
theorem strOk_pln {x : Str} (h : (x.cps.toList.all fun c => decide (c < 128)) = true) : PyData.strOk x = true := by
  simp only [List.all_eq_true, decide_eq_true_eq] at h
  unfold PyData.strOk
  rw [Array.all_eq_true_iff_forall_mem]
  intro c hc
  have := h c (Array.mem_def.mp hc)
  exact decide_eq_true (by omega)
mutual
theorem pln_lay : ∀ d : PyData, pln d = true → d.hasDict = false → d.canLay0 = true
  | .none, _, _ => by simp [PyData.canLay0]
  | .bool _, _, _ => by simp [PyData.canLay0]
  | .int i, _, _ => by simp [PyData.canLay0]
  | .str x, h, _ => by
    simp only [PyData.canLay0]
    exact strOk_pln (by simpa only [pln] using h)
  | .list xs, h, n => by
    have := plns_lay xs (by simpa [pln] using h) (by simpa [PyData.hasDict] using n)
    simpa [PyData.canLay0] using this
  | .tuple xs, h, n => by
    have := plns_lay xs (by simpa [pln] using h) (by simpa [PyData.hasDict] using n)
    simpa [PyData.canLay0] using this
  | .dict kvs, _, n => by simp [PyData.hasDict] at n
theorem plns_lay : ∀ ds : List PyData, plns ds = true → PyData.hasDictAll ds = false → PyData.canLayAll0 ds = true
  | [], _, _ => by simp [PyData.canLayAll0]
  | d :: r, h, n => by
    obtain ⟨h1, h2⟩ : pln d = true ∧ plns r = true := by simpa [plns] using h
    obtain ⟨n1, n2⟩ : d.hasDict = false ∧ PyData.hasDictAll r = false := by simpa [PyData.hasDictAll] using n
    simp [PyData.canLayAll0, pln_lay d h1 n1, plns_lay r h2 n2]
end
theorem shaped_pln {d : PyData} (h : pln d = true) (n : d.hasDict = false) (hd : d.depth ≤ 64) : SeqAt.shaped d = true := by
  have := pln_lay d h n
  simp only [SeqAt.shaped, this, Bool.true_and]
  exact decide_eq_true hd
/-- what may be shown -/
structure Shw (d : PyData) : Prop where
  p : pln d = true
  n : d.hasDict = false ∨ noL d = true
  dp : d.depth ≤ 60
  bk : d.bulk ≤ 200000
theorem Shw.shown {d : PyData} (h : Shw d) : d.shown.length ≤ sizeLine := by
  have h1 := PyData.shown_le_bulk 60 (by decide) d (pln_short d h.p)
  have h2 : (60 + 2) * d.bulk ≤ 62 * 200000 := Nat.mul_le_mul (by omega) h.bk
  have e : sizeLine = 16777216 := by decide
  rw [e]
  omega
theorem Shw.r {d : PyData} (h : Shw d) : d.showable = true ∧ (d.hasDict = false ∨ noL d = true) ∧ d.depth ≤ 100 ∧ d.shown.length ≤ sizeLine := ⟨pln_showable d h.p, h.n, Nat.le_trans h.dp (by decide), h.shown⟩
/-- repr(x) of plain data -/
theorem repr_shw {K : PySem.W.Frag} {H : Hp} {x : V} {d : PyData} {Q : VK} (hd : Dq K H x d) (h : Shw d) (q : Q (.str d.shown) H) : rRepr K [x] H Q := ⟨x, d, rfl, hd, pln_showable d h.p, h.n, Nat.le_trans h.dp (by decide), h.shown, q⟩
/-- == of plain data without dicts -/
theorem shw_shaped {d : PyData} (h : Shw d) (n : d.hasDict = false) : SeqAt.shaped d = true := shaped_pln h.p n (Nat.le_trans h.dp (by decide))
theorem shw_bools (bs : List Bool) (h : bs.length ≤ 100) : Shw (.list (bs.map PyData.bool)) := by
  have h1 : ∀ cs : List Bool, plns (cs.map PyData.bool) = true ∧ PyData.hasDictAll (cs.map PyData.bool) = false ∧ PyData.depthAll (cs.map PyData.bool) ≤ 0 ∧ PyData.bulkAll (cs.map PyData.bool) ≤ 10 * cs.length := by
    intro cs
    induction cs with
    | nil => simp [plns, PyData.hasDictAll, PyData.depthAll, PyData.bulkAll]
    | cons b r ih =>
      obtain ⟨i1, i2, i3, i4⟩ := ih
      simp only [List.map_cons, plns, pln, PyData.hasDictAll, PyData.hasDict, PyData.depthAll, PyData.depth, PyData.bulkAll, PyData.bulk, List.length_cons, i1, i2, Bool.and_self, Bool.or_self]
      refine ⟨trivial, trivial, by omega, by omega⟩
  obtain ⟨a1, a2, a3, a4⟩ := h1 bs
  refine ⟨by simpa only [pln] using a1, .inl (by simpa only [PyData.hasDict] using a2), by simp only [PyData.depth]; omega, ?_⟩
  show PyData.bulkAll _ ≤ 200000
  omega
end EL
namespace KP
open PySem PySem.Spec PyProof.Rows L2 EL
open Evl (pss_cut)
abbrev sIsStep : Stmt := topS 41
theorem scIsStep : FnScope ["thing", "size", "left", "right", "further"] ["thing", "size"] (defScope sIsStep) := ⟨rfl, rfl, rfl, by decide +kernel, rfl, by decide +kernel, by decide +kernel⟩
abbrev sSideOf : Stmt := topS 44
theorem scSideOf : FnScope ["left", "right"] ["left", "right"] (defScope sSideOf) := ⟨rfl, rfl, rfl, by decide +kernel, rfl, by decide +kernel, by decide +kernel⟩
theorem shaped_one {p : Nat × Nat} (h1 : p.1 < 128) (h2 : p.2 < 128) : SeqAt.shaped (pr p) = true := by
  simp [SeqAt.shaped, PyData.canLay0, PyData.canLayAll0, strOk_one h1, strOk_one h2, PyData.depth, PyData.depthAll]
theorem noDict_one (p : Nat × Nat) : (pr p).hasDict = false := by
  have := noDict_pr [p]
  simpa [PyData.hasDictAll] using this
def sideN (x y : Str) : Int := if y = dash then 1 else if x = dash then 2 else 0
def spSide : Sp := fun vs H Q _ => ∃ x y : Str, vs = [.str x, .str y] ∧ Q (.int (sideN x y)) H
def stepD (n : Int) : PyData → Bool
  | .tuple ds => match ds with
    | [a, b, c] => isPairD (.tuple [a, b]) && (!(PyData.eqv (.tuple [a, b]) (.tuple [.str dash, .str dash])) && stateD n c)
    | _ => false
  | _ => false

section
variable {P : Program} {w : World} {K : PySem.W.Frag} {mg : Str → Option Value} {base : Heap}
theorem ok_IsStep {f : Addr} {fd : FuncData} {k : Nat} (F : Fun K "is_step" "is_step" sIsStep f fd) (nisinstance : mg "isinstance" = none) (ntuple : mg "tuple" = none) (nlen : mg "len" = none) (m_NO_LETTER : StrAt mg "NO_LETTER" dash) (CIsPairOfSigns : Cal P w K mg base k "is_pair_of_signs" ["thing"] (spLook K isPairD)) (CIsState : Cal P w K mg base k "is_state" ["thing", "size"] (spLookN K stateD)) : FnOk P w K mg base CX0 (k + 1) f fd ["thing", "size"] (spLookN K stepD) := by
  refine F.ok scIsStep (fun vs H Q E h => ?_) (fun cdv A outer s H vs Q E hr h => ?_)
  · obtain ⟨v, d, n, rfl, _⟩ := h; rfl
  · obtain ⟨v, d, n, rfl, hd, hz, q⟩ := h
    have hu := hr.units
    refine ⟨_, (pss_cons (ps_if (PW.pt (pw_or (pt_not (pt_val (pe_callB (show CallR _ _ (rIsi K) from call_isi) (by rfl) nisinstance (by decide +kernel) (pa_cons (pv 0) (pa_cons (pe_tyN (n := "tuple") ntuple (by decide +kernel)) pa_nil))))) (pw_or1 (pt_cmpR op_ne (pe_callB (show CallR _ _ (rLenK K) from call_len) (by rfl) nlen (by decide +kernel) (pa_cons (pv 0) pa_nil)) pe_int (nomark _))))) (pss_one (ps_ret pe_bl)) pss_nil)
      (pss_cons (ps_asg (pv 0) (pg_tup (by rfl) (pgs_cons (pg_name (i := 2) scIsStep.nd rfl (by first | exact Or.inl rfl | exact Or.inr rfl)) (pgs_cons (pg_name (i := 3) scIsStep.nd rfl (by first | exact Or.inl rfl | exact Or.inr rfl)) (pgs_cons (pg_name (i := 4) scIsStep.nd rfl (by first | exact Or.inl rfl | exact Or.inr rfl)) pgs_nil)))))
      (pss_cons (ps_if (PW.pt (pw_or (pt_not (pt_val (pe_cal CIsPairOfSigns hr (by rfl) pass0 (pa_cons (pe_tup (pa_cons (pv 2) (pa_cons (pv 3) pa_nil))) pa_nil)))) (pw_or1 (pt_cmpR (op_eqD hu) (pe_tup (pa_cons (pv 2) (pa_cons (pv 3) pa_nil))) (pe_tup (pa_cons (pe_gstr m_NO_LETTER) (pa_cons (pe_gstr m_NO_LETTER) pa_nil))) (nomark _))))) (pss_one (ps_ret pe_bl)) pss_nil)
      (pss_one (ps_ret (pe_cal CIsState hr (by rfl) pass0 (pa_cons (pv 4) (pa_cons (pv 1) pa_nil)))))))), ?_⟩
    have two : 2 ≤ sizeLine := by decide
    refine ⟨v, rfl, v, .ty "tuple", _, _, _, rfl, .ty "tuple", tyx_of hd, kit_ty (kit_tuple d), _, rfl, ?_⟩
    cases d with
    | tuple ds =>
      cases hd with
      | tup hs ha =>
      rename_i a xs
      have hzz : PyData.bulkAll ds ≤ 500000 := hz
      refine iteF ⟨.ref a, rfl, .ref a, (xs.length : Nat), rfl, .inr ⟨xs, hs, rfl⟩, rfl, _, rfl, ?_⟩
      by_cases e : V.int (xs.length : Nat) = V.int 3
      · rw [decide_eq_true e]
        refine iteF ?_
        have e2 : xs.length = 3 := by
          have := V.int.inj e
          exact_mod_cast this
        have e3 : ds.length = 3 := by rw [← ha.len, e2]
        obtain ⟨d0, d1, d2, rfl⟩ : ∃ d0 d1 d2, ds = [d0, d1, d2] := by
          match ds, e3 with
          | [d0, d1, d2], _ => exact ⟨d0, d1, d2, rfl⟩
        obtain ⟨x0, x1, x2, rfl⟩ : ∃ x0 x1 x2, xs = [x0, x1, x2] := by
          match xs, e2 with
          | [x0, x1, x2], _ => exact ⟨x0, x1, x2, rfl⟩
        have z := sz_mem hzz
        cases ha with
        | cons h0 ha =>
        cases ha with
        | cons h1 ha =>
        cases ha with
        | cons h2 ha =>
        refine ⟨.ref a, rfl, a, _, rfl, hs, rfl, x0, _, rfl, x1, _, rfl, x2, _, rfl, rfl, ?_⟩
        refine ⟨x0, rfl, x1, rfl, two, fun t nt => ?_⟩
        have st := same_upd (o := .tup [x0, x1]) nt
        have gt : upd H t (.tup [x0, x1]) t = some (.tup [x0, x1]) := upd_same
        generalize upd H t (.tup [x0, x1]) = H1 at st gt ⊢
        have hzp : Sz (.tuple [d0, d1]) := by
          show d0.bulk + 1 + (d1.bulk + 1 + 0) ≤ 500000
          have hzz : d0.bulk + 1 + (d1.bulk + 1 + (d2.bulk + 1 + 0)) ≤ 500000 := hzz
          omega
        refine ⟨.ref t, .tuple [d0, d1], rfl, .tup (stOf gt) (.cons (h0.up st) (.cons (h1.up st) .nil)), hzp, fun H2 s2 => ⟨_, rfl, ?_⟩⟩
        simp only [stepD] at q
        cases b0 : isPairD (.tuple [d0, d1]) with
        | false => rw [b0] at q; exact iteT (q H2 (st.trans s2))
        | true =>
        rw [b0] at q
        refine iteF ⟨x0, rfl, x1, rfl, two, fun t2 nt2 => ?_⟩
        have s02 := st.trans s2
        have st2 := same_upd (o := .tup [x0, x1]) nt2
        have gt2 : upd H2 t2 (.tup [x0, x1]) t2 = some (.tup [x0, x1]) := upd_same
        generalize upd H2 t2 (.tup [x0, x1]) = H3 at st2 gt2 ⊢
        refine ⟨two, fun t3 nt3 => ?_⟩
        have st3 := same_upd (o := .tup [.str dash, .str dash]) nt3
        have gt3 : upd H3 t3 (.tup [.str dash, .str dash]) t3 = some (.tup [.str dash, .str dash]) := upd_same
        have gt2 := st3 _ _ gt2
        generalize upd H3 t3 (.tup [.str dash, .str dash]) = H4 at st3 gt3 gt2 ⊢
        have s04 := (s02.trans st2).trans st3
        obtain ⟨p, ep, okp⟩ := (pairD_iff _).mp b0
        obtain ⟨rfl, rfl⟩ : d0 = .str ⟨#[p.1]⟩ ∧ d1 = .str ⟨#[p.2]⟩ := by simpa [pr] using ep
        rw [Bool.and_eq_true] at okp
        have dq2 : Dq K H4 (.ref t2) (pr p) := .tup (stOf gt2) (.cons (h0.up s04) (.cons (h1.up s04) .nil))
        have dq3 : Dq K H4 (.ref t3) (pr (45, 45)) := .tup (stOf gt3) (.cons (.str _) (.cons (.str _) .nil))
        refine ⟨_, _, dp_of _ _ dq2 (noDict_one p), dp_of _ _ dq3 (noDict_one _), shaped_one (ok_lt okp.1) (ok_lt okp.2), by decide +kernel, _, rfl, ?_⟩
        rw [show PyData.eqv (pr p) (pr (45, 45)) = PyData.eqv (.tuple [.str ⟨#[p.1]⟩, .str ⟨#[p.2]⟩]) (.tuple [.str dash, .str dash]) from rfl]
        cases b1 : PyData.eqv (.tuple [.str ⟨#[p.1]⟩, .str ⟨#[p.2]⟩]) (.tuple [.str dash, .str dash]) with
        | true => rw [b1] at q; exact iteT (q H4 s04)
        | false =>
        rw [b1] at q
        refine iteF ⟨x2, rfl, _, rfl, x2, d2, n, rfl, h2.up s04, z d2 (by simp), fun H5 s5 => ?_⟩
        exact q H5 (s04.trans s5)
      · rw [decide_eq_false e]
        refine iteT ?_
        have e3 : stepD n (.tuple ds) = false := by
          match ds, ha with
          | [], _ => rfl
          | [_], _ => rfl
          | [_, _], _ => rfl
          | _ :: _ :: _ :: _ :: _, _ => rfl
          | [_, _, _], ha => exact absurd (by rw [ha.len]; rfl) e
        rw [← e3]
        exact q H (Same.refl H)
    | _ => exact iteT (q H (Same.refl H))
theorem ok_SideOf {f : Addr} {fd : FuncData} {k : Nat} (F : Fun K "side_of" "side_of" sSideOf f fd) (m_NO_LETTER : StrAt mg "NO_LETTER" dash) {tB tL tR : Tok} (m_BOTH_SIDES : mg "BOTH_SIDES" = some (.int 0 tB)) (m_LEFT_SIDE : mg "LEFT_SIDE" = some (.int 1 tL)) (m_RIGHT_SIDE : mg "RIGHT_SIDE" = some (.int 2 tR)) : FnOk P w K mg base CX0 (k + 1) f fd ["left", "right"] spSide := by
  refine F.ok scSideOf (fun vs H Q E h => ?_) (fun cdv A outer s H vs Q E hr h => ?_)
  · obtain ⟨x, y, rfl, _⟩ := h; rfl
  · obtain ⟨x, y, rfl, q⟩ := h
    have hu := hr.units
    refine ⟨_, (pss_cons (ps_if (pt_cmpR op_eq (pv 1) (pe_gstr m_NO_LETTER) (nomark _)) (pss_one (ps_ret (pe_glob rfl m_LEFT_SIDE (show RelV (.int 1) (.int 1 tL) from ⟨_, rfl⟩)))) pss_nil)
      (pss_one (ps_ret (pe_ifExp (pt_cmpR op_eq (pv 0) (pe_gstr m_NO_LETTER) (nomark _)) (pe_glob rfl m_RIGHT_SIDE (show RelV (.int 2) (.int 2 tR) from ⟨_, rfl⟩)) (pe_glob rfl m_BOTH_SIDES (show RelV (.int 0) (.int 0 tB) from ⟨_, rfl⟩)))))), ?_⟩
    refine ⟨.str y, rfl, rfl, _, rfl, ?_⟩
    unfold sideN at q
    by_cases e : y = dash
    · rw [if_pos e] at q
      rw [decide_eq_true (by rw [e])]
      exact iteT q
    · rw [if_neg e] at q
      rw [decide_eq_false (fun z => e (V.str.inj z))]
      refine iteF ⟨.str x, rfl, rfl, _, rfl, ?_⟩
      by_cases e2 : x = dash
      · rw [if_pos e2] at q
        rw [decide_eq_true (by rw [e2])]
        exact iteT q
      · rw [if_neg e2] at q
        rw [decide_eq_false (fun z => e2 (V.str.inj z))]
        exact iteF q
end
end KP
/-! Written data: an expression of constants, tuples, lists gives its data at new places. -/
namespace EL
open PySem PySem.Spec PyProof.Rows L2
/-- a reading, weakened -/
def clE (t : TE) : TE := fun σ H Q => ∃ P : VK, t σ H P ∧ ∀ v H1, P v H1 → Q v H1
def clA (t : TA) : TA := fun σ H Q => ∃ P : List V → Hp → Prop, t σ H P ∧ ∀ vs H1, P vs H1 → Q vs H1
theorem PE.cl {X : Cx} {e : Expr} {t : TE} (h : PE X e t) : PE X e (clE t) := ⟨fun pins s σ H Q I q => by
  obtain ⟨P, p, w⟩ := q
  refine wpAny_mono (h.run pins s σ H P I p) (fun u s1 z => ?_) fun _ _ z => z
  obtain ⟨v, H1, I1, r, q⟩ := z
  exact ⟨v, H1, I1, r, w v H1 q⟩⟩
theorem PA.cl {X : Cx} {es : List Expr} {t : TA} (h : PA X es t) : PA X es (clA t) := ⟨fun pos pins s σ H Q I q => by
  obtain ⟨P, p, w⟩ := q
  refine wpAny_mono (h.run pos pins s σ H P I p) (fun u s1 z => ?_) fun _ _ z => z
  obtain ⟨v, H1, I1, r, q⟩ := z
  exact ⟨v, H1, I1, r, w v H1 q⟩⟩
def tK (K : PySem.W.Frag) (d : PyData) : TE := fun _ H Q => ∀ v H', Same H H' → Dq K H' v d → Q v H'
def tKs (K : PySem.W.Frag) (ds : List PyData) : TA := fun _ H Q => ∀ vs H', Same H H' → DqAll K H' vs ds → Q vs H'
section
variable {X : Cx}
theorem kd_int {i j pos} : PE X (.Constant (.int i) j pos) (tK X.K (.int i)) := ⟨fun pins s σ H Q I h => pe_int.run pins s σ H Q I (h _ H (Same.refl H) (.int i))⟩
theorem kd_bl {b j pos} : PE X (.Constant (.bool b) j pos) (tK X.K (.bool b)) := ⟨fun pins s σ H Q I h => pe_bl.run pins s σ H Q I (h _ H (Same.refl H) (.bl b))⟩
theorem kd_non {j pos} : PE X (.Constant .none j pos) (tK X.K .none) := ⟨fun pins s σ H Q I h => pe_non.run pins s σ H Q I (h _ H (Same.refl H) .non)⟩
theorem kd_str {x j pos} : PE X (.Constant (.str x) j pos) (tK X.K (.str x)) := ⟨fun pins s σ H Q I h => pe_str.run pins s σ H Q I (h _ H (Same.refl H) (.str x))⟩
theorem kd_nil : PA X [] (tKs X.K []) := ⟨fun pos pins s σ H Q I h => pa_nil.run pos pins s σ H Q I (h _ H (Same.refl H) .nil)⟩
theorem kd_cons {e : Expr} {es : List Expr} {d : PyData} {ds : List PyData} (ha : PE X e (tK X.K d)) (hr : PA X es (tKs X.K ds)) (hs : starEach (e :: es) X.env = (false, eval e X.env) :: starEach es X.env := by rfl) : PA X (e :: es) (tKs X.K (d :: ds)) :=
  ⟨fun pos pins s σ H Q I h => (pa_cons ha hr hs).run pos pins s σ H Q I fun v H1 s1 d1 vs H2 s2 d2 => h _ H2 (s1.trans s2) (.cons (d1.up s2) d2)⟩
theorem kd_tup {es : List Expr} {ds : List PyData} {x1 pos} (h : PA X es (tKs X.K ds)) (hz : ds.length ≤ 1000000 := by decide) : PE X (.Tuple es x1 pos) (tK X.K (.tuple ds)) :=
  ⟨fun pins s σ H Q I q => (pe_tup h).run pins s σ H Q I fun vs H1 s1 d1 => ⟨len_sz (by rw [d1.len]; exact hz), fun p np => q _ _ (s1.trans (same_upd np)) (.tup (stOf upd_same) (d1.up (same_upd np)))⟩⟩
theorem kd_lst {es : List Expr} {ds : List PyData} {pos} (h : PA X es (tKs X.K ds)) (hz : ds.length ≤ 1000000 := by decide) : PE X (.List es pos) (tK X.K (.list ds)) :=
  ⟨fun pins s σ H Q I q => (pe_lst h).run pins s σ H Q I fun vs H1 s1 d1 => ⟨len_sz (by rw [d1.len]; exact hz), fun p np => q _ _ (s1.trans (same_upd np)) (.lst (sqOf upd_same) (d1.up (same_upd np)))⟩⟩
theorem kd_dic {pos} : PE X (.Dict [] [] pos) (tK X.K (.dict [])) :=
  ⟨fun pins s σ H Q I q => pe_dnewK.run pins s σ H Q I fun p np => q _ _ (same_upd np) (.dic upd_same)⟩
end
/-! ### data of tuples alone stands beside the deck -/
mutual
/-- no list and no dict within -/
def noLD : PyData → Bool
  | .none | .bool _ | .int _ | .str _ => true
  | .list _ | .dict _ => false
  | .tuple xs => noLDs xs
def noLDs : List PyData → Bool
  | [] => true
  | x :: xs => noLD x && noLDs xs
end
theorem sqT_hid {K : PySem.W.Frag} {H : Hp} {a q b : Addr} {m : Nat} {xs : List V} (D : Dw a q m H) (h : SqT K H b xs) : SqT K (hid a q H) b xs := by
  obtain ⟨c, _, k⟩ := D
  obtain ⟨_, _, _, ha⟩ := k.top
  obtain ⟨_, _, hq⟩ := k.que
  rcases h with (h | ⟨o, h⟩) | h
  · exact .inl (.inl (by rw [hid_ne (fun e => by rw [e, ha] at h; cases h) (fun e => by rw [e, hq] at h; cases h)]; exact h))
  · exact .inl (.inr ⟨o, by rw [hid_ne (fun e => by rw [e, ha] at h; cases h) (fun e => by rw [e, hq] at h; cases h)]; exact h⟩)
  · exact .inr h
mutual
theorem dq_hidT {K : PySem.W.Frag} {H : Hp} {a q : Addr} {m : Nat} (D : Dw a q m H) : ∀ (d : PyData) (v : V), Dq K H v d → noLD d = true → Dq K (hid a q H) v d
  | .none, _, h, _ => by cases h; exact .non
  | .bool b, _, h, _ => by cases h; exact .bl b
  | .int i, _, h, _ => by cases h; exact .int i
  | .str x, _, h, _ => by cases h; exact .str x
  | .list ds, _, h, n => by simp [noLD] at n
  | .tuple ds, _, h, n => by
    cases h with
    | tup hs ha => exact .tup (sqT_hid D hs) (dqAll_hidT D ds _ ha (by simpa [noLD] using n))
  | .dict _, _, h, n => by simp [noLD] at n
theorem dqAll_hidT {K : PySem.W.Frag} {H : Hp} {a q : Addr} {m : Nat} (D : Dw a q m H) : ∀ (ds : List PyData) (vs : List V), DqAll K H vs ds → noLDs ds = true → DqAll K (hid a q H) vs ds
  | [], _, h, _ => by cases h; exact .nil
  | d :: ds, _, h, n => by
    cases h with
    | cons h1 h2 =>
      obtain ⟨n1, n2⟩ : noLD d = true ∧ noLDs ds = true := by simpa [noLDs] using n
      exact .cons (dq_hidT D d _ h1 n1) (dqAll_hidT D ds _ h2 n2)
end
end EL
/-! xs[::2] of a list. -/
namespace EL
open PySem PySem.Spec PyProof.Rows L2
def evs (xs : List V) : List V := (sliceRange 0 (xs.length : Int) 2).filterMap (xs[·]?)
theorem evs_mem {xs : List V} {v : V} (h : v ∈ evs xs) : v ∈ xs := by
  obtain ⟨k, _, e⟩ := List.mem_filterMap.mp h
  exact List.mem_of_getElem? e
theorem vals_pick {xs : List V} {its : List Value} (r : Vals xs its) : ∀ R : List Nat, Vals (R.filterMap (xs[·]?)) (R.filterMap (its[·]?))
  | [] => .nil
  | k :: R => by
    have ih := vals_pick r R
    rw [List.filterMap_cons, List.filterMap_cons]
    by_cases h : k < xs.length
    · obtain ⟨u, hu, ru⟩ := r.get (List.getElem?_eq_getElem h)
      rw [List.getElem?_eq_getElem h, hu]
      exact .cons ru ih
    · rw [List.getElem?_eq_none (by omega), List.getElem?_eq_none (by rw [← r.length]; omega)]
      exact ih
theorem evs_len (xs : List V) : (evs xs).length ≤ xs.length := by
  refine Nat.le_trans (List.length_filterMap_le _ _) (sliceRange_length_le _ _ _ _ (fun _ => ⟨by omega, Int.le_refl _⟩) fun h => ?_)
  exact absurd (by decide : (2 : Int) > 0) h
def tEvs (K : PySem.W.Frag) (te : TE) : TE := fun σ H Q => te σ H fun x H1 => ∃ a xs, x = .ref a ∧ SqL K H1 a xs ∧ ∀ p, H1 p = none → Q (.ref p) (upd H1 p (.lst (evs xs)))
theorem pe_evs {X : Cx} {e : Expr} {te : TE} {k : Nat} {p2 p3 pos : Pos} (he : PE X e te) : PE X (.Subscript e (.Slice none none (some (.Constant (.int 2) k p2)) p3) pos) (tEvs X.K te) := by
  refine ⟨fun pins s σ H Q I h => ?_⟩
  refine Subscript_ (thn (he.run pins s σ H _ I h) fun v s1 ⟨x, H1, I1, r1, q1⟩ => ?_)
  obtain ⟨a, xs, ex, hx, q⟩ := q1
  subst ex
  cases r1
  have hst : PO X (some (.Constant (.int 2) k p2)) (tPart (tC (.int 2))) := po_some pe_int
  refine wpAny_Slice (thn (po_none.run pins s1 σ H1 (fun o H2 => o = none ∧ H2 = H1) I1 ⟨rfl, rfl⟩) fun vl s2 ⟨l, H2, I2, pl, el, e2⟩ => ?_)
  subst el e2
  refine thn (po_none.run pins s2 σ H2 (fun o H3 => o = none ∧ H3 = H2) I2 ⟨rfl, rfl⟩) fun vu s3 ⟨u, H3, I3, pu, eu, e3⟩ => ?_
  subst eu e3
  refine thn (hst.run pins s3 σ H3 (fun o H4 => o = some 2 ∧ H4 = H3) I3 ⟨2, rfl, rfl, rfl⟩) fun vs s4 ⟨o, H4, I4, ps, eo, e4⟩ => ?_
  subst eo e4
  have I5 : Inv X pins σ H4 { s4 with heap := s4.heap.push { cls := .type "slice", data := .fields #[vl, vu, vs] } } := I4.kept (t' := s4.toks) fun b ob q => Heap.get?_push_of_some _ q
  obtain ⟨its, r, ht, hz⟩ := I5.list hx
  have hlen := r.length
  show wpAny (model X.prog X.w) X.A (subscriptTail e (.Slice none none (some (.Constant (.int 2) k p2)) p3) (.ref a) (.ref s4.heap.objs.size)) (EP X pins σ Q) X.xe { s4 with heap := s4.heap.push { cls := .type "slice", data := .fields #[vl, vu, vs] } }
  refine tail_any (ops := [.ref a, .ref s4.heap.objs.size]) ht.isList.typeIs (PySem.slot_list_getitem.lookup) ?_ (by with_unfolding_all rfl)
  refine wpAny_getItem_list_slice ht.isList (Heap.IsSliceOf.new _ vl vu vs) pl pu ps (by decide) ?_ (by rw [List.size_toArray]; omega)
  have ep : slicePick its.toArray none none (some 2) = ((sliceRange 0 (xs.length : Int) 2).filterMap (its[·]?)).toArray := by
    unfold slicePick
    rw [show sliceBounds none none (some 2) its.toArray.size = (0, (its.toArray.size : Int), 2) from rfl]
    show ((sliceRange 0 (its.toArray.size : Int) 2).filterMap (its.toArray[·]?)).toArray = _
    rw [List.size_toArray, ← hlen]
    congr 2
    funext i
    simp
  rw [ep]
  refine ⟨.ref _, _, I5.laid (t' := s4.toks) (o := .lst (evs xs)) (fun b ob q => Heap.get?_push_of_some _ q) (Nat.le_refl _) ?_, rfl, q _ (I5.hok.fresh (Nat.le_refl _))⟩
  exact ⟨Nat.le_trans (evs_len xs) hz, _, 0, vals_pick r _, Heap.get?_push_size _ rfl⟩
end EL
/-! Comprehensions whose items are data made on the way: the heap without the list that grows. -/
namespace EL
open PySem PySem.Spec PyProof.Rows L2
/-- the heap without one object -/
def wo (D : Addr) (H : Hp) : Hp := fun b => if b = D then none else H b
theorem wo_ne {D b : Addr} {H : Hp} (h : b ≠ D) : wo D H b = H b := if_neg h
theorem wo_at {D : Addr} {H : Hp} : wo D H D = none := if_pos rfl
theorem wo_some {D b : Addr} {H : Hp} {o : HO} (h : wo D H b = some o) : b ≠ D ∧ H b = some o := by
  by_cases e : b = D
  · subst e; rw [wo_at] at h; cases h
  · exact ⟨e, by rw [wo_ne e] at h; exact h⟩
theorem wo_sub {D : Addr} {H : Hp} : Same (wo D H) H := fun _ _ h => (wo_some h).2
theorem wo_upd {D : Addr} {H : Hp} {o : HO} : wo D (upd H D o) = wo D H := by
  funext b
  by_cases e : b = D
  · subst e; rw [wo_at, wo_at]
  · rw [wo_ne e, wo_ne e, upd_ne e]
theorem same_wo {D : Addr} {H H' : Hp} (s : Same H H') : Same (wo D H) (wo D H') := fun b o h => by
  obtain ⟨e, h⟩ := wo_some h
  rw [wo_ne e]; exact s b o h
theorem wo_id {D : Addr} {H : Hp} (n : H D = none) : wo D H = H := by
  funext b
  by_cases e : b = D
  · subst e; rw [wo_at, n]
  · exact wo_ne e
/-- a comprehension's list at D behind i turns: the data f i, beside the list itself -/
def LcG (K : PySem.W.Frag) (D : Addr) (H : Hp) (f : Nat → List PyData) (i : Nat) (H' : Hp) : Prop := ∃ vs, H' D = some (.lst vs) ∧ DqAll K (wo D H') vs (f i) ∧ vs.length ≤ i ∧ Same H (wo D H')
section
variable {K : PySem.W.Frag} {D : Addr} {H H1 H2 : Hp} {f : Nat → List PyData} {i : Nat}
theorem LcG.start (n : H D = none) (h0 : f 0 = []) : LcG K D H f 0 (upd H D (.lst [])) :=
  ⟨[], upd_same, by rw [h0]; exact .nil, Nat.le_refl _, by rw [wo_upd, wo_id n]; exact Same.refl _⟩
theorem LcG.sm (L : LcG K D H f i H1) (n : H D = none) : Same H H1 := by
  obtain ⟨_, _, _, _, s⟩ := L
  exact s.trans wo_sub
theorem LcG.at (L : LcG K D H f i H1) : ∃ vs, H1 D = some (.lst vs) := by
  obtain ⟨vs, h, _⟩ := L
  exact ⟨vs, h⟩
theorem DqAll.snoc' {vs : List V} {ds : List PyData} {v : V} {d : PyData} (h : DqAll K H vs ds) (g : Dq K H v d) : DqAll K H (vs ++ [v]) (ds ++ [d]) := h.app (.cons g .nil)
theorem lcg_some {v : V} {d : PyData} (L : LcG K D H f i H1) (s : Same H1 H2) (hf : f (i + 1) = f i ++ [d]) (hv : Dq K (wo D H2) v d) (hi : i < 1000000) :
    ∃ acc, H2 D = some (.lst acc) ∧ acc.length < sizeLine ∧ LcG K D H f (i + 1) (upd H2 D (.lst (acc ++ [v]))) := by
  obtain ⟨vs, h1, h2, h3, h4⟩ := L
  refine ⟨vs, s _ _ h1, lt_sz (by omega), vs ++ [v], upd_same, ?_, by rw [List.length_append]; show vs.length + 1 ≤ _; omega, ?_⟩
  · rw [wo_upd, hf]
    exact (h2.up (same_wo s)).snoc' hv
  · rw [wo_upd]
    exact h4.trans (same_wo s)
theorem lcg_none (L : LcG K D H f i H1) (s : Same H1 H2) (hf : f (i + 1) = f i) : LcG K D H f (i + 1) H2 := by
  obtain ⟨vs, h1, h2, h3, h4⟩ := L
  exact ⟨vs, s _ _ h1, by rw [hf]; exact h2.up (same_wo s), by omega, h4.trans (same_wo s)⟩
/-- at the end: a list of this data -/
theorem LcG.done (L : LcG K D H f i H1) : ∃ vs, H1 D = some (.lst vs) ∧ DqAll K (wo D H1) vs (f i) ∧ DqAll K H1 vs (f i) ∧ vs.length ≤ i := by
  obtain ⟨vs, h1, h2, h3, _⟩ := L
  exact ⟨vs, h1, h2, h2.up wo_sub, h3⟩
/-- a new tuple stands beside the list -/
theorem tup_wo {p : Addr} {xs : List V} {ds : List PyData} (hD : ∃ vs, H1 D = some (.lst vs)) (np : H1 p = none) (h : DqAll K (wo D H1) xs ds) : Dq K (wo D (upd H1 p (.tup xs))) (.ref p) (.tuple ds) := by
  obtain ⟨vs, hD⟩ := hD
  have e : p ≠ D := fun e => by rw [e, hD] at np; cases np
  exact .tup (stOf (by rw [wo_ne e]; exact upd_same)) (h.up (same_wo (same_upd np)))
theorem take_snoc {α : Type} {l : List α} {i : Nat} {x : α} (h : l[i]? = some x) : l.take (i + 1) = l.take i ++ [x] := by
  rw [List.take_add_one, h]; rfl
end
/-! ### a method without arguments -/
theorem mv_get {α : Type} {l : List α} {g : α → PyData} {i : Nat} {d : PyData} (h : (l.map g)[i]? = some d) : ∃ x, l[i]? = some x ∧ d = g x := by
  rw [List.getElem?_map] at h
  cases e : l[i]? with
  | none => rw [e] at h; cases h
  | some x => rw [e] at h; exact ⟨x, rfl, (Option.some.inj h).symm⟩
end EL
/-! set(xs) of a list of ints: a set that can be sorted. -/
namespace EL
open PySem PySem.Spec PyProof.Rows L2
section
variable {P : Program} {w : World} {A : Around} {E : Value → Shared → Prop} {s : Shared}
/-- the empty set, as it is laid -/
abbrev bareSet (w : World) : Obj := { cls := .type "set", dict := none, data := .set #[] 0 (.fresh 0 0 (!w.params.followText "set-order")) }
theorem set_list_ints {l : Addr} {items : Array Value} (ns : List Int) {Q : Value → Shared → Prop} (hh : A.handled = none) (hl : s.heap.IsList l items) (hit : IntsAre items.toList ns) (hb : ns.length + 1 < scanBound)
    (h : ∀ (g : Heap) (tk c : Nat), SetR w g s.heap.objs.size (fun j => decide (j ∈ ns)) c → c ≤ ns.length → (∀ b o, s.heap.get? b = some o → g.get? b = some o) → Q (.ref s.heap.objs.size) { s with heap := g, toks := tk }) : wpAny (model P w) A (call (.type "set") [.ref l]) Q E s := by
  have len : items.size = ns.length := by
    rw [← Array.length_toList]; exact IntsAre.length hit
  obtain ⟨_, _, mr⟩ := PySem.F.called_set.mro
  have md := PySem.F.called_set.made
  have sb := PySem.F.called_set.sub
  refine wpAny_call (codeAny_of_tree ?_)
  show wpAny _ _ (callAny (.type "set") _) _ _ _
  refine wpAny_pure ⟨Code.quiet_builtin _ (by decide +kernel), codeAny_builtin (PySem.F.entry_type_call) ?_⟩
  rw [Around.under_plain (weight_type_call_type "set" [.ref l] []) rfl]
  have q1 := PySem.F.called_set.notType
  have q2 := PySem.F.called_set.canCreate
  have q3 := PySem.F.typeCall_set_1 (.ref l)
  repeat (any_goals (first | assumption | wp_step))
  generalize hN : s.heap.objs.size = N at h ⊢
  have made : ∀ B : Around, codeAny (model P w) B (.call (.builtin "set.__new__") ⟨[.type "set", .ref l], []⟩) (wants (fun obj s₁ => obj = .ref N ∧ s₁ = { s with heap := s.heap.push (bareSet w) }) E) s := fun B => code_set_led1 (.ref l) (by rw [← hN]; exact ⟨rfl, rfl⟩)
  refine codeAny_mono (made _) fun r s₁ hr => ?_
  match r, hr with
  | .error e, hr => exact hr
  | .ok (.ret obj), ⟨e1, e2⟩ =>
    subst e1 e2
    have hS : (s.heap.push (bareSet w)).get? N = some (bareSet w) := by rw [← hN]; exact Heap.get?_push_size _ rfl
    have hT : Shared.TypeIs { s with heap := s.heap.push (bareSet w) } (.ref N) "set" := ⟨_, hS, rfl⟩
    have hli := PySem.F.called_set.init.lookup
    have hbi := PySem.F.called_set.init.bind (.ref N)
    repeat (any_goals (first | assumption | wp_step))
    have init : ∀ B : Around, B.handled = none → codeAny (model P w) B (.call (.builtin "set.__init__") ⟨[.ref N, .ref l], []⟩) (wants (fun r s₂ => r = .none ∧ ∃ g tk c, s₂ = { s with heap := g, toks := tk } ∧ SetR w g N (fun j => decide (j ∈ ns)) c ∧ c ≤ ns.length ∧ (∀ b o, s.heap.get? b = some o → g.get? b = some o)) E) { s with heap := s.heap.push (bareSet w) } := by
      intro B hB
      refine codeAny_call_builtin PySem.F.called_set.init.plain PySem.F.entry_set_init (PySem.check_set_init_1 hT ?_)
      have hl1 : (s.heap.push (bareSet w)).IsList l items := hl.push _
      have hTl : Shared.TypeIs { s with heap := s.heap.push (bareSet w) } (.ref l) "list" := Heap.IsList.typeIs (s := { s with heap := s.heap.push (bareSet w) }) hl1
      have f1 := PySem.F.sub_list_set
      have f2 := PySem.F.sub_list_frozenset
      have f3 : (Value.type "list" == Value.type "dict") = false := by decide
      have lN : l < N := by
        obtain ⟨o, ho, _⟩ := hl
        rw [← hN]; exact Heap.lt_size ho
      have sz : (s.heap.push (bareSet w)).objs.size = N + 1 := by rw [Heap.size_push, hN]
      unfold Builtin.«set.__init__» noKeywords Builtin.Frozenset.updateFrom
      generalize hPI : pyIter = PI
      wp_walk
      subst hPI
      refine wpAny_pyIter_list hl1 (wpAny_bind (wpAny_runValue ?_))
      have hB3 : B.in1.in1.handled = none := by simp [hB]
      have walk := (Walks.list (prog := P) (w := w) hB3 (N + 1) l (Nat.ne_of_lt (Nat.lt_succ_of_lt lN)) items).toS
      rw [sz]
      refine set_update_ints walk N ?_ ns len hb ?_ (items.size - 0) 0 _ (by omega) (Nat.zero_le _) ⟨?_, hl1.push _⟩ ⟨0, Nat.le_refl 0, setR_new_at (Heap.get?_push_of_some _ hS)⟩ ?_
      · intro z
        rcases List.mem_cons.mp z with z | z
        · exact Nat.ne_of_lt (Nat.lt_succ_self N) z
        · exact Nat.ne_of_gt lN (List.mem_singleton.mp z)
      · intro i v hv
        have hi : i < ns.length := by rw [← len]; exact (Array.getElem?_eq_some_iff.mp hv).1
        obtain ⟨t, e⟩ := IntsAre.int_at hit i v (by rw [Array.getElem?_toList]; exact hv)
        exact ⟨ns[i], t, List.getElem?_eq_getElem hi, by rw [e, List.getD_eq_getElem?_getD, List.getElem?_eq_getElem hi]; rfl⟩
      · exact ⟨_, by rw [← sz]; exact Heap.get?_push_size _ rfl, rfl, rfl⟩
      · rintro ⟨g, gn, dr, tk, os⟩ c mv hc R
        obtain rfl : gn = s.gens := mv.gens
        obtain rfl : dr = s.drawn := mv.drawn
        obtain rfl : os = s.os := mv.os
        refine wpAny_pure ?_
        refine wpAny_pure ⟨rfl, g, tk, c, rfl, R, by omega, fun b o e => ?_⟩
        have hb0 : b < N := by rw [← hN]; exact Heap.lt_size e
        refine mv.heap b o (fun z => ?_) (Heap.get?_push_of_some _ (Heap.get?_push_of_some _ e))
        rcases List.mem_cons.mp z with z | z
        · exact Nat.ne_of_lt hb0 z
        · exact Nat.ne_of_lt (Nat.lt_succ_of_lt hb0) (List.mem_singleton.mp z)
    refine codeAny_mono (init _ (by simp [hh])) fun r₂ s₂ h2 => ?_
    match r₂, h2 with
    | .error e, h2 => exact h2
    | .ok (.ret v), ⟨e0, g, tk, c, e1, R, hc, keep⟩ =>
      subst e0 e1
      repeat (any_goals (first | assumption | wp_step))
      exact h g tk c R hc keep
    | .ok .next, h2 => exact h2.elim
    | .ok .brk, h2 => exact h2.elim
    | .ok .cont, h2 => exact h2.elim
  | .ok .next, hr => exact hr.elim
  | .ok .brk, hr => exact hr.elim
  | .ok .cont, hr => exact hr.elim
end
end EL
namespace EL
open PySem PySem.Spec PyProof.Rows L2
section
variable {X : Cx}
/-- set(xs), xs a list of ints -/
def rSetI (K : PySem.W.Frag) (w : World) : List V → Hp → VK → Prop := fun xs H Q => ∃ (l : Addr) (ns : List Int), xs = [.ref l] ∧ SqL K H l (ns.map V.int) ∧ ns.length ≤ 1000 ∧ ∀ p c, H p = none → c ≤ ns.length → Q (.ref p) (upd H p (SetO w p (fun j => decide (j ∈ ns)) c))
theorem cr_setI (hc : X.calm = true) : CallR X (.type "set") (rSetI X.K X.w) := by
  intro pins s σ H xs us Q I r h
  obtain ⟨l, ns, rfl, hl, hn, q⟩ := h
  rw [Vals.ref1 r]
  obtain ⟨its, rv, pl, hz⟩ := I.list hl
  have hN : H s.heap.objs.size = none := I.hok.fresh (Nat.le_refl _)
  have room : ns.length + 1 < scanBound := by unfold scanBound; omega
  refine set_list_ints ns (I.ok.hd hc) pl.isList (by simpa using RZ.intsAre_vals rv) room fun g tk c R hcc k => ?_
  exact ⟨.ref s.heap.objs.size, upd H s.heap.objs.size (SetO X.w s.heap.objs.size (fun j => decide (j ∈ ns)) c), I.laid (t' := tk) k (Nat.le_refl _) (setO_new R), rfl, q _ c hN hcc⟩
end
end EL
/-! d.setdefault(k, []).append(v), again and again: lists by keys. -/
namespace EL
open PySem PySem.Spec PyProof.Rows L2
/-- the keys, as they are met -/
def keysOf : List (L2.Key × PyData) → List L2.Key
  | [] => []
  | (k, _) :: r => k :: (keysOf r).filter fun j => decide (j ≠ k)
/-- what stands under a key -/
def ofK (es : List (L2.Key × PyData)) (k : L2.Key) : List PyData := (es.filter fun e => decide (e.1 = k)).map (·.2)
theorem ofK_snoc (es : List (L2.Key × PyData)) (k j : L2.Key) (d : PyData) : ofK (es ++ [(k, d)]) j = ofK es j ++ (if k = j then [d] else []) := by
  unfold ofK
  rw [List.filter_append, List.map_append]
  congr 1
  by_cases h : k = j
  · rw [if_pos h, List.filter_cons_of_pos (by simpa using h)]; rfl
  · rw [if_neg h, List.filter_cons_of_neg (by simpa using h)]; rfl
theorem mem_keysOf {es : List (L2.Key × PyData)} {k : L2.Key} : k ∈ keysOf es ↔ ∃ d, (k, d) ∈ es := by
  induction es with
  | nil => simp [keysOf]
  | cons e r ih =>
    obtain ⟨j, d⟩ := e
    simp only [keysOf, List.mem_cons, List.mem_filter, decide_eq_true_eq, ih]
    constructor
    · rintro (rfl | ⟨⟨x, hx⟩, _⟩)
      · exact ⟨d, .inl rfl⟩
      · exact ⟨x, .inr hx⟩
    · rintro ⟨x, h | h⟩
      · exact .inl (congrArg Prod.fst h)
      · by_cases e : k = j
        · exact .inl e
        · exact .inr ⟨⟨x, h⟩, e⟩
theorem keysOf_new' {es : List (L2.Key × PyData)} {k : L2.Key} (d : PyData) (h : k ∉ keysOf es) : keysOf (es ++ [(k, d)]) = keysOf es ++ [k] := by
  induction es with
  | nil => rfl
  | cons e r ih =>
    obtain ⟨j, x⟩ := e
    simp only [List.cons_append, keysOf] at h ⊢
    have h1 : k ≠ j := fun e => h (e ▸ List.mem_cons_self)
    have h2 : k ∉ keysOf r := fun q => h (List.mem_cons_of_mem _ (List.mem_filter.mpr ⟨q, by simpa using h1⟩))
    rw [ih h2, List.filter_append, List.filter_cons_of_pos (by simpa using h1)]; rfl
theorem keysOf_old {es : List (L2.Key × PyData)} {k : L2.Key} (d : PyData) (h : k ∈ keysOf es) : keysOf (es ++ [(k, d)]) = keysOf es := by
  induction es with
  | nil => simp [keysOf] at h
  | cons e r ih =>
    obtain ⟨j, x⟩ := e
    simp only [List.cons_append, keysOf] at h ⊢
    by_cases h1 : k = j
    · subst h1
      by_cases h2 : k ∈ keysOf r
      · rw [ih h2]
      · have := keysOf_new' (es := r) d h2
        rw [this, List.filter_append, List.filter_cons_of_neg (by simp)]; simp
    · rcases List.mem_cons.mp h with h | h
      · exact absurd h h1
      · rw [ih (List.mem_filter.mp h).1]
theorem keysOf_new {es : List (L2.Key × PyData)} {k : L2.Key} (d : PyData) (h : k ∉ keysOf es) : keysOf (es ++ [(k, d)]) = keysOf es ++ [k] := keysOf_new' d h
theorem keysOf_len (es : List (L2.Key × PyData)) : (keysOf es).length ≤ es.length := by
  induction es with
  | nil => exact Nat.le_refl _
  | cons e r ih =>
    simp only [keysOf, List.length_cons]
    have := List.length_filter_le (fun j => decide (j ≠ e.1)) (keysOf r)
    omega
theorem ofK_nil {es : List (L2.Key × PyData)} {k : L2.Key} (h : k ∉ keysOf es) : ofK es k = [] := by
  unfold ofK
  rw [List.map_eq_nil_iff, List.filter_eq_nil_iff]
  intro e he
  simp only [decide_eq_true_eq]
  intro z
  exact h (mem_keysOf.mpr ⟨e.2, by rw [← z]; exact he⟩)
theorem valV_keys {kvs : List (L2.Key × V)} {k : L2.Key} : valV kvs k = none ↔ k ∉ kvs.map (·.1) := by
  induction kvs with
  | nil => simp [valV_nil]
  | cons e r ih =>
    obtain ⟨j, v⟩ := e
    by_cases h : k = j
    · subst h; simp [valV]
    · have h' : ¬ j = k := fun e => h e.symm
      simp only [List.map_cons, List.mem_cons, h, false_or]
      rw [← ih]
      simp [valV, h']
/-- the heap without a dict and the lists that it holds -/
def hidO (d : Addr) (kvs : List (L2.Key × V)) (H : Hp) : Hp := fun b => if b = d ∨ V.ref b ∈ kvs.map (·.2) then none else H b
theorem hidO_ne {d b : Addr} {kvs : List (L2.Key × V)} {H : Hp} (h1 : b ≠ d) (h2 : V.ref b ∉ kvs.map (·.2)) : hidO d kvs H b = H b := if_neg fun z => z.elim h1 h2
theorem hidO_some {d b : Addr} {kvs : List (L2.Key × V)} {H : Hp} {o : HO} (h : hidO d kvs H b = some o) : b ≠ d ∧ V.ref b ∉ kvs.map (·.2) ∧ H b = some o := by
  unfold hidO at h
  split at h
  · cases h
  · rename_i z
    exact ⟨fun e => z (.inl e), fun e => z (.inr e), h⟩
theorem hidO_sub {d : Addr} {kvs : List (L2.Key × V)} {H : Hp} : Same (hidO d kvs H) H := fun _ _ h => (hidO_some h).2.2
theorem hidO_same {d : Addr} {kvs : List (L2.Key × V)} {H H' : Hp} (s : Same H H') : Same (hidO d kvs H) (hidO d kvs H') := fun b o h => by
  obtain ⟨h1, h2, h3⟩ := hidO_some h
  rw [hidO_ne h1 h2]; exact s b o h3
theorem valV_mem {kvs : List (L2.Key × V)} {k : L2.Key} {v : V} (h : valV kvs k = some v) : v ∈ kvs.map (·.2) := by
  induction kvs with
  | nil => rw [valV_nil] at h; cases h
  | cons e r ih =>
    obtain ⟨j, w⟩ := e
    by_cases hk : j = k
    · subst hk
      have : w = v := by simpa [valV] using h
      exact this ▸ List.mem_cons_self
    · exact List.mem_cons_of_mem _ (ih (by simpa [valV, hk] using h))
structure Grp (K : PySem.W.Frag) (Hb H : Hp) (d : Addr) (es : List (L2.Key × PyData)) : Prop where
  ex : ∃ kvs : List (L2.Key × V), H d = some (.dK kvs) ∧ kvs.map (·.1) = keysOf es ∧ Hb d = none ∧
    (∀ (k : L2.Key) (v : V), valV kvs k = some v → ∃ l vs, v = .ref l ∧ Hb l = none ∧ l ≠ d ∧ H l = some (.lst vs) ∧ DqAll K (hidO d kvs H) vs (ofK es k)) ∧
    (∀ (j k : L2.Key) (l : Addr), valV kvs j = some (.ref l) → valV kvs k = some (.ref l) → j = k) ∧
    (∀ v ∈ kvs.map (·.2), ∃ k, valV kvs k = some v) ∧ Same Hb (hidO d kvs H)
theorem Grp.same {K : PySem.W.Frag} {Hb H : Hp} {d : Addr} {es : List (L2.Key × PyData)} (g : Grp K Hb H d es) : Same Hb H := by
  obtain ⟨_, _, _, _, _, _, _, s⟩ := g.ex
  exact s.trans hidO_sub
theorem Grp.up {K : PySem.W.Frag} {Hb H H' : Hp} {d : Addr} {es : List (L2.Key × PyData)} (g : Grp K Hb H d es) (s : Same H H') : Grp K Hb H' d es := by
  obtain ⟨kvs, h1, h2, h3, h4, h5, h6, h7⟩ := g.ex
  refine ⟨kvs, s _ _ h1, h2, h3, fun k v hv => ?_, h5, h6, h7.trans (hidO_same s)⟩
  obtain ⟨l, vs, q1, q2, q3, q4, q5⟩ := h4 k v hv
  exact ⟨l, vs, q1, q2, q3, s _ _ q4, q5.up (hidO_same s)⟩
theorem Grp.start {K : PySem.W.Frag} {Hb : Hp} {d : Addr} (n : Hb d = none) : Grp K Hb (upd Hb d (.dK [])) d [] :=
  ⟨[], upd_same, rfl, n, fun k v h => (by rw [valV_nil] at h; cases h), fun j k l h => (by rw [valV_nil] at h; cases h), fun v h => (List.not_mem_nil h).elim, fun b o h => by
    rw [hidO_ne (ne_of_none h n) List.not_mem_nil, upd_ne (ne_of_none h n)]; exact h⟩
/-- the data under a key, as they may be read -/
theorem Grp.get {K : PySem.W.Frag} {Hb H : Hp} {d : Addr} {es : List (L2.Key × PyData)} (g : Grp K Hb H d es) : ∃ kvs : List (L2.Key × V), H d = some (.dK kvs) ∧ kvs.map (·.1) = keysOf es ∧
    ∀ k : L2.Key, (valV kvs k = none ∧ ofK es k = []) ∨ ∃ l vs, valV kvs k = some (.ref l) ∧ Hb l = none ∧ H l = some (.lst vs) ∧ DqAll K H vs (ofK es k) := by
  obtain ⟨kvs, h1, h2, h3, h4, h5, h6, h7⟩ := g.ex
  refine ⟨kvs, h1, h2, fun k => ?_⟩
  cases e : valV kvs k with
  | none => exact .inl ⟨rfl, ofK_nil (by rw [← h2]; exact valV_keys.mp e)⟩
  | some v =>
    obtain ⟨l, vs, rfl, q2, q3, q4, q5⟩ := h4 k v e
    exact .inr ⟨l, vs, rfl, q2, q4, q5.up hidO_sub⟩
/-- an item's data: beside the dict and its lists -/
def GrpItem (K : PySem.W.Frag) (H : Hp) (d : Addr) (v : V) (x : PyData) : Prop := ∀ kvs, H d = some (.dK kvs) → Dq K (hidO d kvs H) v x
theorem GrpItem.int {K : PySem.W.Frag} {H : Hp} {d : Addr} (i : Int) : GrpItem K H d (.int i) (.int i) := fun _ _ => .int i
theorem GrpItem.old {K : PySem.W.Frag} {Hb H : Hp} {d : Addr} {es : List (L2.Key × PyData)} {v : V} {x : PyData} (g : Grp K Hb H d es) (h : Dq K Hb v x) : GrpItem K H d v x := fun kvs e => by
  obtain ⟨kvs', h1, _, _, _, _, _, h7⟩ := g.ex
  rw [e] at h1; cases h1
  exact h.up h7
section
variable {K : PySem.W.Frag} {Hb H : Hp} {d : Addr} {es : List (L2.Key × PyData)} {kvs : List (L2.Key × V)}
/-- one more behind a list that is there -/
theorem grp_more {k : L2.Key} {l : Addr} {vs : List V} {v : V} {x : PyData} (g : Grp K Hb H d es) (gd : H d = some (.dK kvs)) (hk : valV kvs k = some (.ref l)) (gl : H l = some (.lst vs)) (hx : GrpItem K H d v x) :
    Grp K Hb (upd H l (.lst (vs ++ [v]))) d (es ++ [(k, x)]) := by
  obtain ⟨kvs', h1, h2, h3, h4, h5, h6, h7⟩ := g.ex
  rw [gd] at h1; cases h1
  obtain ⟨l', vs', e1, nl, ld, gl', dl⟩ := h4 k _ hk
  cases e1
  rw [gl] at gl'; cases gl'
  have hin : V.ref l ∈ kvs.map (·.2) := valV_mem hk
  have hh : hidO d kvs (upd H l (.lst (vs ++ [v]))) = hidO d kvs H := by
    funext b
    unfold hidO
    by_cases z : b = d ∨ V.ref b ∈ kvs.map (·.2)
    · rw [if_pos z, if_pos z]
    · rw [if_neg z, if_neg z, upd_ne (fun e => z (.inr (by rw [e]; exact hin)))]
  refine ⟨kvs, by rw [upd_ne ld.symm]; exact gd, ?_, h3, fun j w hw => ?_, h5, h6, by rw [hh]; exact h7⟩
  · rw [keysOf_old]; exact h2
    rw [← h2]
    exact Classical.byContradiction fun n => by rw [valV_keys.mpr n] at hk; cases hk
  · obtain ⟨m, us, rfl, nm, md, gm, dm⟩ := h4 j w hw
    by_cases e : k = j
    · subst e
      rw [hk] at hw; cases hw
      rw [gl] at gm; cases gm
      refine ⟨l, vs ++ [v], rfl, nl, ld, upd_same, ?_⟩
      rw [hh, ofK_snoc, if_pos rfl]
      exact dm.snoc' (hx kvs gd)
    · have hne : m ≠ l := fun z => e (h5 k j l hk (by rw [← z]; exact hw))
      refine ⟨m, us, rfl, nm, md, by rw [upd_ne hne]; exact gm, ?_⟩
      rw [hh, ofK_snoc, if_neg e, List.append_nil]; exact dm
/-- a new list under a new key -/
theorem grp_new {k : L2.Key} {z : Addr} (g : Grp K Hb H d es) (gd : H d = some (.dK kvs)) (hk : valV kvs k = none) (nz : H z = none) : ∀ {G : Hp}, Same H G → G z = some (.lst []) → ∀ {v : V} {x : PyData},
    ∀ {G' : Hp}, Same (upd G d (.dK (putK kvs k (.ref z)))) G' → (∀ ks, G' d = some (.dK ks) → Dq K (hidO d ks G') v x) → Grp K Hb (upd G' z (.lst [v])) d (es ++ [(k, x)]) := by
  intro G sG gz v x G' s' hx
  obtain ⟨kvs', h1, h2, h3, h4, h5, h6, h7⟩ := g.ex
  rw [gd] at h1; cases h1
  have zd : z ≠ d := fun e => by rw [e, gd] at nz; cases nz
  have gd' : G' d = some (.dK (putK kvs k (.ref z))) := s' _ _ upd_same
  have hput : putK kvs k (.ref z) = kvs ++ [(k, .ref z)] := putK_new _ hk
  have zb : Hb z = none := g.same.free nz
  have hh : hidO d (putK kvs k (.ref z)) (upd G' z (.lst [v])) = hidO d (putK kvs k (.ref z)) G' := by
    funext b
    unfold hidO
    by_cases q : b = d ∨ V.ref b ∈ (putK kvs k (.ref z)).map (·.2)
    · rw [if_pos q, if_pos q]
    · rw [if_neg q, if_neg q, upd_ne (fun e => q (.inr (by rw [e, hput, List.map_append]; exact List.mem_append_right _ (by simp))))]
  have sH : Same (hidO d kvs H) (hidO d (putK kvs k (.ref z)) G') := fun b o h => by
    obtain ⟨q1, q2, q3⟩ := hidO_some h
    have bz : b ≠ z := ne_of_none q3 nz
    rw [hidO_ne q1 (by
      rw [hput, List.map_append, List.mem_append]
      rintro (q | q)
      · exact q2 q
      · have : V.ref b = V.ref z := by simpa using q
        exact bz (by cases this; rfl))]
    exact s' _ _ (by rw [upd_ne q1]; exact sG _ _ q3)
  have old : ∀ {m : Addr} {us : List V}, H m = some (.lst us) → (upd G' z (.lst [v])) m = some (.lst us) := fun {m us} h => by
    have mz : m ≠ z := ne_of_none h nz
    have md : m ≠ d := fun e => by rw [e, gd] at h; cases h
    rw [upd_ne mz]
    exact s' _ _ (by rw [upd_ne md]; exact sG _ _ h)
  refine ⟨putK kvs k (.ref z), by rw [upd_ne zd.symm]; exact gd', ?_, h3, fun j w hw => ?_, fun i j l e1 e2 => ?_, fun w hw => ?_, by rw [hh]; exact h7.trans sH⟩
  · rw [hput, List.map_append, h2, keysOf_new _ (by rw [← h2]; exact valV_keys.mp hk)]; rfl
  · rw [valV_put] at hw
    by_cases e : j = k
    · subst e
      rw [if_pos rfl] at hw; cases hw
      refine ⟨z, [v], rfl, zb, zd, upd_same, ?_⟩
      rw [hh, ofK_snoc, if_pos rfl, ofK_nil (by rw [← h2]; exact valV_keys.mp hk)]
      exact .cons (hx _ gd') .nil
    · rw [if_neg e] at hw
      obtain ⟨m, us, rfl, nm, md, gm, dm⟩ := h4 j w hw
      refine ⟨m, us, rfl, nm, md, old gm, ?_⟩
      rw [hh, ofK_snoc, if_neg (fun q => e q.symm), List.append_nil]
      exact dm.up sH
  · have no : ∀ t : L2.Key, valV kvs t = some (.ref z) → False := fun t q => by
      obtain ⟨m, us, q1, _, _, gm, _⟩ := h4 t _ q
      cases q1; rw [nz] at gm; cases gm
    rw [valV_put] at e1 e2
    by_cases a : i = k
    · rw [if_pos a] at e1; cases e1
      by_cases b : j = k
      · exact a.trans b.symm
      · rw [if_neg b] at e2; exact (no j e2).elim
    · rw [if_neg a] at e1
      by_cases b : j = k
      · rw [if_pos b] at e2; cases e2; exact (no i e1).elim
      · rw [if_neg b] at e2; exact h5 i j l e1 e2
  · rw [hput, List.map_append, List.mem_append] at hw
    rcases hw with hw | hw
    · obtain ⟨j, hj⟩ := h6 w hw
      refine ⟨j, ?_⟩
      rw [valV_put, if_neg (fun e => by subst e; rw [hk] at hj; cases hj)]; exact hj
    · have : w = .ref z := by simpa using hw
      subst this
      exact ⟨k, by rw [valV_put, if_pos rfl]⟩
end
end EL
namespace EL
open PySem PySem.Spec PyProof.Rows L2
/-- d.setdefault(k, []).append(v) -/
def tGrp (K : PySem.W.Frag) (td tk ti : TE) : TS := fun D σ H => td σ H fun x H1 => ∃ a Hb es, x = .ref a ∧ Grp K Hb H1 a es ∧ es.length < 100000 ∧ tk σ H1 fun y H2 => ∃ key : L2.Key, y = kV key ∧ Same H1 H2 ∧
  ∀ H3, Same Hb H3 → (∃ ks, H3 a = some (.dK ks)) → ti σ H3 fun v H4 => ∃ dd, Same H3 H4 ∧ GrpItem K H4 a v dd ∧ ∀ H5, Grp K Hb H5 a (es ++ [(key, dd)]) → D.nx σ H5
section
variable {X : Cx} {o e i : Expr} {td tk ti : TE} {apos cpos lp ap2 cp2 p : Pos}
theorem grp_bound {K : PySem.W.Frag} {Hb H : Hp} {d : Addr} {es : List (L2.Key × PyData)} (g : Grp K Hb H d es) {kvs : List (L2.Key × V)} (h : H d = some (.dK kvs)) : kvs.length ≤ es.length ∧ ∀ k l vs, valV kvs k = some (.ref l) → H l = some (.lst vs) → vs.length ≤ es.length := by
  obtain ⟨kvs', h1, h2, h3, h4, h5, h6, h7⟩ := g.ex
  rw [h] at h1; cases h1
  refine ⟨by rw [← List.length_map (f := fun e : L2.Key × V => e.1), h2]; exact keysOf_len es, fun k l vs hk hl => ?_⟩
  obtain ⟨m, us, e1, _, _, gm, dm⟩ := h4 k _ hk
  cases e1
  rw [hl] at gm; cases gm
  rw [dm.len]
  unfold ofK
  rw [List.length_map]
  exact List.length_filter_le _ _
theorem ps_grp (hd : PE X o td) (hk : PE X e tk) (hi : PE X i ti) (m : M2 X o "setdefault" apos e (.List [] lp) cpos)
    (hbase : attributeBase (.Call (.Attribute o "setdefault" apos) [e, .List [] lp] [] cpos) "append" X.env (eval (.Call (.Attribute o "setdefault" apos) [e, .List [] lp] [] cpos) X.env) = eval (.Call (.Attribute o "setdefault" apos) [e, .List [] lp] [] cpos) X.env := by rfl)
    (hfew : ((backTo cp2 (starEach [i] X.env)).all (fun x => !x.1) && (backToKw cp2 (keywordEach [] X.env)).all (fun x => x.1.isSome)
      && decide (([i] : List Expr).length + ([] : List Keyword).length + (if ([] : List Keyword).isEmpty then 0 else 1) < 30)) = true := by rfl)
    (hline : (ap2.endLine == cp2.line) = true := by rfl) (hs : starEach [i] X.env = (false, eval i X.env) :: starEach [] X.env := by rfl) :
    PS X (.Expr (.Call (.Attribute (.Call (.Attribute o "setdefault" apos) [e, .List [] lp] [] cpos) "append" ap2) [i] [] cp2) p) (tGrp X.K td tk ti) := by
  refine ⟨fun pins s σ H D I h => (ps_expr (pe_bm PySem.F.plainAttrs_list PySem.F.slot_list_append PySem.F.type_list_append mt_append (pe_dsetd (EL.PE.cl hd) (EL.PE.cl hk) (pe_lst pa_nil) m) (pa_cons (EL.PE.cl hi) pa_nil hs) hbase hfew hline hs rfl)).run pins s σ H D I ?_⟩
  refine ⟨_, h, ?_⟩
  rintro x H1 ⟨d, Hb, es, rfl, g1, hlen, hky⟩
  obtain ⟨kvs, gd1, _⟩ := g1.get
  refine ⟨d, rfl, .inl ⟨kvs, .inl gd1⟩, _, hky, ?_⟩
  rintro y H2 ⟨key, rfl, s2, hit⟩
  have g2 := g1.up s2
  have gd2 := s2 _ _ gd1
  obtain ⟨bk, bl⟩ := grp_bound g2 gd2
  refine ⟨Nat.zero_le _, fun z nz => ?_⟩
  have s3 : Same H2 (upd H2 z (.lst [])) := same_upd nz
  have gz : upd H2 z (.lst []) z = some (.lst []) := upd_same
  generalize upd H2 z (.lst []) = H3 at s3 gz ⊢
  have g3 := g2.up s3
  have gd3 := s3 _ _ gd2
  refine ⟨kvs, key, gd3, rfl, lt_sz (by omega), fun v hv => ?_, fun hv => ?_⟩
  · obtain ⟨kvs', q1, q2, q3⟩ := g3.get
    rw [gd3] at q1; cases q1
    rcases q3 key with ⟨q, _⟩ | ⟨l, vs, q, nl, gl, dl⟩
    · rw [hv] at q; cases q
    · rw [hv] at q; cases q
      have lvs : vs.length ≤ es.length := (grp_bound g3 gd3).2 key l vs hv gl
      refine ⟨.inl ⟨rfl, _, sqOf gl⟩, _, hit H3 g3.same ⟨_, gd3⟩, ?_⟩
      rintro w H4 ⟨dd, s4, hx, fin⟩
      exact ⟨l, vs, _, rfl, rfl, s4 _ _ gl, lt_sz (by omega), fin _ (grp_more (g3.up s4) (s4 _ _ gd3) hv (s4 _ _ gl) hx)⟩
  · have zd : z ≠ d := fun e => by rw [e, gd2] at nz; cases nz
    have gz' : upd H3 d (.dK (putK kvs key (.ref z))) z = some (.lst []) := by rw [upd_ne zd]; exact gz
    have sB : Same Hb (upd H3 d (.dK (putK kvs key (.ref z)))) := fun b o h => by
      obtain ⟨_, _, _, nd, _⟩ := g2.ex
      rw [upd_ne (ne_of_none h nd)]; exact g3.same b o h
    refine ⟨.inl ⟨rfl, _, sqOf gz'⟩, _, hit _ sB ⟨_, upd_same⟩, ?_⟩
    rintro w H4 ⟨dd, s4, hx, fin⟩
    exact ⟨z, [], _, rfl, rfl, s4 _ _ gz', lt_sz (by show 0 ≤ _; omega), fin _ (grp_new g2 gd2 hv nz s3 gz s4 hx)⟩
end
end EL
/-! dict comprehensions: read by a walk; stored in a name. -/
namespace EL
open PySem PySem.Spec PyProof.Rows L2
section
variable {J : It} {n : Nat} {G : Hp → Prop} {Y : Nat → Hp → V → Hp → Prop}
theorem dc_it (wk : Walk J n G Y) {g : TG} {tt : TT} {tk tv : TE} {vs : List Nat} {σ : L2.St} {H1 : Hp} {D : Addr} {Qd : Hp → Prop} (P : Nat → Hp → Prop) (p0 : P 0 (upd H1 D (.dK []))) (pG : ∀ i H, i ≤ n → P i H → G H)
    (turn : ∀ i x H H', i < n → P i H → Y i H x H' → g x (wipe σ vs) H' fun σ2 H2 => wipe σ2 vs = wipe σ vs ∧ tt σ2 H2 fun b H3 =>
      if b = true then tk σ2 H3 fun y H4 => tv σ2 H4 fun z H5 => ∃ kvs k, y = kV k ∧ H5 D = some (.dK kvs) ∧ kvs.length < sizeLine ∧ P (i + 1) (upd H5 D (.dK (putK kvs k z))) else P (i + 1) H3) (fin : ∀ H, P n H → Qd H) :
    ∃ W : Nat → Nat → Hp → Prop, (∃ m, W 0 m (upd H1 D (.dK []))) ∧ ∀ i m H, W i m H →
      (J.stop i H ∧ Qd H) ∨ (J.go i H ∧ ∃ Nx : Hp → Prop, (∀ H', Nx H' → ∃ m', m' < m ∧ W (i + 1) m' H') ∧ ∀ x H', J.yld i H x H' → g x (wipe σ vs) H' fun σ2 H2 => wipe σ2 vs = wipe σ vs ∧ tt σ2 H2 fun b H3 =>
        if b = true then tk σ2 H3 fun y H4 => tv σ2 H4 fun z H5 => ∃ kvs k, y = kV k ∧ H5 D = some (.dK kvs) ∧ kvs.length < sizeLine ∧ Nx (upd H5 D (.dK (putK kvs k z))) else Nx H3) := by
  refine ⟨fun i m H => m + i = n ∧ P i H, ⟨n, rfl, p0⟩, fun i m H => ?_⟩
  rintro ⟨e, p⟩
  rcases Nat.lt_or_ge i n with lt | ge
  · exact .inr ⟨wk.goes i H lt (pG i H (Nat.le_of_lt lt) p), P (i + 1), fun _ p' => ⟨m - 1, by omega, by omega, p'⟩, fun x _ y => turn i x H _ lt p (wk.yields i H x _ lt (pG i H (Nat.le_of_lt lt) p) y)⟩
  · obtain rfl : i = n := by omega
    exact .inl ⟨wk.stops H (pG i H (Nat.le_refl _) p), fin H p⟩
end
section
variable {X : Cx}
/-- y = {k: v for ..}: stored before the block is let go -/
theorem ps_setDc {i : Nat} {y : Str} {py spos : Pos} {kx vx tg iter : Expr} {ifs : List Expr} {scope : Scope} {own : List (Str × Nat)} {pos : Pos} {wi : TI} {g : TG} {tt : TT} {tk tv : TE} (hc : X.calm = true) (hN : X.N.Nodup) (hy : X.N[i]? = some y) (hyl : X.env.scope.names.lookup y = some .local)
    (hsw : swapsWith (.DictComp kx vx [⟨tg, iter, ifs, 0⟩] scope pos) (some (.Name y py)) spos.line X.env = pure true) (hi : PI X tg iter wi) (ok : BlkOk X.N X.env.scope scope own)
    (hg : ∀ (s : Shared) (H : Hp) (C : Addr) (cl : List (Str × Addr)) (fp : List Addr), PG (X.blk s H scope (compEnvC scope cl C X.env) fp) tg g) (ht : ∀ (s : Shared) (H : Hp) (C : Addr) (cl : List (Str × Addr)) (fp : List Addr), PTs (X.blk s H scope (compEnvC scope cl C X.env) fp) ifs tt)
    (hk : ∀ (s : Shared) (H : Hp) (C : Addr) (cl : List (Str × Addr)) (fp : List Addr), PE (X.blk s H scope (compEnvC scope cl C X.env) fp) kx tk) (he : ∀ (s : Shared) (H : Hp) (C : Addr) (cl : List (Str × Addr)) (fp : List Addr), PE (X.blk s H scope (compEnvC scope cl C X.env) fp) vx tv)
    (hs : ∀ x, foldedSetIterable iter X.env x = pure x := by intro _; rfl) :
    PS X (.Assign [.Name y py] (.DictComp kx vx [⟨tg, iter, ifs, 0⟩] scope pos) spos) (tAsg (tDc wi g tt tk tv (own.map (·.2))) (gName i)) := by
  refine ⟨fun pins s σ H D I q0 => ?_⟩
  have q : tDc wi g tt tk tv (own.map (·.2)) σ H (fun v H1 => gName i v σ H1 D.nx) := q0
  rw [exec_Assign_Name_used _ _ _ _ hsw]
  refine wpAny_bind (wpAny_standAt (wpAny_bind (wpAny_bind ?_)))
  refine wpAny_mono (dc_core (use := some (assign (.Name y py) X.env)) (Qf := fun _ s' => SP X pins D .next s') hc hN I hi ok hg ht hk he hs q fun L C s' m H' J1 q1 hn f => ?_) (fun _ s' hq => wpAny_pure (wpAny_pure hq)) fun _ _ z => z
  show wpAny _ _ (assign (.Name y py) X.env (.ref L)) _ _ _
  refine wpAny_assign_Name (store_ok2 (v := V.ref L) J1 hN hy (.inl hyl) rfl (fun s2 J2 hst => ?_) (.inr hyl))
  obtain ⟨a, sb, ha⟩ := hst
  obtain ⟨f0, f1, f2, f3, f4, f5⟩ := f
  have far : C ≠ a := ha.elim (fun z => z ▸ f1) fun z e => f4 y a z e.symm
  exact ⟨m, hn.sameBut sb far, fun h3 sb3 => ⟨_, _, J2.turned (t' := s2.toks) (fun b o hb e => (sb3.2 b hb).trans e) f0 f1 f3 f4 f5, q1⟩⟩
end
end EL
namespace EL
open PySem PySem.Spec PyProof.Rows L2
/-- an expression's dict, list, ..: from here on it is walked and nothing else -/
def tLockA (te : TE) : TE := fun σ H Q => te σ H fun x H1 => ∃ d u, x = .ref d ∧ H1 d = some u ∧ Mut (some u) ∧ ∀ od, Q x (upd H1 d (.frz od u))
theorem pe_lockA {X : Cx} {e : Expr} {te : TE} (h : PE X e te) : PE X e (tLockA te) := by
  refine ⟨fun pins s σ H Q I hw => thn (h.run pins s σ H _ I hw) fun v s1 z => ?_⟩
  obtain ⟨x, H1, I1, r, d, u, ex, hd, mu, q⟩ := z
  obtain ⟨od, I2⟩ := I1.lock hd mu
  exact ⟨x, _, I2, r, q od⟩
end EL
namespace EL
open PySem PySem.Spec PyProof.Rows L2
theorem swd_true {kx vx : Expr} {gs : List Comprehension} {scope : Scope} {pos py : Pos} {y : Str} {l : Nat} {env : Env} (hk : env.scope.kind = .function) (hy : env.scope.names.lookup y = some .local) (hl : (py.line == pos.line) = true)
    (ha : (scope.names.any fun (n, k) => n == y && (k == .local || k == .cell)) = false) : swapsWith (.DictComp kx vx gs scope pos) (some (.Name y py)) l env = pure true := by
  have q1 : env.kindOf y = some .local := hy
  have q2 : env.blockKind = .function := by
    unfold Env.blockKind
    rw [hk]; rfl
  unfold swapsWith
  simp only [q2, q1, ha, Expr.pos, hl]; rfl
end EL
/-! Numbers that lead to numbers: what is reached, by mathematics; a dict of lists of numbers. -/
namespace EL
open PySem PySem.Spec PyProof.Rows L2
abbrev Edges := List (Nat × Nat)
inductive GR (es : Edges) (ss : List Nat) : Nat → Prop
  | base {s : Nat} : s ∈ ss → GR es ss s
  | step {p q : Nat} : GR es ss p → (p, q) ∈ es → GR es ss q
def outs (es : Edges) (s : Nat) : List Nat := (es.filter fun e => decide (e.1 = s)).map (·.2)
theorem mem_outs {es : Edges} {s t : Nat} : t ∈ outs es s ↔ (s, t) ∈ es := by
  unfold outs
  simp only [List.mem_map, List.mem_filter, decide_eq_true_eq]
  constructor
  · rintro ⟨⟨a, b⟩, ⟨h, rfl⟩, rfl⟩; exact h
  · intro h; exact ⟨(s, t), ⟨h, rfl⟩, rfl⟩
theorem outs_len (es : Edges) (s : Nat) : (outs es s).length ≤ es.length := by
  unfold outs
  rw [List.length_map]
  exact List.length_filter_le _ _
theorem GR.mono {es fs : Edges} {ss : List Nat} {p : Nat} (w : ∀ e ∈ es, e ∈ fs) (h : GR es ss p) : GR fs ss p := by
  induction h with
  | base m => exact .base m
  | step _ e ih => exact .step ih (w _ e)
/-- going: what was met, and what of it waits -/
structure Goes (es : Edges) (ss : List Nat) (M W : List Nat) : Prop where
  nd : M.Nodup
  re : ∀ p ∈ M, GR es ss p
  st : ∀ s ∈ ss, s ∈ M
  su : ∀ p ∈ W, p ∈ M
  cl : ∀ p ∈ M, p ∉ W → ∀ q, (p, q) ∈ es → q ∈ M
theorem Goes.done {es : Edges} {ss M : List Nat} (g : Goes es ss M []) (p : Nat) : p ∈ M ↔ GR es ss p := by
  refine ⟨g.re p, fun h => ?_⟩
  induction h with
  | base m => exact g.st _ m
  | step _ e ih => exact g.cl _ ih (List.not_mem_nil) _ e
theorem gr_lt {es : Edges} {ss : List Nat} {n p : Nat} (hs : ∀ s ∈ ss, s < n) (he : ∀ e ∈ es, e.2 < n) (h : GR es ss p) : p < n := by
  cases h with
  | base m => exact hs _ m
  | step _ e => exact he _ e
theorem nodup_len : ∀ (n : Nat) (l : List Nat), l.Nodup → (∀ x ∈ l, x < n) → l.length ≤ n
  | 0, l, _, h => by
    cases l with
    | nil => exact Nat.le_refl _
    | cons a r => exact absurd (h a List.mem_cons_self) (Nat.not_lt_zero _)
  | n + 1, l, d, h => by
    by_cases m : n ∈ l
    · have e := List.length_erase_of_mem m
      have ih := nodup_len n (l.erase n) (d.erase n) fun x hx => by
        have h1 := h x (List.mem_of_mem_erase hx)
        have h2 : x ≠ n := fun e => by subst e; exact (List.Nodup.not_mem_erase d) hx
        omega
      have : 0 < l.length := List.length_pos_of_mem m
      omega
    · have ih := nodup_len n l d fun x hx => by
        have h1 := h x hx
        have h2 : x ≠ n := fun e => m (e ▸ hx)
        omega
      omega
/-- a dict of lists: what follows each number -/
structure Fol (K : PySem.W.Frag) (H : Hp) (d : Addr) (es : Edges) : Prop where
  ex : ∃ (kvs : List (L2.Key × V)) (ks : List Nat), H d = some (.dK kvs) ∧ kvs.map (·.1) = ks.map (fun n : Nat => (Sum.inl (n : Int) : L2.Key)) ∧ (∀ s, s ∈ ks ↔ outs es s ≠ []) ∧ ks.length ≤ es.length ∧
    ∀ s : Nat, (valV kvs (.inl (s : Int)) = none ∧ outs es s = []) ∨ ∃ l, valV kvs (.inl (s : Int)) = some (.ref l) ∧ H l = some (.lst ((outs es s).map fun n : Nat => V.int (n : Int)))
theorem Fol.up {K : PySem.W.Frag} {H H' : Hp} {d : Addr} {es : Edges} (f : Fol K H d es) (s : Same H H') : Fol K H' d es := by
  obtain ⟨kvs, ks, h1, h2, h3, h4, h5⟩ := f.ex
  exact ⟨kvs, ks, s _ _ h1, h2, h3, h4, fun t => (h5 t).imp id fun ⟨l, q1, q2⟩ => ⟨l, q1, s _ _ q2⟩⟩
abbrev edgeD (e : Nat × Nat) : L2.Key × PyData := (.inl (e.1 : Int), .int (e.2 : Int))
theorem ofK_edges (es : Edges) (s : Nat) : ofK (es.map edgeD) (.inl (s : Int)) = (outs es s).map fun n : Nat => PyData.int (n : Int) := by
  induction es with
  | nil => rfl
  | cons e r ih =>
    unfold ofK outs at ih ⊢
    by_cases h : e.1 = s
    · have hk : (edgeD e).1 = (Sum.inl (s : Int) : L2.Key) := by rw [h.symm]
      rw [List.map_cons, List.filter_cons, if_pos (by simpa using hk), List.filter_cons, if_pos (by simpa using h), List.map_cons, List.map_cons, List.map_cons, ih]
    · have hk : ¬ (edgeD e).1 = (Sum.inl (s : Int) : L2.Key) := fun q => h (by
        have := Sum.inl.inj q
        omega)
      rw [List.map_cons, List.filter_cons, if_neg (by simpa using hk), List.filter_cons, if_neg (by simpa using h), ih]
theorem dqAll_nums {K : PySem.W.Frag} {H : Hp} : ∀ {ns : List Nat} {vs : List V}, DqAll K H vs (ns.map fun n : Nat => PyData.int (n : Int)) → vs = ns.map fun n : Nat => V.int (n : Int)
  | [], _, h => by cases h; rfl
  | n :: r, _, h => by
    cases h with
    | cons h1 h2 => cases h1; rw [dqAll_nums h2]; rfl
theorem keys_nums : ∀ es : Edges, ∃ ks : List Nat, keysOf (es.map edgeD) = ks.map (fun n : Nat => (Sum.inl (n : Int) : L2.Key)) ∧ (∀ s, s ∈ ks ↔ outs es s ≠ []) ∧ ks.length ≤ es.length := by
  intro es
  have key : ∀ l : List L2.Key, (∀ k ∈ l, ∃ n : Nat, k = .inl (n : Int)) → ∃ ks : List Nat, l = ks.map (fun n : Nat => (Sum.inl (n : Int) : L2.Key)) := by
    intro l
    induction l with
    | nil => exact fun _ => ⟨[], rfl⟩
    | cons k r ih =>
      intro h
      obtain ⟨n, rfl⟩ := h k List.mem_cons_self
      obtain ⟨ks, e⟩ := ih fun j hj => h j (List.mem_cons_of_mem _ hj)
      exact ⟨n :: ks, by rw [e]; rfl⟩
  obtain ⟨ks, e⟩ := key (keysOf (es.map edgeD)) fun k hk => by
    obtain ⟨d, hd⟩ := mem_keysOf.mp hk
    obtain ⟨x, _, ex⟩ := List.mem_map.mp hd
    exact ⟨x.1, (congrArg Prod.fst ex).symm⟩
  refine ⟨ks, e, fun s => ?_, ?_⟩
  · have m1 : s ∈ ks ↔ (Sum.inl (s : Int) : L2.Key) ∈ keysOf (es.map edgeD) := by
      rw [e, List.mem_map]
      constructor
      · intro h; exact ⟨s, h, rfl⟩
      · rintro ⟨n, hn, q⟩
        have := Sum.inl.inj q
        have : n = s := by omega
        exact this ▸ hn
    rw [m1]
    constructor
    · intro h
      obtain ⟨d, hd⟩ := mem_keysOf.mp h
      obtain ⟨x, hx, ex⟩ := List.mem_map.mp hd
      have : x.1 = s := by
        have := Sum.inl.inj (congrArg Prod.fst ex)
        omega
      intro z
      have : x.2 ∈ outs es s := mem_outs.mpr (by rw [← this]; exact hx)
      rw [z] at this
      exact List.not_mem_nil this
    · intro h
      obtain ⟨t, ht⟩ := List.exists_mem_of_ne_nil _ h
      exact mem_keysOf.mpr ⟨_, List.mem_map.mpr ⟨(s, t), mem_outs.mp ht, rfl⟩⟩
  · have := keysOf_len (es.map edgeD)
    rw [e, List.length_map, List.length_map] at this
    exact this
theorem Grp.fol {K : PySem.W.Frag} {Hb H : Hp} {d : Addr} {es : Edges} (g : Grp K Hb H d (es.map edgeD)) : Fol K H d es := by
  obtain ⟨kvs, h1, h2, h3⟩ := g.get
  obtain ⟨ks, k1, k2, k3⟩ := keys_nums es
  refine ⟨kvs, ks, h1, h2.trans k1, k2, k3, fun s => ?_⟩
  rcases h3 (.inl (s : Int)) with ⟨q1, q2⟩ | ⟨l, vs, q1, _, q3, q4⟩
  · rw [ofK_edges] at q2
    exact .inl ⟨q1, List.map_eq_nil_iff.mp q2⟩
  · rw [ofK_edges] at q4
    rw [dqAll_nums q4] at q3
    exact .inr ⟨l, q1, q3⟩
/-- a dict of numbers, each with True -/
abbrev oneD (M : List Nat) : List (L2.Key × V) := M.map fun n : Nat => ((.inl (n : Int) : L2.Key), V.bl true)
theorem oneD_get {M : List Nat} {s : Nat} : valV (oneD M) (.inl (s : Int)) = if s ∈ M then some (.bl true) else none := by
  induction M with
  | nil => simp [valV_nil]
  | cons n r ih =>
    by_cases h : n = s
    · subst h; simp [valV]
    · have hk : ¬ (Sum.inl (n : Int) : L2.Key) = .inl (s : Int) := fun q => h (by have := Sum.inl.inj q; omega)
      have hs : ¬ s = n := fun e => h e.symm
      have h2 : valV (oneD (n :: r)) (.inl (s : Int)) = valV (oneD r) (.inl (s : Int)) := by
        simp only [List.map_cons, valV, List.find?_cons]
        rw [decide_eq_false hk]
      rw [h2, ih]
      simp [hs]
theorem oneD_put {M : List Nat} {s : Nat} (h : s ∉ M) : putK (oneD M) (.inl (s : Int)) (.bl true) = oneD (M ++ [s]) := by
  rw [putK_new _ (by rw [oneD_get, if_neg h])]
  show _ = List.map _ (M ++ [s])
  rw [List.map_append]; rfl
theorem oneD_put' {M : List Nat} {s : Nat} (h : s ∈ M) : putK (oneD M) (.inl (s : Int)) (.bl true) = oneD M := by
  unfold putK
  have ha : ((oneD M).any fun kv => decide (kv.1 = (Sum.inl (s : Int) : L2.Key))) = true := by
    rw [List.any_eq_true]
    exact ⟨(.inl (s : Int), .bl true), List.mem_map.mpr ⟨s, h, rfl⟩, decide_eq_true rfl⟩
  rw [if_pos ha, List.map_map]
  refine List.map_congr_left fun n _ => ?_
  show (if (Sum.inl (n : Int) : L2.Key) = .inl (s : Int) then _ else _) = _
  split <;> rfl
end EL
namespace EL
open PySem PySem.Spec PyProof.Rows L2
/-- o.f where K is named (in a comprehension) -/
theorem pe_fldK {X : Cx} {K : PySem.W.Frag} {e : Expr} {ta : TE} {f : Str} {pos : Pos} (he : PE X e ta) (hb : attributeBase e f X.env (eval e X.env) = eval e X.env) (hK : X.K = K := by rfl) : PE X (.Attribute e f pos) (tFld K ta f) := by
  subst hK
  exact pe_fld he hb
theorem kdK {X : Cx} {K : PySem.W.Frag} {e : Expr} {d : PyData} (h : PE X e (tK X.K d)) (hK : X.K = K := by rfl) : PE X e (tK K d) := by
  subst hK
  exact h
end EL
namespace EL
open PySem PySem.Spec PyProof.Rows L2
def kwM1 {α : Type} : List α → List α → List α
  | [s], [z] => [s, z]
  | _, _ => []
theorem kwM1_rel {vs : List V} {us : List Value} {zs : List V} {ws : List Value} (h1 : Vals vs us) (h2 : Vals zs ws) : Vals (kwM1 vs zs) (kwM1 us ws) := by
  cases h1 with
  | nil => exact .nil
  | cons r0 rr0 =>
    cases rr0 with
    | cons _ _ => exact .nil
    | nil =>
    cases h2 with
    | nil => exact .nil
    | cons r rr =>
      cases rr with
      | nil => exact .cons r0 (.cons r .nil)
      | cons _ _ => exact .nil
theorem Fun.kwM1 {K : PySem.W.Frag} {x qual : Str} {st : Stmt} {f : Addr} {fd : FuncData} {r p : Str} (F : Fun K x qual st f fd)
    (h : ∀ (kV doc pm : Value) (an : Option Addr) (cdv ct : Value) (t u : Value), bindArgs (PySem.W.fnOf x qual (defArgs st) (defBody st) (defScope st) .none kV doc pm an cdv ct) ⟨[t], [(p, u)]⟩ = pure [(r, t), (p, u)]) : KBinds K fd [r, p] [p] EL.kwM1 EL.kwM1 := by
  obtain ⟨oc, od, kV, doc, pm, an, cdv, ct, osl, rfl, lk, hcd⟩ := F.ex
  refine ⟨fun s us ws _ hl => ?_, kwM1_rel⟩
  match us, ws, hl with
  | [t], [u], _ => exact .of_eq (h kV doc pm an cdv ct t u)
  | [], _, hl => exact absurd hl (by simp [EL.kwM1])
  | [_], [], hl => exact absurd hl (by simp [EL.kwM1])
  | [_], _ :: _ :: _, hl => exact absurd hl (by simp [EL.kwM1])
  | _ :: _ :: _, _, hl => exact absurd hl (by simp [EL.kwM1])
end EL
/-! Data of tuples alone stands as long as tuples stand; lists of such data that grow. -/
namespace EL
open PySem PySem.Spec PyProof.Rows L2
/-- tuples stand -/
def KpT (H H' : Hp) : Prop := ∀ b xs, (H b = some (.tup xs) → H' b = some (.tup xs)) ∧ ∀ o, H b = some (.frz o (.tup xs)) → H' b = some (.frz o (.tup xs))
theorem KpT.of {H H' : Hp} (s : Same H H') : KpT H H' := fun b xs => ⟨fun h => s _ _ h, fun o h => s _ _ h⟩
theorem KpT.trans {H H1 H2 : Hp} (x : KpT H H1) (y : KpT H1 H2) : KpT H H2 := fun b xs => ⟨fun h => (y b xs).1 ((x b xs).1 h), fun o h => (y b xs).2 o ((x b xs).2 o h)⟩
theorem KpT.lst {H : Hp} {p : Addr} {vs : List V} {o : HO} (h : H p = some (.lst vs)) : KpT H (upd H p o) := fun b xs => ⟨fun e => by rw [upd_ne (fun q => by rw [q, h] at e; cases e)]; exact e, fun o e => by rw [upd_ne (fun q => by rw [q, h] at e; cases e)]; exact e⟩
theorem KpT.dT {H : Hp} {p : Addr} {vs : List (List L2.Key × V)} {o : HO} (h : H p = some (.dT vs)) : KpT H (upd H p o) := fun b xs => ⟨fun e => by rw [upd_ne (fun q => by rw [q, h] at e; cases e)]; exact e, fun o e => by rw [upd_ne (fun q => by rw [q, h] at e; cases e)]; exact e⟩
theorem KpT.dK {H : Hp} {p : Addr} {vs : List (L2.Key × V)} {o : HO} (h : H p = some (.dK vs)) : KpT H (upd H p o) := fun b xs => ⟨fun e => by rw [upd_ne (fun q => by rw [q, h] at e; cases e)]; exact e, fun o e => by rw [upd_ne (fun q => by rw [q, h] at e; cases e)]; exact e⟩
theorem KpT.wo {H : Hp} {p : Addr} {vs : List V} (h : H p = some (.lst vs)) : KpT H (wo p H) := fun b xs => ⟨fun e => by rw [wo_ne (fun q => by rw [q, h] at e; cases e)]; exact e, fun o e => by rw [wo_ne (fun q => by rw [q, h] at e; cases e)]; exact e⟩
theorem sqT_kpt {K : PySem.W.Frag} {H H' : Hp} {b : Addr} {xs : List V} (k : KpT H H') (h : SqT K H b xs) : SqT K H' b xs := by
  rcases h with (h | ⟨o, h⟩) | h
  · exact .inl (.inl ((k b xs).1 h))
  · exact .inl (.inr ⟨o, (k b xs).2 o h⟩)
  · exact .inr h
mutual
theorem dq_kpt {K : PySem.W.Frag} {H H' : Hp} (k : KpT H H') : ∀ (d : PyData) (v : V), Dq K H v d → noLD d = true → Dq K H' v d
  | .none, _, h, _ => by cases h; exact .non
  | .bool b, _, h, _ => by cases h; exact .bl b
  | .int i, _, h, _ => by cases h; exact .int i
  | .str x, _, h, _ => by cases h; exact .str x
  | .list ds, _, h, n => by simp [noLD] at n
  | .tuple ds, _, h, n => by
    cases h with
    | tup hs ha => exact .tup (sqT_kpt k hs) (dqAll_kpt k ds _ ha (by simpa [noLD] using n))
  | .dict _, _, h, n => by simp [noLD] at n
theorem dqAll_kpt {K : PySem.W.Frag} {H H' : Hp} (k : KpT H H') : ∀ (ds : List PyData) (vs : List V), DqAll K H vs ds → noLDs ds = true → DqAll K H' vs ds
  | [], _, h, _ => by cases h; exact .nil
  | d :: ds, _, h, n => by
    cases h with
    | cons h1 h2 =>
      obtain ⟨n1, n2⟩ : noLD d = true ∧ noLDs ds = true := by simpa [noLDs] using n
      exact .cons (dq_kpt k d _ h1 n1) (dqAll_kpt k ds _ h2 n2)
end
theorem noLDs_map {α : Type} {f : α → PyData} (h : ∀ a, noLD (f a) = true) : ∀ l : List α, noLDs (l.map f) = true
  | [] => rfl
  | a :: r => by simp only [List.map_cons, noLDs, h a, noLDs_map h r, Bool.and_self]
theorem noLDs_nats (ns : List Nat) : noLDs (ns.map fun n : Nat => PyData.int (n : Int)) = true := noLDs_map (fun _ => rfl) ns
end EL
/-! own binary operators: x + y, x | y of two instances of one class, the answer an object. -/
namespace EL
open PySem PySem.Spec PyProof.Rows L2
section
variable {X : Cx} {k : Nat} {C f : Addr} {fd : FuncData} {ps : List Str} {sp : Sp} {E : XK}
def rOwnB (C : Addr) (sp : Sp) (E : XK) : R2 := fun x y H Q => ∃ a b dx dy fs gs, x = .ref a ∧ y = .ref b ∧ H a = some (.ins C dx fs) ∧ H b = some (.ins C dy gs) ∧ sp [.ref a, .ref b] H (fun v H' => ∃ r : Addr, v = .ref r ∧ Q (.ref r) H') E
theorem run_ownB {A : Around} {pins : List (Addr × Obj)} {s : Shared} {σ : L2.St} {H : Hp} {a b : Addr} {Q : VK} (hA : A.frames = X.A.frames) (hr : Room k A) (F : FnOk X.prog X.w X.K X.mg X.base CX0 k f fd ps sp) (hb : Binds X.K fd ps []) (hx : Passes CX0 X E) (I : Inv X pins σ H s)
    (hsp : sp [.ref a, .ref b] H (fun v H' => ∃ r : Addr, v = .ref r ∧ Q (.ref r) H') E) :
    wpAny (model X.prog X.w) A (call (.ref f) [.ref a, .ref b]) (PySem.W.CmpBack (EP X pins σ Q)) X.xe s := by
  have e0 : Env0 X.prog X.w X.K X.mg X.base A X.stack s H := by
    have e := I.env0
    exact ⟨by rw [hA]; exact e.frames, e.mod, e.bs, e.bsz, e.funs, e.frf, e.hok, e.bare⟩
  have hl := F.len _ _ _ _ hsp
  have r2 : Vals [V.ref a, V.ref b] [Value.ref a, Value.ref b] := .cons rfl (.cons rfl .nil)
  refine wpAny_call (codeAny_mono (F.run A X.stack s H ⟨[.ref a, .ref b], []⟩ [.ref a, .ref b] [.ref a, .ref b] _ E hr e0 (by
    have := hb s [.ref a, .ref b] I.kIn (by simpa using hl)
    simpa using this) r2 hsp) fun r s' hq => ?_)
  cases r with
  | error e => exact hx pins σ H s e s' I hq
  | ok fl =>
    cases fl with
    | ret w =>
      obtain ⟨z, H', I', rz, r, ez, q⟩ := I.after hq
      subst ez
      cases rz
      exact ⟨.ref r, H', I', rfl, q⟩
    | next => exact False.elim hq
    | brk => exact False.elim hq
    | cont => exact False.elim hq
/-- what an operator wants to know of the class -/
structure BinOwn (K : PySem.W.Frag) (C f : Addr) (op : Operator) : Prop where
  sf : PySem.W.selfFirst K C = true
  at_ : PySem.W.findIn K (.ref C) (PySem.dunder op.info.snd) = some (some (.ref f))
  fn : PySem.W.isFn K (.ref f) = true
theorem op_ownB {op : Operator} (F : FnOk X.prog X.w X.K X.mg X.base CX0 k f fd ps sp) (hr : Room k X.A) (N : BinOwn X.K C f op) (hb : Binds X.K fd ps []) (hx : Passes CX0 X E) :
    OpR X (binaryOp op) (rOwnB C sp E) := by
  intro pins s σ H x y v u Q I rx ry hq
  obtain ⟨a, b, dx, dy, fs, gs, rfl, rfl, ha, hb', hsp⟩ := hq
  cases rx
  cases ry
  obtain ⟨mA, J, _⟩ := ins_get I.hok ha
  obtain ⟨mB, J', _⟩ := ins_get I.hok hb'
  obtain ⟨od, J, _⟩ := J.look
  obtain ⟨od', J', _⟩ := J'.look
  obtain ⟨m, hF⟩ := I.fr
  exact PySem.W.binop_K (op := op) hF I.ok.mod.kin J J'.type N.sf N.at_ N.fn (run_ownB rfl hr F hb hx I hsp)
end
end EL
/-! [e for a in xs for b in ys]: both walks by what holds between turns. -/
namespace EL
open PySem PySem.Spec PyProof.Rows L2
#print L2.Walk
theorem it_gen {J : It} {n : Nat} {G : Hp → Prop} {Y : Nat → Hp → V → Hp → Prop} (w : Walk J n G Y) {H0 : Hp} {Qd : Hp → Prop} {B : V → Hp → (Hp → Prop) → Prop} (Pv : Nat → Hp → Prop) (h0 : Pv 0 H0) (hG : ∀ i H, i ≤ n → Pv i H → G H)
    (hs : ∀ i x H H', i < n → Pv i H → Y i H x H' → B x H' (Pv (i + 1))) (hd : ∀ H, Pv n H → Qd H) :
    ∃ W : Nat → Nat → Hp → Prop, (∃ m, W 0 m H0) ∧ ∀ i m H, W i m H → (J.stop i H ∧ Qd H) ∨ (J.go i H ∧ ∃ Nx : Hp → Prop, (∀ H', Nx H' → ∃ m', m' < m ∧ W (i + 1) m' H') ∧ ∀ x H', J.yld i H x H' → B x H' Nx) := by
  refine ⟨fun i m H => i ≤ n ∧ m = n - i ∧ Pv i H, ⟨n, Nat.zero_le _, rfl, h0⟩, fun i m H ⟨hi, hm, hp⟩ => ?_⟩
  by_cases e : i = n
  · subst e; exact .inl ⟨w.stops H (hG _ _ hi hp), hd H hp⟩
  · refine .inr ⟨w.goes i H (by omega) (hG _ _ hi hp), Pv (i + 1), fun H' h => ⟨n - (i + 1), by omega, by omega, rfl, h⟩, fun x H' y => hs i x H H' (by omega) hp (w.yields i H x H' (by omega) (hG _ _ hi hp) y)⟩
end EL
/-! f-strings by a name of their own, so that a comprehension's element may be one. -/
namespace EL
open PySem PySem.Spec PyProof.Rows L2
def tJd (ts : List TE) : TE := fun σ H Q => tJs ts Str.empty σ H fun out H1 => Q (V.str out) H1
theorem pe_joinedD {X : Cx} {v1 v2 : Expr} {rest : List Expr} {ts : List TE} {pos : Pos} (h : PJ X (v1 :: v2 :: rest) ts) : PE X (.JoinedStr (v1 :: v2 :: rest) pos) (tJd ts) := pe_joined h
end EL
/-! enumerate(tuple). -/
namespace EL
open PySem PySem.Spec PyProof.Rows L2
/-- the tuple at a, each item in a new pair with its number -/
def IteT (K : PySem.W.Frag) (a : Addr) : It :=
  ⟨fun i G => ∃ (ys : List V) (y : V), SqT K G a ys ∧ ys[i]? = some y,
   fun i G v G' => ∃ pr y, v = .ref pr ∧ G pr = none ∧ G' = upd G pr (.tup [.int (i : Nat), y]) ∧ ∀ ys, SqT K G a ys → ys[i]? = some y,
   fun i G => ∃ ys : List V, SqT K G a ys ∧ ys.length = i⟩
theorem tup_ne_iter {h : Heap} {a it : Addr} {i : Nat} {items : Array Value} (x : h.IsTupleIter it a i) (y : h.IsTuple a items) : a ≠ it := by
  obtain ⟨o, ho, _, hd⟩ := x
  obtain ⟨u, hu, _, _, hd'⟩ := y
  intro z
  rw [z, ho] at hu
  cases hu
  rw [hd] at hd'
  cases hd'
theorem turn_enumT {P : Program} {w : World} {K : PySem.W.Frag} {elts : List Expr} {kk : Nat} {tpos : Pos} (a en it : Addr) :
    Turn P w K (.Tuple elts kk tpos) (IteT K a) [en, it] en (fun i h => (∃ last, IsEnum h en it ((i : Nat) : Int) last) ∧ h.IsTupleIter it a i ∧ en ≠ it) where
  mem := by simp
  obj := fun i h sx b hb => by
    obtain ⟨⟨last, hE⟩, ⟨o, ho, hc, hd⟩, _⟩ := sx
    rcases (show b = en ∨ b = it by simpa using hb) with z | z
    · rw [z]; exact ⟨_, hE, fun v q => nomatch q⟩
    · rw [z]; exact ⟨o, ho, fun v q => by rw [hd] at q; cases q⟩
  keep := fun i h h' sx k => let ⟨⟨last, hE⟩, hI, hN⟩ := sx; ⟨⟨last, k en (by simp) _ hE⟩, hI.at fun o q => k it (by simp) o q, hN⟩
  item := by
    intro X hP hw hK hc i pins s σ H E I hf sx hg
    subst hP hw hK
    obtain ⟨⟨last, hE⟩, hI, hN⟩ := sx
    obtain ⟨ys, y, hq, hy⟩ := hg
    obtain ⟨its, rv, p, hz⟩ := I.tuple hq
    obtain ⟨u, hu, ru⟩ := rv.get hy
    have isT : s.heap.IsTuple a its.toArray := p
    have ltE : en < s.heap.objs.size := Heap.lt_size hE
    have ltI : it < s.heap.objs.size := by obtain ⟨_, q, _⟩ := hI; exact Heap.lt_size q
    have nai := tup_ne_iter hI isT
    have nea : en ≠ a := fun z => by
      obtain ⟨o, ho, _, _, hd⟩ := isT
      rw [← z, hE] at ho; cases ho; cases hd
    have ilt : i < its.toArray.size := by
      have := (List.getElem?_eq_some_iff.mp hu).1
      simpa using this
    refine wpAny_pyNext_enum_itemD (Draws.tuple (show X.A.in1.handled = none from I.ok.hd hc) it a nai its.toArray) hE ⟨hI, isT⟩ ilt hN (by simp [hN, nea]) fun x h1 tk hx out st1 tup1 sz1 kp => ?_
    have hx2 : x = u := by
      have : its.toArray[i]? = some x := hx
      rw [show its.toArray[i]? = some u by simpa using hu] at this
      exact (Option.some.inj this).symm
    subst hx2
    refine ⟨_, rfl, wpAny_letOwnedTupleGo_enum (s := { s with heap := h1, toks := tk + 1 }) out fun h2 hE2 same2 => ?_⟩
    have tup2 : h2.get? s.heap.objs.size = some { cls := .type "tuple", data := .seq #[.int i tk, x] } := (same2.2 _ (Nat.ne_of_gt ltE)).trans tup1
    have okN : ObjOk X.prog X.w (upd H s.heap.objs.size (.tup [.int (i : Nat), y])) h2 s.heap.objs.size (.tup [.int (i : Nat), y]) :=
      ⟨by show 2 ≤ sizeLine; decide, [.int i tk, x], .cons ⟨_, rfl⟩ (.cons ru .nil), ⟨_, tup2, rfl, _, rfl⟩⟩
    have I2 : Inv X pins σ (upd H s.heap.objs.size (.tup [.int (i : Nat), y])) { s with heap := h2, toks := tk + 1 } :=
      I.turnedNew (ch := [en, it]) (fun b ob hb q => (same2.2 b (fun z => hb (by simp [z]))).trans (kp b ob (fun z => hb (by simp [z])) (fun z => hb (by simp [z])) q)) hf (Nat.le_refl _) okN
    refine ⟨.ref s.heap.objs.size, _, I2, rfl, ⟨_, y, rfl, I.hok.fresh (Nat.le_refl _), rfl, fun zs hy2 => by rw [I.tuple_inj hy2 hq]; exact hy⟩, ⟨⟨x, ?_⟩, st1.1.at fun o q => (same2.2 it (Ne.symm hN)).trans q, hN⟩, fun b hb => ?_⟩
    · rw [show ((i + 1 : Nat) : Int) = (i : Int) + 1 by omega]; exact hE2
    · have : b < s.heap.objs.size := by
        rcases (show b = en ∨ b = it by simpa using hb) with z | z
        · rw [z]; exact ltE
        · rw [z]; exact ltI
      rw [upd_ne (Nat.ne_of_lt this)]
      exact (hf b hb).1
  done := by
    intro X hP hw hK hc i pins s σ H E I hf sx hg
    subst hP hw hK
    obtain ⟨⟨last, hE⟩, hI, hN⟩ := sx
    obtain ⟨ys, hq, hy⟩ := hg
    obtain ⟨its, rv, p, hz⟩ := I.tuple hq
    have isT : s.heap.IsTuple a its.toArray := p
    obtain ⟨f0, f1, f2, f3, f4, f5⟩ := hf it (by simp)
    have hl := rv.length
    have nai := tup_ne_iter hI isT
    have en0 : i = its.toArray.size := by
      have e1 : its.length = ys.length := hl.symm
      simp only [List.size_toArray]; omega
    subst en0
    exact wpAny_pyNext_enum_endD (Draws.tuple (show X.A.in1.handled = none from I.ok.hd hc) it a nai its.toArray) hE ⟨hI, isT⟩ fun h1 eb => ⟨rfl, I.turned (t' := s.toks) (fun b o hb q => eb b o hb q) f0 f1 f3 f4 f5⟩
  self := fun A i s Q E sx h => let ⟨⟨_, hE⟩, _⟩ := sx; wpAny_pyIter_enum hE h
theorem walk_enumT {K : PySem.W.Frag} {a : Addr} {ys : List V} : Walk (IteT K a) ys.length (fun G => SqT K G a ys) (YPair (fun i => some (.int (i : Nat))) (fun i => ys[i]?)) := by
  refine ⟨fun i G hi q => ⟨ys, ys[i], q, List.getElem?_eq_getElem hi⟩, fun _ q => ⟨ys, q, rfl⟩, fun i G v G' hi q x => ?_⟩
  obtain ⟨pr, y, h1, h2, h3, h4⟩ := x
  exact ⟨pr, .int (i : Nat), y, h1, h2, h3, rfl, h4 ys q⟩
theorem meets_enum_tup (a : Addr) (items : Array Value) (n : Nat) (dct : Option Addr) (sl : Array (Option Value)) :
    Meets (Builtin.«enumerate.__new__» ⟨[.type "enumerate", .ref a], []⟩) (fun _ R s => s.heap.get? a = some { cls := .type "tuple", dict := dct, data := .seq items n, slots := sl } ∧
      R (.ok (.ret (.ref (s.heap.push { cls := .type "tuple_iterator", data := .fields #[.ref a, .int 0 0] }).objs.size)))
        { s with heap := (s.heap.push { cls := .type "tuple_iterator", data := .fields #[.ref a, .int 0 0] }).push { cls := .type "enumerate", data := .fields #[.none, .bool false, .ref s.heap.objs.size, rawInt 0, .none, .none] } }) :=
  .of_wp fun prog w A R s h => by
    obtain ⟨hp, g, d, tk, os⟩ := s; obtain ⟨hl, h⟩ := h
    have sub1 := sub_enumerate
    have isT : Heap.IsTuple (Shared.heap ⟨hp, g, d, tk, os⟩) a items := ⟨_, hl, rfl, n, rfl⟩
    wp_walk using wpAny_loadPart' hl
    refine wpAny_stack_any fun st => wpAny_pure ?_
    split
    · rename_i c _ _ _ _ _
      cases (c == Value.type "enumerate")
      · (wp_walk using wpAny_loadPart' hl, wpAny_pyIter_tuple isT); exact ⟨_, rfl, h⟩
      · (wp_walk using wpAny_loadPart' hl, wpAny_pyIter_tuple isT); exact ⟨_, rfl, h⟩
    · (wp_walk using wpAny_loadPart' hl, wpAny_pyIter_tuple isT); exact ⟨_, rfl, h⟩
theorem call_enum_tup {prog : Program} {w : World} {A : Around} {E : Value → Shared → Prop} {s : Shared} {a : Addr} {items : Array Value} {Q : Value → Shared → Prop} (hT : s.heap.IsTuple a items)
    (h : ∀ h1, IsEnum h1 (s.heap.objs.size + 1) s.heap.objs.size 0 .none → h1.IsTupleIter s.heap.objs.size a 0 → (∀ b o, s.heap.get? b = some o → h1.get? b = some o) → Q (.ref (s.heap.objs.size + 1)) { s with heap := h1 }) :
    wpAny (model prog w) A (call (.type "enumerate") [.ref a]) Q E s := by
  obtain ⟨⟨c, dct, dt, sl⟩, hl, hc, n, hd⟩ := hT
  replace hc : c = .type "tuple" := hc
  replace hd : dt = .seq items n := hd
  subst hc hd
  refine callType_new F.called_enumerate (by decide) (F.typeCall_enumerate_1 _) (F.newCall_enumerate_1 _) (fun obj => F.args_object_init_2 obj _) F.entry_enumerate_new (meets_enum_tup a items n dct sl) ⟨hl, ?_⟩
  have sz : (s.heap.push { cls := .type "tuple_iterator", data := .fields #[.ref a, .int 0 0] }).objs.size = s.heap.objs.size + 1 := Heap.size_push ..
  show _ ∧ _
  rw [sz]
  have hE : IsEnum ((s.heap.push { cls := .type "tuple_iterator", data := .fields #[.ref a, .int 0 0] }).push { cls := .type "enumerate", data := .fields #[.none, .bool false, .ref s.heap.objs.size, rawInt 0, .none, .none] }) (s.heap.objs.size + 1) s.heap.objs.size 0 .none := by
    have := Heap.get?_push_size (s.heap.push { cls := .type "tuple_iterator", data := .fields #[.ref a, .int 0 0] }) (o := { cls := .type "enumerate", data := .fields #[.none, .bool false, .ref s.heap.objs.size, rawInt 0, .none, .none] }) rfl
    rw [sz] at this; exact this
  exact ⟨⟨_, hE, rfl⟩, h _ hE ⟨_, Heap.get?_push_of_some _ (Heap.get?_push_size _ rfl), rfl, rfl⟩ fun b o x => Heap.get?_push_of_some _ (Heap.get?_push_of_some _ x)⟩
def iEnumT (K : PySem.W.Frag) (ta : TA) : TI := fun σ H R => ta σ H fun vs H1 => ∃ a ys, vs = [.ref a] ∧ SqT K H1 a ys ∧ R (IteT K a) H1
theorem pi_enumT {X : Cx} {e : Expr} {ta : TA} {p pos tpos : Pos} {elts : List Expr} {kk : Nat} (hg : Gl X "enumerate") (hm : X.mg "enumerate" = none) (ha : PA X [e] ta) (hs : starEach [e] X.env = [(false, eval e X.env)] := by rfl) :
    PI X (.Tuple elts kk tpos) (.Call (.Name "enumerate" p) [e] [] pos) (iEnumT X.K ta) := by
  refine ⟨fun pins s σ H R I h => ?_⟩
  refine Call_ (ld_blt I hg hm boot_enumerate (PyProof.Rows.callWith_type1 (thn (ha.run pos pins s σ H _ I h) fun us s1 ⟨vs, G1, I1, r1, a, ys, ex, hq, q⟩ => ?_) hs rfl))
  subst ex
  cases r1 with
  | cons r rr =>
    cases rr
    cases r
    obtain ⟨its, rv, p', hz⟩ := I1.tuple hq
    refine call_enum_tup (show s1.heap.IsTuple a its.toArray from p') fun h1 hE hI kp => wpAny_pyIter_enum hE ?_
    have I2 : Inv X pins σ G1 { s1 with heap := h1 } := I1.kept (t' := s1.toks) kp
    refine ⟨s1.heap.objs.size + 1, [s1.heap.objs.size + 1, s1.heap.objs.size], _, _, G1, rfl, I2, turn_enumT a (s1.heap.objs.size + 1) s1.heap.objs.size, ⟨⟨.none, hE⟩, hI, Nat.succ_ne_self _⟩, fun b hb => ?_, q⟩
    have le1 : s1.heap.objs.size ≤ b := by
      rcases (show b = s1.heap.objs.size + 1 ∨ b = s1.heap.objs.size by simpa using hb) with z | z <;> rw [z] <;> omega
    exact I1.fpOk le1 (I1.hok.fresh le1)
end EL
/-! max(list of ints, default=int) -/
namespace EL
open PySem PySem.Spec PyProof.Rows L2
theorem foldMax_ok : ∀ (ys : List Int) (y : Int), let m := ys.foldl (fun a z => if PySem.W.DatumOrd.lt a z = true then z else a) y; (m = y ∨ m ∈ ys) ∧ y ≤ m ∧ ∀ z ∈ ys, z ≤ m
  | [], y => ⟨.inl rfl, Int.le_refl _, fun _ h => nomatch h⟩
  | z :: r, y => by
    have h := foldMax_ok r (if PySem.W.DatumOrd.lt y z = true then z else y)
    dsimp only at h ⊢
    rw [List.foldl_cons]
    have e : (PySem.W.DatumOrd.lt y z = true) = (y < z) := by show (decide (y < z) = true) = _; rw [decide_eq_true_eq]
    simp only [e] at h ⊢
    obtain ⟨h1, h2, h3⟩ := h
    by_cases q : y < z
    · rw [if_pos q] at h1 h2 h3 ⊢
      refine ⟨.inr ?_, by omega, fun x hx => ?_⟩
      · rcases h1 with h1 | h1
        · rw [h1]; exact List.mem_cons_self
        · exact List.mem_cons_of_mem _ h1
      · rcases List.mem_cons.mp hx with rfl | hx
        · exact h2
        · exact h3 x hx
    · rw [if_neg q] at h1 h2 h3 ⊢
      refine ⟨?_, h2, fun x hx => ?_⟩
      · rcases h1 with h1 | h1
        · exact .inl h1
        · exact .inr (List.mem_cons_of_mem _ h1)
      · rcases List.mem_cons.mp hx with rfl | hx
        · omega
        · exact h3 x hx
theorem holdAll_ints {h : Heap} : ∀ {vs : List Value} {ns : List Int}, IntsAre vs ns → PySem.W.HoldAll h vs ns
  | _, _, .nil => ⟨_, .nil⟩
  | _, _, .cons n t r => by
    obtain ⟨as, q⟩ := holdAll_ints r
    exact ⟨_, .cons (.int n t) q⟩
def rMaxDf (K : PySem.W.Frag) : List V → List V → Hp → VK → Prop := fun xs zs H Q => ∃ (a : Addr) (ns : List Int) (d : Int), xs = [V.ref a] ∧ zs = [V.int d] ∧ SqL K H a (ns.map V.int) ∧ ∀ m : Int, (ns = [] → m = d) → (ns ≠ [] → m ∈ ns ∧ ∀ y ∈ ns, y ≤ m) → Q (.int m) H
theorem call_maxDf {X : Cx} (hc : X.calm = true) (hu : X.A.units + 1 < cLine) : CallRK X (.builtin "max") ["default"] (rMaxDf X.K) := by
  intro pins s σ H xs zs us ws Q I r r2 h
  obtain ⟨a, ns, d, rfl, rfl, hs, q⟩ := h
  obtain ⟨its, rv, hl, _⟩ := I.list hs
  rw [Vals.ref1 r]
  obtain ⟨u, rfl, t, rfl⟩ := vals1 r2
  have hi := holdAll_ints (h := s.heap) rv.ints
  refine PySem.W.max_list_datum_default (α := Int) (xs := ns) (I.ok.hd hc) hl.isList hi (by show X.A.units + 1 + 0 < cLine; omega) (fun e h' tk k => ?_) fun y ys i v h' tk e hv hd k => ?_
  · exact ⟨.int d, H, I.kept k, ⟨_, rfl⟩, q d (fun _ => rfl) (fun n => absurd e n)⟩
  · subst e
    have z := foldMax_ok ys y
    obtain ⟨as, ra⟩ := hd
    have : ∃ t, v = .int (PySem.W.maxOf y ys) t := by
      cases ra; exact ⟨_, rfl⟩
    obtain ⟨t2, rfl⟩ := this
    refine ⟨.int _, H, I.kept k, ⟨_, rfl⟩, q _ (fun e => nomatch e) fun _ => ⟨?_, fun x hx => ?_⟩⟩
    · rcases z.1 with e | e
      · exact List.mem_cons.mpr (.inl e)
      · exact List.mem_cons_of_mem _ e
    · rcases List.mem_cons.mp hx with rfl | hx
      · exact z.2.1
      · exact z.2.2 x hx
end EL
/-! dict comprehensions whose keys are tuples. -/
namespace EL
open PySem PySem.Spec PyProof.Rows L2
theorem dictSetT {X : Cx} {pins : List (Addr × Obj)} {σ : L2.St} {H : Hp} {s : Shared} {E : Value → Shared → Prop} {dc b : Addr} {ts : List (List L2.Key × V)} {k : List L2.Key} {z : V} {r : Value} {Q : Unit → Shared → Prop} (hu : X.A.units < cLine) (J : Inv X pins σ H s) (at' : H dc = some (.dT ts)) (room : ts.length < sizeLine)
    (hb : H b = some (.tup (k.map kV))) (rz : RelV z r) (next : ∀ s', Inv X pins σ (L2.upd H dc (.dT (putK ts k z))) s' → Q () s') : wpAny (model X.prog X.w) X.A (dictSet dc (.ref b) r) Q E s := by
  obtain ⟨zz, hd, xs, rel, dd⟩ := dt_of J.hok at'
  have fit : xs.length ≤ sizeLine := by rw [← Paired.length rel]; exact zz
  have grow : (putK ts k z).length ≤ sizeLine := Nat.le_trans (length_putK ts k z) room
  refine wpAny_dictSet_heap (hsz := fit) hu (key_of J.hok hb) dd fun h4 dd' same => next _ ?_
  obtain ⟨q4, es, ep, hq, y2, y3, y4, _, y5⟩ := dd'
  refine d_write J (by rw [at']; exact True.intro) same ⟨q4, hq⟩ ⟨grow, hd, _, (rel.put k hb rz).keeps fun c ys ec => ?_, q4, es, ep, hq, y2, y3, y4, y5⟩
  rw [upd_ne (ne_of ec at' (fun z => nomatch z))]
  exact ec
def tDcU (wi : TI) (g : TG) (tt : TT) (tk tv : TE) (bs : List Nat) : TE := fun σ H Q => wi σ H fun J H1 => ∀ dc, H1 dc = none → ∃ Wk : Nat → Nat → Hp → Prop, (∃ m, Wk 0 m (L2.upd H1 dc (.dT []))) ∧
  ∀ i m H, Wk i m H → (J.stop i H ∧ Q (.ref dc) H) ∨ (J.go i H ∧ ∃ Go : Hp → Prop, (∀ H', Go H' → ∃ m', m' < m ∧ Wk (i + 1) m' H') ∧
    ∀ x H', J.yld i H x H' → g x (wipe σ bs) H' fun τ H2 => wipe τ bs = wipe σ bs ∧ tt τ H2 fun c H3 => if c = true then tk τ H3 fun y H4 => tv τ H4 fun z H5 =>
      ∃ ts k b, y = .ref b ∧ H5 b = some (.tup (k.map kV)) ∧ H5 dc = some (.dT ts) ∧ ts.length < sizeLine ∧ Go (L2.upd H5 dc (.dT (putK ts k z))) else Go H3)
section
variable {X : Cx} {kx vx tg src : Expr} {ifs : List Expr} {scope : Scope} {own : List (Str × Nat)} {wi : TI} {g : TG} {tt : TT} {tk tv : TE}
/-- what the block's parts must do, whatever the block's own table -/
structure BlkParts (X : Cx) (scope : Scope) (tg kx vx : Expr) (ifs : List Expr) (g : TG) (tt : TT) (tk tv : TE) : Prop where
  g : ∀ (s : Shared) (H : Hp) (C : Addr) (cl : List (Str × Addr)) (fp : List Addr), PG (X.blk s H scope (compEnvC scope cl C X.env) fp) tg g
  t : ∀ (s : Shared) (H : Hp) (C : Addr) (cl : List (Str × Addr)) (fp : List Addr), PTs (X.blk s H scope (compEnvC scope cl C X.env) fp) ifs tt
  k : ∀ (s : Shared) (H : Hp) (C : Addr) (cl : List (Str × Addr)) (fp : List Addr), PE (X.blk s H scope (compEnvC scope cl C X.env) fp) kx tk
  v : ∀ (s : Shared) (H : Hp) (C : Addr) (cl : List (Str × Addr)) (fp : List Addr), PE (X.blk s H scope (compEnvC scope cl C X.env) fp) vx tv
theorem dcU_core {pins : List (Addr × Obj)} {s : Shared} {σ : L2.St} {H : Hp} {Q : VK} {pos pos' : Pos} {use : Option (Value → Sem Unit)} {Qf : Value → Shared → Prop} (hu : X.A.units < cLine)
    (calm : X.calm = true) (nd : X.N.Nodup) (I : Inv X pins σ H s) (pi : PI X tg src wi) (ok : BlkOk X.N X.env.scope scope own) (B : BlkParts X scope tg kx vx ifs g tt tk tv) (fold : ∀ x, foldedSetIterable src X.env x = pure x)
    (h : tDcU wi g tt tk tv (own.map (·.2)) σ H Q)
    (out : ∀ dc C s' m H', Inv X pins σ H' s' → Q (.ref dc) H' → s'.heap.Ns C m → FpOk X pins H' C → compPost (model X.prog X.w) X.A X.xe use Qf (.ref dc) C (.ok .next) s') :
    wpAny (model X.prog X.w) X.A (comprehension (.DictComp kx vx [⟨tg, src, ifs, 0⟩] scope pos) scope X.env pos' newDict false (eval src X.env) use) Qf X.xe s := by
  have free : ∀ y ∈ scope.names, y.2 = .free → ∃ c, X.env.cells.lookup y.1 = some c := fun y hy e => (ok.free y hy e).elim (fun z => I.ok.has _ (.inl z)) fun z => I.ok.has _ (.inr z)
  refine wpAny_comprehension_free (use := use) rfl fold (closure_ok free) ok.kind (fun y hy e => by rw [ok.uniq y hy, e]) ?_
  refine thn (pi.run pins s σ H _ I h) fun _ s1 h1 => thn h1 fun _ s2 h2 => ?_
  obtain ⟨it, fp, tn, J, G0, rfl, I2, T, st2, f2, q⟩ := h2
  refine wpAny_newObj_type (newEnv_comp ?_)
  generalize hdc : s2.heap.objs.size = dc
  have ndc : G0 dc = none := I2.hok.fresh (Nat.le_of_eq hdc)
  obtain ⟨Wk, ⟨m0, w0⟩, turn⟩ := q dc ndc
  generalize es3 : ({ s2 with heap := s2.heap.push { cls := .type "dict", data := .dict #[] } } : Shared) = s3
  have eh3 : s3.heap = s2.heap.push { cls := .type "dict", data := .dict #[] } := by rw [← es3]
  have kept3 : ∀ b o, s2.heap.get? b = some o → s3.heap.get? b = some o := fun b o e => by rw [eh3]; exact Heap.get?_push_of_some _ e
  have I3 : Inv X pins σ (L2.upd G0 dc (.dT [])) s3 := by
    rw [← es3]
    exact I2.laid (t' := s2.toks) (fun b o e => Heap.get?_push_of_some _ e) (Nat.le_of_eq hdc) (by rw [← hdc]; exact dt_empty s2.heap I2.big)
  have fpOld : ∀ b ∈ fp, b < s2.heap.objs.size := fun b hb => (T.obj _ _ st2 b hb).elim fun o e => Heap.lt_size e.1
  have f3 : ∀ b ∈ fp, FpOk X pins (L2.upd G0 dc (.dT [])) b ∧ b < s3.heap.objs.size := fun b hb => by
    have lt := fpOld b hb
    have ne : b ≠ dc := by rw [← hdc]; exact Nat.ne_of_lt lt
    refine ⟨⟨by rw [upd_ne ne]; exact (f2 b hb).1, (f2 b hb).2⟩, ?_⟩
    rw [eh3, Heap.size_push]
    exact Nat.lt_succ_of_lt lt
  have st3 : tn 0 s3.heap := T.keep _ _ _ st2 fun b _ o e => kept3 b o e
  have I4 := block_start I3 ok nd f3
  have pg := B.g s3 (L2.upd G0 dc (.dT [])) s3.heap.objs.size (cellsFrom (s3.heap.objs.size + 1) scope.names (cloFrom X.env.cells scope.names [])) fp
  have pt := B.t s3 (L2.upd G0 dc (.dT [])) s3.heap.objs.size (cellsFrom (s3.heap.objs.size + 1) scope.names (cloFrom X.env.cells scope.names [])) fp
  have pk := B.k s3 (L2.upd G0 dc (.dT [])) s3.heap.objs.size (cellsFrom (s3.heap.objs.size + 1) scope.names (cloFrom X.env.cells scope.names [])) fp
  have pv := B.v s3 (L2.upd G0 dc (.dT [])) s3.heap.objs.size (cellsFrom (s3.heap.objs.size + 1) scope.names (cloFrom X.env.cells scope.names [])) fp
  show codeAny _ _ (.compStart (.DictComp kx vx [⟨tg, src, ifs, 0⟩] scope pos) 0 (.ref it) (.ref dc) (compEnvC scope (cellsFrom (s3.heap.objs.size + 1) scope.names (cloFrom X.env.cells scope.names [])) s3.heap.objs.size X.env)) (compPost (model X.prog X.w) X.A X.xe use Qf (.ref dc) s3.heap.objs.size) { s3 with heap := pushCells (s3.heap.push { cls := .type "dict", data := .dict #[] }) scope.names }
  have fpNone : ∀ b ∈ fp, (L2.upd G0 dc (.dT [])) b = none := fun b hb => (f3 b hb).1.1
  generalize ece : compEnvC scope (cellsFrom (s3.heap.objs.size + 1) scope.names (cloFrom X.env.cells scope.names [])) s3.heap.objs.size X.env = ce at I4 pg pt pk pv ⊢
  have cl : ce.locals = s3.heap.objs.size := by subst ece; rfl
  generalize L2.upd G0 dc (.dT []) = G3 at I3 I4 pg pt pk pv w0 fpNone f3
  generalize es4 : ({ s3 with heap := pushCells (s3.heap.push { cls := .type "dict", data := .dict #[] }) scope.names } : Shared) = s4 at I4 ⊢
  have st4 : tn 0 s4.heap := T.keep _ _ _ st3 fun b _ o e => by rw [← es4]; exact pushCells_keeps _ _ _ _ (Heap.get?_push_of_some _ e)
  let Y := X.blk s3 G3 scope ce fp
  have foot : ∀ {τ : L2.St} {G : Hp} {s' : Shared}, Inv (X.blk s3 G3 scope ce fp) [] τ G s' → (∀ b ∈ fp, G b = none) → ∀ b ∈ fp, FpOk (X.blk s3 G3 scope ce fp) [] G b := fun K0 none' b hb =>
    ⟨none' b hb, (K0.ok.exf b hb).1, K0.ok.exfs b hb, .inl hb, fun x c e => (K0.ok.exf b hb).2 x c e, fun p hp => by rcases List.mem_append.mp hp with z | z <;> cases z⟩
  have loop : codeAny (model X.prog X.w) X.A (.compLoop (.DictComp kx vx [⟨tg, src, ifs, 0⟩] scope pos) 0 (.ref it) (.ref dc) ce) (compPost (model X.prog X.w) X.A X.xe use Qf (.ref dc) s3.heap.objs.size) s4 := by
    refine compLoop_anyD (fun n s' => ∃ i G, Inv (X.blk s3 G3 scope ce fp) [] (wipe σ (own.map (·.2))) G s' ∧ tn i s'.heap ∧ (∀ b ∈ fp, G b = none) ∧ Wk i n G) ?_ m0 ⟨0, G3, I4, st4, fpNone, w0⟩
    rintro n s5 ⟨i, G5, I5, st5, n5, w5⟩
    rcases turn i n G5 w5 with ⟨stop, fin⟩ | ⟨go, Go, less, step⟩
    · refine thnF (T.done (X.blk s3 G3 scope ce fp) rfl rfl rfl calm i [] s5 _ G5 (fun _ _ => False) I5 (foot I5 n5) st5 stop) fun r s6 hr => ?_
      obtain ⟨rfl, I6⟩ := hr
      have nC : G5 s3.heap.objs.size = none := by
        have z : G5 ce.locals = none := I6.free
        rw [cl] at z
        exact z
      obtain ⟨m, ns, _⟩ := I6.loc
      have ns : s6.heap.Ns ce.locals m := ns
      rw [cl] at ns
      refine out dc s3.heap.objs.size s6 m G5 ?_ fin ns (I3.fpOk (Nat.le_refl _) nC)
      exact I3.call' (ch := fp) I6.os I6.base I6.hok I6.bare fun b hb => ⟨(f3 b hb).1.2.2.2.1, (f3 b hb).1.2.1, (f3 b hb).1.2.2.2.2.1, (f3 b hb).1.2.2.2.2.2⟩
    · refine thnF (T.item (X.blk s3 G3 scope ce fp) rfl rfl rfl calm i [] s5 _ G5 (fun _ _ => False) I5 (foot I5 n5) st5 go) fun r s6 h6 => ?_
      obtain ⟨u, rfl, h6⟩ := h6
      refine thnF h6 fun _ s7 h7 => ?_
      obtain ⟨x, G7, I7, r7, y7, st7, n7⟩ := h7
      refine thnF (pg.run _ s7 _ G7 x u _ (I7.pinned (foot I7 n7) (T.obj _ _ st7)) r7 (step x G7 y7)) fun _ s8 h8 => ?_
      obtain ⟨τ, G8, I8, hw, q8⟩ := h8
      have back : ∀ {s' : Shared} {G : Hp}, Inv (X.blk s3 G3 scope ce fp) ([] ++ pinsAt fp s7.heap) τ G s' → Go G → ∃ m, m < n ∧ ∃ i G, Inv (X.blk s3 G3 scope ce fp) [] (wipe σ (own.map (·.2))) G s' ∧ tn i s'.heap ∧ (∀ b ∈ fp, G b = none) ∧ Wk i m G := by
        intro s' G K1 gg
        obtain ⟨m', hm, w'⟩ := less G gg
        have held : ∀ b ∈ fp, ∀ o, s7.heap.get? b = some o → s'.heap.get? b = some o ∧ G b = none := fun b hb o e => by
          have z := K1.pin (b, o) (List.mem_append_right _ (List.mem_append_right _ (mem_pinsAt hb e)))
          exact ⟨z.1, z.2.1⟩
        have ln : (wipe σ (own.map (·.2))).length = τ.length := by rw [← hw, wipe_length]
        refine ⟨m', hm, i + 1, G, (K1.unpinned (pins := [])).weak ln (fun j v e => ?_), T.keep _ _ _ st7 fun b hb o e => (held b hb o e).1, fun b hb => ?_, w'⟩
        · rw [← hw] at e; exact (wipe_some e).1
        · exact (T.obj _ _ st7 b hb).elim fun o e => (held b hb o e.1).2
      refine thnF (pt.run _ s8 τ G8 _ I8 q8) fun c s9 h9 => ?_
      obtain ⟨G9, I9, q9⟩ := h9
      cases c with
      | false => rw [if_neg Bool.false_ne_true] at q9 ⊢; exact back I9 q9
      | true =>
        rw [if_pos rfl] at q9 ⊢
        refine thnF (pk.run _ s9 τ G9 _ I9 q9) fun a s10 h10 => ?_
        obtain ⟨yk, GA, IA, ra, qa⟩ := h10
        refine thnF (pv.run _ s10 τ GA _ IA qa) fun a2 s11 h11 => ?_
        obtain ⟨yv, GB, IB, rb, ts, k, b, rfl, hb, hdT, lts, nx⟩ := h11
        cases ra
        exact dictSetT (X := X.blk s3 G3 scope ce fp) hu IB hdT lts hb rb fun s12 I12 => back I12 nx
  exact codeAny_compStart_dict loop (T.self X.A 0 _ _ _ st4 loop)
/-- y = {(..): v for ..} -/
theorem ps_setDcU {i : Nat} {y : Str} {py spos pos : Pos} (hc : X.calm = true) (hu : X.A.units < cLine) (hN : X.N.Nodup) (hy : X.N[i]? = some y) (hyl : X.env.scope.names.lookup y = some .local)
    (hsw : swapsWith (.DictComp kx vx [⟨tg, src, ifs, 0⟩] scope pos) (some (.Name y py)) spos.line X.env = pure true) (pi : PI X tg src wi) (ok : BlkOk X.N X.env.scope scope own) (B : BlkParts X scope tg kx vx ifs g tt tk tv)
    (hs : ∀ x, foldedSetIterable src X.env x = pure x := by intro _; rfl) :
    PS X (.Assign [.Name y py] (.DictComp kx vx [⟨tg, src, ifs, 0⟩] scope pos) spos) (tAsg (tDcU wi g tt tk tv (own.map (·.2))) (gName i)) := by
  refine ⟨fun pins s σ H D I q0 => ?_⟩
  have q : tDcU wi g tt tk tv (own.map (·.2)) σ H (fun v H1 => gName i v σ H1 D.nx) := q0
  rw [exec_Assign_Name_used _ _ _ _ hsw]
  refine wpAny_bind (wpAny_standAt (wpAny_bind (wpAny_bind ?_)))
  refine wpAny_mono (dcU_core (use := some (assign (.Name y py) X.env)) (Qf := fun _ s' => SP X pins D .next s') hu hc hN I pi ok B hs q fun L C s' m H' J1 q1 hn f => ?_) (fun _ s' hq => wpAny_pure (wpAny_pure hq)) fun _ _ z => z
  show wpAny _ _ (assign (.Name y py) X.env (.ref L)) _ _ _
  refine wpAny_assign_Name (store_ok2 (v := V.ref L) J1 hN hy (.inl hyl) rfl (fun s2 J2 hst => ?_) (.inr hyl))
  obtain ⟨a, sb, ha⟩ := hst
  obtain ⟨f0, f1, f2, f3, f4, f5⟩ := f
  have far : C ≠ a := ha.elim (fun z => z ▸ f1) fun z e => f4 y a z e.symm
  exact ⟨m, hn.sameBut sb far, fun h3 sb3 => ⟨_, _, J2.turned (t' := s2.toks) (fun b o hb e => (sb3.2 b hb).trans e) f0 f1 f3 f4 f5, q1⟩⟩
end
end EL
/-! sorted(set) of pairs of ints, below zero, too -/
namespace EL
open PySem PySem.Spec PyProof.Rows L2
theorem perm_back {α β : Type} {f : α → β} {x y : List β} (h : x.Perm y) : ∀ {L : List α}, y = L.map f → ∃ M : List α, M.Perm L ∧ x = M.map f := by
  induction h with
  | nil =>
    intro L e
    cases L with
    | nil => exact ⟨[], .nil, rfl⟩
    | cons _ _ => cases e
  | @cons a l1 l2 _ ih =>
    intro L e
    cases L with
    | nil => cases e
    | cons b L =>
      rw [List.map_cons] at e
      injection e with e1 e2
      obtain ⟨M, m1, m2⟩ := ih e2
      exact ⟨b :: M, .cons b m1, by rw [List.map_cons, e1, m2]⟩
  | swap a b l =>
    intro L e
    match L, e with
    | c :: d :: L, e =>
      rw [List.map_cons, List.map_cons] at e
      injection e with e1 e2
      injection e2 with e2 e3
      exact ⟨d :: c :: L, .swap c d L, by rw [List.map_cons, List.map_cons, e1, e2, e3]⟩
  | trans _ _ ih1 ih2 =>
    intro L e
    obtain ⟨M2, m1, m2⟩ := ih2 e
    obtain ⟨M1, k1, k2⟩ := ih1 m2
    exact ⟨M1, k1.trans m1, k2⟩
abbrev pr2 (ns : List Int) : Int × Int := (ns.getD 0 0, ns.getD 1 0)
section
variable {P : Program} {w : World} {A : Around} {E : Value → Shared → Prop} {s : Shared}
theorem pair_ints {h : Heap} {b : Addr} {ns : List Int} (x : TS.TupInts h (.ref b) ns) (two : ns.length = 2) : Srt.IsPair h (.ref b) (pr2 ns).1 (pr2 ns).2 := by
  obtain ⟨c, xs, e, ⟨o, ho, hc, n, hd⟩, i⟩ := x
  cases e
  obtain ⟨xs⟩ := xs
  match ns, two with
  | [p, q], _ =>
    have i : IntsAre xs [p, q] := i
    cases i with
    | cons _ t1 i2 =>
      cases i2 with
      | cons _ t2 i3 =>
        cases i3
        exact ⟨b, o, t1, t2, n, rfl, ho, hc, hd⟩
theorem sorted_setP {a : Addr} {L : List (Addr × List Int)} {rows : Array (Int × Value)} {ep : Nat} {tb : SetTable} {Q : Value → Shared → Prop} (R : SetTR P w s.heap a L rows ep tb) (calm : A.handled = none) (two : ∀ p ∈ L, p.2.length = 2)
    (fin : ∀ (s2 : Shared) (z : Addr) (c : Nat) (M : List (Addr × List Int)), (∀ b u, s.heap.get? b = some u → s2.heap.get? b = some u) → s2.gens = s.gens → s2.os = s.os → s.heap.objs.size ≤ z →
      s2.heap.get? z = some (seqObj "list" (M.map fun p => Value.ref p.1).toArray c) → M.Perm L → M.Pairwise (fun p q => SrtO.lexB (pr2 q.2) (pr2 p.2) = false) → Q (.ref z) s2) :
    wpAny (model P w) A (call (.builtin "sorted") [.ref a]) Q E s := by
  obtain ⟨ob, g1, g2, g3⟩ := R.ob
  have big := R.size
  have small := R.few
  have sz : rows.size < scanBound := by unfold scanBound; omega
  refine Calls.call_function_entry kind_sorted plain_sorted entry_sorted (args_sorted1 _) ?_
  unfold Builtin.«sorted»
  refine wpAny_bind (m := checkCount _ _ _ _) (wpAny_pure (wpAny_bind ?_))
  refine collect_set (A := A.in1) calm ⟨ob, g1, g2.1, g3⟩ R.fits sz R.tab.ris R.led fun t got keep lz eg eo pm => ?_
  have er : rows.toList.map (·.2) = L.map fun p => Value.ref p.1 := by
    rw [R.rows]
    unfold rowsOf
    rw [List.map_map]
    rfl
  rw [er] at pm
  have few : got.length < 64 := by rw [pm.length_eq, List.length_map]; exact small
  have cap : got.length ≤ sizeLine := by rw [sizeLine_eq]; omega
  refine wpAny_bind (wpAny_newList ?_ cap)
  have laid : (t.heap.push (seqObj "list" got.toArray 0)).get? t.heap.objs.size = some (seqObj "list" got.toArray 0) := Heap.get?_push_size _ rfl
  have old : ∀ b u, s.heap.get? b = some u → (t.heap.push (seqObj "list" got.toArray 0)).get? b = some u := fun b u e => Heap.get?_push_of_some _ (keep b u e)
  generalize hh : t.heap.push (seqObj "list" got.toArray 0) = hp at laid old
  have tups : ∀ p ∈ L, TS.TupInts hp (.ref p.1) p.2 := fun p m => tupInts_of (P := P) (w := w) (isT_keep (R.tup p m) old)
  have prs : ∀ v ∈ got, Srt.IsPair hp v (pr2 (TS.intsOf hp v)).1 (pr2 (TS.intsOf hp v)).2 := fun v m => by
    obtain ⟨p, hp1, rfl⟩ := List.mem_map.mp (pm.mem_iff.mp m)
    rw [(tups p hp1).ints]
    exact pair_ints (tups p hp1) (two p hp1)
  refine wpAny_bind (wpAny_holding (wpAny_call_entry slot_list_sort ⟨_, laid, rfl⟩ entry_list_sort ?_ (args_list_sort _)))
  refine SrtO.list_sort_ord (s := { t with heap := hp }) (SrtO.swo_lex fun v => pr2 (TS.intsOf hp v)) laid cap (fun ge => ?_) fun out o1 o2 => ?_
  · refine SrtO.pairs_sortableO (s := { t with heap := hp }) (by omega) prs fun u e => ?_
    rw [show hp.get? t.heap.objs.size = some (seqObj "list" got.toArray 0) from laid] at e
    cases e
    intro c
    exact absurd (Value.type.inj c) (by decide)
  · obtain ⟨c, hc⟩ := sortedHeap_at (vs := got) (out := out.toArray) laid
    obtain ⟨M, m1, rfl⟩ := perm_back (o2.perm.trans pm) rfl
    refine ⟨_, rfl, wpAny_pure ⟨_, rfl, fin _ t.heap.objs.size c M (fun b u e => ?_) eg eo lz hc m1 ?_⟩⟩
    · have lt : b < s.heap.objs.size := Heap.lt_size e
      have lt2 : b < t.heap.objs.size := Nat.lt_of_lt_of_le lt lz
      show (sortedHeap hp t.heap.objs.size got _).get? b = some u
      rw [sortedHeap_old (Nat.ne_of_lt lt2) (by rw [← hh, size_push']; exact Nat.lt_succ_of_lt lt2)]
      exact old b u e
    · refine List.Pairwise.imp_of_mem (fun {p q} hp1 hq1 h => ?_) (List.pairwise_map.mp o1)
      have h : SrtO.lexB (pr2 (TS.intsOf hp (.ref q.1))) (pr2 (TS.intsOf hp (.ref p.1))) = false := h
      rw [(tups p (m1.mem_iff.mp hp1)).ints, (tups q (m1.mem_iff.mp hq1)).ints] at h
      exact h
end
section
variable {X : Cx}
/-- sorted(set), a set of pairs of ints -/
def rSortedP (K : PySem.W.Frag) (P : Program) (w : World) : List V → Hp → VK → Prop := fun xs H Q => ∃ (a : Addr) (L : List (Addr × List Int)), xs = [.ref a] ∧ H a = some (SetTO P w a L) ∧ (∀ p ∈ L, SqT K H p.1 (p.2.map V.int) ∧ p.2.length = 2) ∧
  ∀ (M : List (Addr × List Int)) (z : Addr), M.Perm L → (M.map (·.2)).Nodup → M.length < 64 → M.Pairwise (fun p q => SrtO.lexB (pr2 q.2) (pr2 p.2) = false) → H z = none → Q (.ref z) (upd H z (.lst (M.map fun p => V.ref p.1)))
theorem cr_sortedP2 (hc : X.calm = true) : CallR X (.builtin "sorted") (rSortedP X.K X.prog X.w) := by
  intro pins s σ H xs us Q I rv h
  obtain ⟨a, L, rfl, ha, hL, q⟩ := h
  obtain ⟨rows, ep, tb, R⟩ := SetT0.full (I.hok a _ ha).1 fun p m => I.isT (hL p m).1
  rw [Vals.ref1 rv]
  refine sorted_setP R (I.ok.hd hc) (fun p m => (hL p m).2) fun s2 z c M keep eg eo lz at' pm so => ?_
  have fz : H z = none := I.hok.fresh lz
  have few : M.length < 64 := by rw [pm.length_eq]; exact R.few
  have ok : (M.map fun p => V.ref p.1).length ≤ sizeLine := by rw [List.length_map, sizeLine_eq]; omega
  have J : Inv X pins σ (upd H z (.lst (M.map fun p => V.ref p.1))) { s with heap := s2.heap, gens := s2.gens, drawn := s2.drawn, toks := s2.toks } :=
    I.call (ch := []) (Un.laid keep lz fz) (I.hok.laid keep lz ⟨ok, M.map fun p => Value.ref p.1, c, vals_of_refs M, at'⟩) (by rw [eg]; exact I.bare) (fun _ n => nomatch n)
  have same : s2 = { s with heap := s2.heap, gens := s2.gens, drawn := s2.drawn, toks := s2.toks } := by
    cases s2; cases s; cases eo; rfl
  rw [same]
  exact ⟨.ref z, _, J, rfl, q M z pm ((pm.map (·.2)).nodup_iff.mpr R.nd) few so fz⟩
end
end EL
/-! repr of a dict whose keys and values are data without dicts -/
namespace EL
open PySem PySem.Spec PyProof.Rows L2
theorem key_rel {P : Program} {w : World} {k : L2.Key} {u : Value} (h : (mixKind P w).is k u = true) : RelV (kV k) u := by
  rcases keyIs_shape h with ⟨i, t, rfl, rfl⟩ | ⟨x, t, rfl, rfl⟩
  · exact ⟨t, rfl⟩
  · exact ⟨t, rfl⟩
theorem kv_entries {P : Program} {w : World} : ∀ {kvs : List (L2.Key × V)} {vs : List (L2.Key × Value)} {es : List DictEntry}, KV kvs vs → Pairs (mixKind P w) es vs →
    Vals (kvs.map fun p => kV p.1) (es.map (·.key)) ∧ Vals (kvs.map (·.2)) (es.map (·.val))
  | _, _, _, .nil, .nil => ⟨.nil, .nil⟩
  | p :: kvs, q :: vs, e :: es, .cons r t, .cons k1 v1 ps => by
    obtain ⟨a, b⟩ := kv_entries t ps
    refine ⟨.cons ?_ a, .cons ?_ b⟩
    · have : p.1 = q.1 := r.1
      show RelV (kV p.1) e.key
      rw [this]
      exact key_rel k1
    · show RelV p.2 e.val
      rw [v1]
      exact r.2
section
variable {prog : Program} {w : World} {h0 : Heap} {a : Addr} {o : Obj} {es : Array DictEntry} {n : Nat} {ds : List (PyData × PyData)} {as bs : List Addr}
theorem shows_flatDict (g1 : h0.get? a = some o) (g2 : o.cls = .type "dict") (g3 : o.data = .dict es n) (rk : ReadsAll h0 (es.toList.map (·.key)) (ds.map (·.1)) as) (rv : ReadsAll h0 (es.toList.map (·.val)) (ds.map (·.2)) bs)
    (ok : (PyData.dict ds).showable = true) (nk : PyData.hasDictAll (ds.map (·.1)) = false) (nv : PyData.hasDictAll (ds.map (·.2)) = false) (far : (a == sysModules) = false) (room : (PyData.dict ds).shown.length ≤ sizeLine) :
    ShowsBy prog w h0 a (.dict ds) "dict" "dict.__repr__" := by
  have fits : (dictText (PyData.shownKv ds)).length ≤ sizeLine := by simpa only [PyData.shown] using room
  obtain ⟨ok1, ok2⟩ := PyData.showableKv_split ds (by simpa [PyData.showable] using ok)
  obtain ⟨b1, m1, k1⟩ := ReprAllK.of_readsAll (prog := prog) (w := w) rk ok1 (fun z => by rw [nk] at z; cases z) (fun t ht => by
    obtain ⟨p, hp, hl⟩ := PyData.shownKv_key_le ds t ht
    exact Nat.le_trans hl (Nat.le_trans (dictText_mem_le hp) fits))
  obtain ⟨b2, m2, k2⟩ := ReprAllK.of_readsAll (prog := prog) (w := w) rv ok2 (fun z => by rw [nv] at z; cases z) (fun t ht => by
    obtain ⟨p, hp, hl⟩ := PyData.shownKv_val_le ds t ht
    exact Nat.le_trans hl (Nat.le_trans (dictText_mem_le hp) fits))
  have both : ReadAtMost h0 (PyData.depthKv ds) (b1 ++ b2) := (m1.mono (PyData.depthAll_keys_le ds)).append (m2.mono (PyData.depthAll_vals_le ds))
  have self : a ∉ b1 ++ b2 := not_mem_of_deeper (.dict g1 g2 g3 rk rv) (by simp only [PyData.depth]; omega) both
  have ent := ReprEntriesK.of_two es.toList _ _ (k1.more_le (as' := b1 ++ b2) (fun _ hb => List.mem_append_left _ hb) (PyData.depthAll_keys_le ds)) (k2.more_le (as' := b1 ++ b2) (fun _ hb => List.mem_append_right _ hb) (PyData.depthAll_vals_le ds))
  refine ⟨F.slot_dict_repr, F.slot_dict_str, F.slot_dict_format, fun s keep => ⟨o, keep _ _ g1, g2⟩, fun A E s Q hg hu keep fin => ?_⟩
  simp only [PyData.depth] at hu
  simp only [PyData.shown, PyData.shownKv_eq] at fin
  exact call_dict_reprK g1 g2 g3 far self ent hg (fun b _ => Clear.nil b) hu keep fin (by rw [← PyData.shownKv_eq]; exact fits)
end
section
variable {X : Cx}
theorem DqAll.readsF {pins : List (Addr × Obj)} {σ : L2.St} {H : Hp} {s : Shared} (I : Inv X pins σ H s) {ds : List PyData} {vs : List V} {us : List Value} (h : DqAll X.K H vs ds) (r : Vals vs us) : ∃ as, ReadsAll s.heap us ds as := by
  obtain ⟨as, q, _⟩ := DqAll.reads I ds vs us h r
  exact ⟨as, q⟩
def rReprD (K : PySem.W.Frag) : List V → Hp → VK → Prop := fun xs H Q => ∃ (d : Addr) (kvs : List (L2.Key × V)) (ds : List (PyData × PyData)), xs = [.ref d] ∧ H d = some (.dK kvs) ∧ DqAll K H (kvs.map fun p => kV p.1) (ds.map (·.1)) ∧ DqAll K H (kvs.map (·.2)) (ds.map (·.2)) ∧
  (PyData.dict ds).showable = true ∧ PyData.hasDictAll (ds.map (·.1)) = false ∧ PyData.hasDictAll (ds.map (·.2)) = false ∧ (PyData.dict ds).depth ≤ 100 ∧ (PyData.dict ds).shown.length ≤ sizeLine ∧ Q (.str (PyData.dict ds).shown) H
theorem call_reprD {k : Nat} (hr : RoomG k X.A) : CallR X (.builtin "repr") (rReprD X.K) := by
  intro pins s σ H xs us Q I rv h
  obtain ⟨d, kvs, ds, rfl, hd, qk, qv, ok, nk, nv, dp, room, q⟩ := h
  rw [Vals.ref1 rv]
  obtain ⟨_, far, vs, kv, o, es, n, ho, hx, hdat, _, hp, _⟩ := I.hok d _ hd
  obtain ⟨e1, e2⟩ := kv_entries kv hp
  obtain ⟨as, r1⟩ := DqAll.readsF I qk e1
  obtain ⟨bs, r2⟩ := DqAll.readsF I qv e2
  have S := shows_flatDict (prog := X.prog) (w := X.w) ho hx.1 hdat r1 r2 ok nk nv far room
  have hu : X.A.units + ((PyData.dict ds).depth + 1) < cLine := by have := hr.r.un; omega
  refine call_repr_slot (by omega) (S.typeIs s fun _ _ e => e) S.slotRepr (S.call X.A.in1 _ s _ hr.g (by show X.A.units + 1 + _ < cLine; omega) (fun _ _ e => e) fun h' u tk keep => ⟨_, _, rfl, ?_⟩)
  exact ⟨.str (PyData.dict ds).shown, H, I.kept keep, ⟨u, rfl⟩, q⟩
end
end EL
/-! sum(lists, []): no lists, too -/
namespace EL
open PySem PySem.Spec PyProof.Rows L2
section
variable {prog : Program} {w : World} {A : Around} {E : Value → Shared → Prop} {lx : Addr} {items : Array Value} {parts : Nat → Array Value}
theorem sumM_call {s : Shared} {t : Addr} {Q : Value → Shared → Prop} (hh : A.handled = none) (hlx : s.heap.IsList lx items) (ht : ∃ n, IsL s.heap t #[] n) (hcat : ∀ i, i ≤ items.size → (catA parts i).size ≤ 1000000)
    (hp : ∀ j, j < items.size → ∃ b n, items[j]? = some (.ref b) ∧ IsL s.heap b (parts j) n)
    (hQ : ∀ h' tk T' n, (∀ b o, s.heap.get? b = some o → h'.get? b = some o) → IsL h' T' (catA parts items.size) n → (s.heap.objs.size ≤ T' ∨ (items.size = 0 ∧ T' = t)) → Q (.ref T') { s with heap := h', toks := tk }) :
    wpAny (model prog w) A (call (.builtin "sum") [.ref lx, .ref t]) Q E s := by
  refine call_function_tree PySem.F.kind_sum PySem.F.plain_sum PySem.F.entry_sum (args_sum2 _ _) ?_
  unfold Builtin.«sum»
  simp only [List.length_cons, List.length_nil]
  rw [if_neg (by decide)]
  refine wpAny_bind (wpAny_of_eq (show Builtin.Builtins.bindParams "sum" ["start"] 0 ⟨[.ref t], []⟩ = pure [some (.ref t)] from rfl) ?_)
  refine wpAny_bind (wpAny_pyIter_list hlx ?_)
  obtain ⟨nt, ht⟩ := ht
  generalize hI : s.heap.objs.size = it
  have up : ∀ b o, s.heap.get? b = some o → (s.heap.push { cls := .type "list_iterator", data := .fields #[.ref lx, .int 0 0] }).get? b = some o := fun b o e => Heap.get?_push_of_some _ e
  have gI : (s.heap.push { cls := .type "list_iterator", data := .fields #[.ref lx, .int 0 0] }).get? it = some { cls := .type "list_iterator", data := .fields #[.ref lx, .int 0 0] } := by rw [← hI]; exact Heap.get?_push_size _ rfl
  have szI : (s.heap.push { cls := .type "list_iterator", data := .fields #[.ref lx, .int 0 0] }).objs.size = it + 1 := by rw [Heap.size_push, hI]
  generalize s.heap.push { cls := .type "list_iterator", data := .fields #[.ref lx, .int 0 0] } = h1 at up gI szI ⊢
  refine wpAny_bind (wpAny_pure ?_)
  have ty : ({ s with heap := h1 } : Shared).TypeIs (.ref t) "list" := ⟨_, up _ _ ht, rfl⟩
  simp only [List.forIn_cons, List.forIn_nil]
  refine wpAny_bind (wpAny_bind (wpAny_bind (wpAny_isInstance (T := "list") (b := false) ty sub_list_str ?_)))
  simp only [Bool.false_eq_true, if_false]
  refine wpAny_pure (wpAny_bind (wpAny_bind (wpAny_isInstance (T := "list") (b := false) ty PySem.F.sub_list_bytes ?_)))
  simp only [Bool.false_eq_true, if_false]
  refine wpAny_pure (wpAny_bind (wpAny_bind (wpAny_isInstance (T := "list") (b := false) ty PySem.F.sub_list_bytearray ?_)))
  simp only [Bool.false_eq_true, if_false]
  refine wpAny_pure (wpAny_pure ?_)
  refine wpAny_bind (wpAny_newObj_type ?_)
  have old : ∀ b o, s.heap.get? b = some o → b < it := fun b o e => by rw [← hI]; exact Heap.lt_size e
  have ltx : lx < it := by obtain ⟨o, ho, _⟩ := hlx; exact old _ _ ho
  have ltt : t < it := old _ _ ht
  have itS : it < h1.objs.size := by rw [szI]; exact Nat.lt_succ_self _
  have up2 : ∀ b o, h1.get? b = some o → (h1.push { cls := .type "list", data := .seq #[.ref t] }).get? b = some o := fun b o e => Heap.get?_push_of_some _ e
  show wpAny _ _ (pure _) _ _ _
  refine wpAny_pure ⟨plainId_quiet PySem.F.plain_sum_loop _, sumL_loop (I := it) (lx := lx) (S := h1.objs.size) (items := items) (parts := parts) hh (Nat.ne_of_lt ltx) (Nat.ne_of_gt itS) (Nat.ne_of_gt (Nat.lt_trans ltx itS)) hcat items.size 0 _ t _ rfl (Nat.zero_le _) ⟨_, up2 _ _ gI, rfl, rfl⟩ ?_ (Heap.get?_push_size _ rfl) (Nat.ne_of_lt (Nat.lt_trans ltt itS)) (Nat.ne_of_lt ltt) ⟨nt, up2 _ _ (up _ _ ht)⟩ (fun j _ hj => ?_) fun h' tk T' n keep hT' hn => ?_⟩
  · obtain ⟨o, ho, hr⟩ := hlx
    exact ⟨o, up2 _ _ (up _ _ ho), hr⟩
  · obtain ⟨b, n, q1, q2⟩ := hp j hj
    have := old _ _ q2
    exact ⟨b, n, q1, Nat.ne_of_lt (Nat.lt_trans this itS), Nat.ne_of_lt this, up2 _ _ (up _ _ q2)⟩
  · refine hQ h' tk T' n (fun b o e => keep b o (Nat.ne_of_lt (old b o e)) (Nat.ne_of_lt (Nat.lt_trans (old b o e) itS)) (up2 _ _ (up _ _ e))) hT' ?_
    rcases hn with ⟨h0, h1⟩ | hn
    · exact .inr ⟨h0.symm, h1⟩
    · refine .inl ?_
      rw [hI]; exact Nat.le_of_lt hn
end
def rSumM (K : PySem.W.Frag) : List V → Hp → VK → Prop := fun xs H Q => ∃ (l t : Addr) (vs : List V) (parts : List (List V)), xs = [.ref l, .ref t] ∧ SqL K H l vs ∧ H t = some (.lst []) ∧ vs.length = parts.length ∧ parts.flatten.length ≤ 1000000 ∧
  (∀ (j : Nat) (p : List V), parts[j]? = some p → ∃ b, vs[j]? = some (.ref b) ∧ H b = some (.lst p)) ∧ (vs = [] → Q (.ref t) H) ∧ ∀ q, H q = none → Q (.ref q) (L2.upd H q (.lst parts.flatten))
theorem cr_sumM {X : Cx} (hc : X.calm = true) : CallR X (.builtin "sum") (rSumM X.K) := by
  intro pins s σ H xs us Q I rv h
  obtain ⟨l, t, vs, parts, rfl, hS, ht, hlen, hz, hk, q0, q⟩ := h
  obtain ⟨u1, u2, rfl, r1, r2⟩ : ∃ u1 u2, us = [u1, u2] ∧ RelV (.ref l) u1 ∧ RelV (.ref t) u2 := by
    cases rv with
    | cons a r =>
      cases r with
      | cons b r => cases r; exact ⟨_, _, rfl, a, b⟩
  cases r1
  cases r2
  obtain ⟨its, rv2, pl, _⟩ := I.list hS
  have li : its.length = vs.length := rv2.length.symm
  have ch : ∀ j : Nat, ∃ ws : List Value, ∀ p, parts[j]? = some p → Vals p ws ∧ ∃ b n, its.toArray[j]? = some (.ref b) ∧ IsL s.heap b ws.toArray n := fun j => by
    cases e : parts[j]? with
    | none => exact ⟨[], fun p h => by cases h⟩
    | some p =>
      obtain ⟨b, hb1, hb2⟩ := hk j p e
      obtain ⟨u, hu1, hu2⟩ := rv2.get hb1
      cases hu2
      obtain ⟨_, ws, n, rw', gb⟩ := (show ObjOk X.prog X.w H s.heap b (.lst p) from I.hok b _ hb2)
      exact ⟨ws, fun p' h => by cases h; exact ⟨rw', b, n, by simpa using hu1, gb⟩⟩
  obtain ⟨f, hf⟩ := Classical.skolem.mp ch
  have vals : ∀ i, i ≤ parts.length → Vals (parts.take i).flatten (catA (fun j => (f j).toArray) i).toList := by
    intro i
    induction i with
    | zero => intro _; exact .nil
    | succ i ih =>
      intro hi
      have e : parts[i]? = some (parts[i]'(by omega)) := List.getElem?_eq_getElem (by omega)
      rw [List.take_add_one, e]
      simp only [Option.toList_some, List.flatten_append, List.flatten_cons, List.flatten_nil, List.append_nil, catA, Array.toList_append]
      exact vals_append (ih (by omega)) (hf i _ e).1
  have szs : ∀ i, i ≤ parts.length → (catA (fun j => (f j).toArray) i).size ≤ 1000000 := fun i hi => by
    have e1 : (parts.take i).flatten.length = (catA (fun j => (f j).toArray) i).toList.length := (vals i hi).length
    have e3 : (catA (fun j => (f j).toArray) i).toList.length = (catA (fun j => (f j).toArray) i).size := Array.length_toList
    have e2 : parts.flatten.length = (parts.take i).flatten.length + (parts.drop i).flatten.length := by
      rw [← List.length_append, ← List.flatten_append, List.take_append_drop]
    omega
  have sz : its.toArray.size = parts.length := by rw [List.size_toArray, li, hlen]
  obtain ⟨_, w0, n0, r0, g0⟩ := (show ObjOk X.prog X.w H s.heap t (.lst []) from I.hok t _ ht)
  cases r0
  refine sumM_call (parts := fun j => (f j).toArray) (I.ok.hd hc) pl.isList ⟨n0, g0⟩ (fun i hi => szs i (by rw [← sz]; exact hi)) (fun j hj => ?_) fun h' tk T' n keep hT' le => ?_
  · exact (hf j _ (List.getElem?_eq_getElem (by rw [← sz]; exact hj))).2
  · rw [sz] at hT'
    have v2 := vals parts.length (Nat.le_refl _)
    rw [List.take_of_length_le (Nat.le_refl _)] at v2
    rcases le with le | ⟨z, rfl⟩
    · refine ⟨.ref T', _, I.laid (t' := tk) (o := .lst parts.flatten) keep le ⟨len_sz hz, _, n, v2, ?_⟩, rfl, q T' (I.hok.fresh le)⟩
      rw [Array.toArray_toList]
      exact hT'
    · exact ⟨.ref T', H, I.kept (t' := tk) keep, rfl, q0 (List.eq_nil_of_length_eq_zero (by rw [hlen, ← sz]; exact z))⟩
end EL
namespace EL
open PySem PySem.Spec PyProof.Rows L2
/-- sum(lists, []): a list, with all of them one behind the other -/
def rSumN (K : PySem.W.Frag) : List V → Hp → VK → Prop := fun xs H Q => ∃ (l t : Addr) (vs : List V) (parts : List (List V)), xs = [.ref l, .ref t] ∧ SqL K H l vs ∧ H t = some (.lst []) ∧ vs.length = parts.length ∧ parts.flatten.length ≤ 1000000 ∧
  (∀ (j : Nat) (p : List V), parts[j]? = some p → ∃ b, vs[j]? = some (.ref b) ∧ H b = some (.lst p)) ∧ ∀ q H', Same H H' → H' q = some (.lst parts.flatten) → Q (.ref q) H'
theorem cr_sumN {X : Cx} (hc : X.calm = true) : CallR X (.builtin "sum") (rSumN X.K) := by
  intro pins s σ H xs us Q I rv h
  obtain ⟨l, t, vs, parts, h1, h2, h3, h4, h5, h6, q⟩ := h
  refine cr_sumM hc pins s σ H xs us Q I rv ⟨l, t, vs, parts, h1, h2, h3, h4, h5, h6, fun e => ?_, fun p np => q p _ (same_upd np) upd_same⟩
  have : parts = [] := List.eq_nil_of_length_eq_zero (by rw [← h4, e]; rfl)
  exact q t H (Same.refl H) (by rw [this]; exact h3)
end EL
/-! x == (), x data of any kind -/
namespace EL
open PySem PySem.Spec PyProof.Rows L2
section
variable {A : Around} {s : Shared}
theorem dict_no_tuple (l b : Addr) (es : Array DictEntry) (n n2 : Nat) (items : Array Value) (dd dd2 : Option Addr) (sl sl2 : Array (Option Value)) :
    Meets (Builtin.«dict.__eq__» ⟨[.ref l, .ref b], []⟩) (fun _ R s => s.heap.get? l = some { cls := .type "dict", dict := dd, data := .dict es n, slots := sl } ∧ s.heap.get? b = some { cls := .type "tuple", dict := dd2, data := .seq items n2, slots := sl2 } ∧ R (.ok (.ret .notImplemented)) s) :=
  .of_wp fun prog w A R s h => by
    obtain ⟨hl, hb, h⟩ := h
    have ty : s.TypeIs (.ref l) "dict" := ⟨_, hl, rfl⟩
    have tb : s.TypeIs (.ref b) "tuple" := ⟨_, hb, rfl⟩
    show wpAny _ _ (Builtin.Dict.dictSlotArgs "__eq__" ⟨[.ref l, .ref b], []⟩ >>= _) _ _ s
    refine wpAny_bind ?_
    unfold Builtin.Dict.dictSlotArgs
    refine wpAny_bind (wpAny_notOrdered_dict ty ?_)
    show wpAny _ _ (pure (Value.ref l, Value.ref b)) _ _ s
    refine wpAny_pure ?_
    refine wpAny_bind (wpAny_isInstance (T := "tuple") tb PySem.F.sub_tuple_dict ?_)
    simp only [Bool.not_false, if_true]
    exact wpAny_bind (wpAny_rule (wpAny_pure ⟨_, rfl, h⟩))
theorem tuple_no_dict (l b : Addr) (es : Array DictEntry) (n n2 : Nat) (items : Array Value) (dd dd2 : Option Addr) (sl sl2 : Array (Option Value)) :
    Meets (Builtin.«tuple.__eq__» ⟨[.ref b, .ref l], []⟩) (fun _ R s => s.heap.get? l = some { cls := .type "dict", dict := dd, data := .dict es n, slots := sl } ∧ s.heap.get? b = some { cls := .type "tuple", dict := dd2, data := .seq items n2, slots := sl2 } ∧ R (.ok (.ret .notImplemented)) s) :=
  .of_wp fun prog w A R s h => by
    obtain ⟨hp, g, d, tk, os⟩ := s
    obtain ⟨hl, hb, h⟩ := h
    have f1 := PySem.F.sub_dict_tuple
    wp_walk using wpAny_loadPart' hl, wpAny_loadPart' hb
    exact ⟨_, rfl, h⟩
theorem dict_tuple_rc {l b : Addr} {es : Array DictEntry} {n : Nat} {items : Array Value} (hl : ∃ o, s.heap.get? l = some o ∧ o.cls = .type "dict" ∧ o.data = .dict es n) (hb : s.heap.IsTuple b items) (hu : A.units < cLine) : SeqAt.RcAt A s (.ref l) (.ref b) false := fun prog w E Q h => by
  obtain ⟨⟨cls, dd, data, sl⟩, ho, hc, hd⟩ := hl
  obtain rfl : cls = .type "dict" := hc
  obtain rfl : data = .dict es n := hd
  obtain ⟨⟨cls2, dd2, data2, sl2⟩, ho2, hc2, n2, hd2⟩ := hb
  obtain rfl : cls2 = .type "tuple" := hc2
  obtain rfl : data2 = .seq items n2 := hd2
  have ne : l ≠ b := fun e => by
    rw [e, ho2] at ho
    have hc := congrArg Obj.cls (Option.some.inj ho)
    exact absurd (Value.type.inj hc) (by decide)
  exact SeqAt.rc_eq_decline_or (k := false) ⟨_, ho, rfl⟩ ⟨_, ho2, rfl⟩ (by decide) PySem.F.sub_tuple_dict PySem.F.slot_dict_eq PySem.F.slot_tuple_eq_refl
    (fun _ hq => call_meets PySem.F.slot_dict_eq ⟨_, ho, rfl⟩ PySem.F.entry_dict_eq (PySem.F.args_dict_eq_2 _ _) (dict_no_tuple l b es n n2 items dd dd2 sl sl2) ⟨ho, ho2, hq⟩)
    (fun _ hq => call_meets PySem.F.slot_tuple_eq_refl ⟨_, ho2, rfl⟩ PySem.F.entry_tuple_eq (PySem.F.args_tuple_eq_2 _ _) (tuple_no_dict l b es n n2 items dd dd2 sl sl2) ⟨ho, ho2, hq⟩)
    (fun _ hq => wpAny_isSame_ref_other ne ho ho2 (by simp) hq) (.inr hu) h
end
def isNilT : PyData → Bool
  | .tuple [] => true
  | _ => false
/-- x == y, y the empty tuple -/
def rEqT0 (K : PySem.W.Frag) : R2 := fun x y H Q => ∃ d b, Dq K H x d ∧ y = .ref b ∧ SqT K H b [] ∧ Q (.bl (isNilT d)) H
theorem op_eqT0 {X : Cx} (hu : X.A.units < cLine) : OpR X (compareOp .Eq) (rEqT0 X.K) := by
  intro pins s σ H x y v u Q I rx ry h
  obtain ⟨d, b, hd, rfl, hb, q⟩ := h
  cases ry
  obtain ⟨its2, r2, pb, _⟩ := I.tuple hb
  cases r2
  obtain ⟨o2, ho2, hc2, n2, hd2⟩ := pb
  have T2 : s.heap.IsTuple b #[] := ⟨o2, ho2, hc2, n2, hd2⟩
  cases hd with
  | non => cases rx; exact SeqAt.RcAt.none_tuple T2 hu _ _ _ _ ⟨.bl _, H, I, rfl, q⟩
  | bl c => cases rx; exact SeqAt.RcAt.bool_tuple c T2 hu _ _ _ _ ⟨.bl _, H, I, rfl, q⟩
  | int i => obtain ⟨t, rfl⟩ := rx; exact SeqAt.RcAt.int_tuple i t T2 hu _ _ _ _ ⟨.bl _, H, I, rfl, q⟩
  | str z => obtain ⟨t, rfl⟩ := rx; exact SeqAt.RcAt.str_tuple z t T2 hu _ _ _ _ ⟨.bl _, H, I, rfl, q⟩
  | lst hq _ =>
    cases rx
    obtain ⟨its, _, ⟨o, n, ho, hc, _, hdd⟩, _⟩ := I.list hq
    exact SeqAt.RcAt.list_tuple ⟨o, ho, hc, n, hdd⟩ T2 hu _ _ _ _ ⟨.bl _, H, I, rfl, q⟩
  | tup hq ha =>
    cases rx
    obtain ⟨its, r1, ⟨o, ho, hc, n, hdd⟩, _⟩ := I.tuple hq
    have key := SeqAt.RcAt.tuples (e := fun _ => true) (items := its.toArray) (items2 := #[]) ⟨o, ho, hc, n, hdd⟩ T2 hu (fun j _ h2 => absurd h2 (by simp))
    refine key _ _ _ _ ⟨.bl _, H, I, rfl, ?_⟩
    cases ha with
    | nil => cases r1; exact q
    | cons _ _ => cases r1; exact q
  | dic hq =>
    cases rx
    obtain ⟨_, o, n, ho, hc, hdd⟩ := not_sys I hq
    exact dict_tuple_rc ⟨o, ho, hc, hdd⟩ T2 hu _ _ _ _ ⟨.bl _, H, I, rfl, q⟩
end EL
/-! a tuple taken twice, also a long one -/
namespace EL
open PySem PySem.Spec PyProof.Rows L2
theorem two_join (its : List Value) : List.foldl (fun p r => p ++ r) #[] (List.replicate (2 : Int).toNat its.toArray) = (its ++ its).toArray := by
  show List.foldl _ #[] [its.toArray, its.toArray] = _
  simp
section
variable {X : Cx}
def rTwice (K : PySem.W.Frag) : R2 := fun x y H Q => ∃ (a : Addr) (xs : List V), x = .ref a ∧ y = .int 2 ∧ SqT K H a xs ∧ xs ≠ [] ∧ xs.length ≤ 1000000 ∧ ∀ p, H p = none → Q (.ref p) (upd H p (.tup (xs ++ xs)))
theorem op_twice : OpR X (binaryOp .Mult) (rTwice X.K) := by
  intro pins s σ H x y v u Q I rx ry h
  obtain ⟨a, xs, rfl, rfl, hx, ne, le, q⟩ := h
  obtain rfl : v = Value.ref a := rx
  obtain ⟨t, rfl⟩ := ry
  obtain ⟨its, r, ⟨⟨cls, dd, data, sl⟩, ho, hc, n, hd⟩, _⟩ := I.tuple hx
  dsimp only at hc hd
  subst hc hd
  have el : its.length = xs.length := r.length.symm
  have l0 : 0 < its.length := by
    rw [el]
    exact List.length_pos_iff.mpr ne
  have em : its.toArray.isEmpty = false := by
    cases its with
    | nil => cases l0
    | cons _ _ => rfl
  have sz : its.toArray.size = its.length := List.size_toArray
  have line : sizeLine = 16777216 := by decide
  have both : (its ++ its).length ≤ sizeLine := by
    rw [List.length_append, el, line]; omega
  have fits : (List.foldl (fun p r => p ++ r) #[] (List.replicate (2 : Int).toNat its.toArray)).size ≤ sizeLine := by
    rw [two_join, List.size_toArray]; exact both
  have few : Builtin.Tuple.tupleTooMany ((its.toArray.size : Nat) * (2 : Int)) = false := by
    unfold Builtin.Tuple.tupleTooMany
    exact decide_eq_false (by rw [sz, el, line]; omega)
  have mul := tuple_mulW a its.toArray n dd sl 2 t (by decide) (by rw [em]; rfl) (by rw [em]; rfl) (by rw [sz, el]; omega) few fits
  rw [two_join] at mul
  have room := I.hok.fresh (Nat.le_refl s.heap.objs.size)
  have laid : ObjOk X.prog X.w (upd H s.heap.objs.size (.tup (xs ++ xs))) (s.heap.push { cls := Value.type "tuple", data := Data.seq (its ++ its).toArray }) s.heap.objs.size (.tup (xs ++ xs)) :=
    ⟨by rw [List.length_append, ← el]; rw [List.length_append] at both; exact both, _, r.append r, IsTup.new _ _⟩
  refine wpAny_binaryOp_repeat_ref (U := "int") (T := "tuple") (by decide) ⟨_, ho, rfl⟩ (fun z => typeIs_int z 2 t) noFill_tuple_mul F.fills_int_mul F.slot_int_rmul repeat_tuple F.slot_int_index.lookup ?_
  refine call_meets F.slot_int_rmul (typeIs_int s 2 t) F.entry_int_rmul (F.args_int_rmul_2 _ _) (int_rmul_tuple 2 t a its.toArray n dd sl) ?_
  refine ⟨ho, rfl, ⟨_, ho, rfl⟩, ?_⟩
  refine call_meets F.slot_tuple_mul ⟨_, ho, rfl⟩ F.entry_tuple_mul (F.args_tuple_mul_2 _ _) mul ?_
  refine ⟨ho, .ref s.heap.objs.size, _, ?_, rfl, q _ room⟩
  exact I.laid (t' := s.toks) (fun _ _ g => Heap.get?_push_of_some _ g) (Nat.le_refl _) laid
end
end EL
/-! set(xs) of a list of texts: a set that can be sorted. -/
namespace EL
open PySem PySem.Spec PyProof.Rows L2
/-- a text's row in a set's table -/
def TextE (w : World) (e : Int × Value) : Prop := ∃ x tk, e.2 = Value.str x tk ∧ e.1 = hashStr w x
/-- the set of texts at a -/
def SetT (w : World) (h : Heap) (a : Addr) (S : Str → Bool) (n : Nat) : Prop :=
  ∃ o es ep t, h.get? a = some o ∧ o.ExactSet ∧ o.data = .set es ep t ∧ (∀ e ∈ es.toList, TextE w e) ∧ (∀ k, S k = true ↔ ∃ e ∈ es.toList, ∃ tk, e.2 = Value.str k tk) ∧
    es.size < scanBound ∧ t.fits es.size = true ∧ es.size = n ∧ Ris t.place.toList ∧ (w.params.followText "set-order" = true ∨ t.led = true)
theorem SetT.keep {w : World} {h h' : Heap} {a : Addr} {S : Str → Bool} {n : Nat} (R : SetT w h a S n) (k : ∀ o, h.get? a = some o → h'.get? a = some o) : SetT w h' a S n := by
  obtain ⟨o, es, ep, t, g, r⟩ := R
  exact ⟨o, es, ep, t, k o g, r⟩
theorem SetT.eq {w : World} {h : Heap} {a : Addr} {S S' : Str → Bool} {n : Nat} (R : SetT w h a S n) (e : ∀ k, S' k = S k) : SetT w h a S' n := by
  rw [show S' = S from funext e]; exact R
theorem text_is {P : Program} {w : World} {e : Int × Value} {k : Str} (g : TextE w e) : (strKind P w).is k e.2 = true ↔ ∃ tk, e.2 = Value.str k tk := by
  obtain ⟨x, u, h1, _⟩ := g
  constructor
  · intro h
    exact Value.isStrOf_shape h
  · rintro ⟨tk, h⟩
    rw [h]; exact strKind_is P w k tk
theorem text_elems {P : Program} {w : World} {l : List (Int × Value)} (g : ∀ e ∈ l, TextE w e) : ElemsOf (strKind P w) l := fun e he => by
  obtain ⟨x, u, h1, h2⟩ := g e he
  refine ⟨⟨x, ?_, h2⟩, ?_⟩
  · rw [h1]; exact strKind_is P w x u
  · rw [h1]; rfl
section
variable {P : Program} {w : World} {A : Around} {E : Value → Shared → Prop} {s : Shared} {a : Addr} {S : Str → Bool} {n : Nat}
/-- the rows laid down, and laid anew where the table is full -/
theorem lay_down {f : Bool → Sem Unit} (hf0 : ∀ (b : Bool) (z : Shared) (Z : Unit → Shared → Prop), Z () z → wpAny (model P w) A (f b) Z E z) {o : Obj} {es fs : Array (Int × Value)} {ep : Nat} {t u : SetTable} (ho : s.heap.get? a = some o) (hx : o.ExactSet) (hd : o.data = .set es ep t)
    {T : Str → Bool} (gd : ∀ e ∈ fs.toList, TextE w e) (mm : ∀ k, T k = true ↔ ∃ e ∈ fs.toList, ∃ tk, e.2 = Value.str k tk) (bd : fs.size < scanBound) (ft : u.fits fs.size = true) (ri : Ris u.place.toList) (ld : w.params.followText "set-order" = true ∨ u.led = true) {was : Bool} {Z : Option Bool → Shared → Prop}
    (k : ∀ g, Heap.SameBut a s.heap g → SetT w g a T fs.size → Z (some true) { s with heap := g }) :
    wpAny (model P w) A (storeSet a fs u >>= fun _ => if (!was && u.tooFull) = true then (f (relayAll u fs (SetTable.grown fs.size)).2.2 >>= fun _ => storeSet a (relayAll u fs (SetTable.grown fs.size)).1 (relayAll u fs (SetTable.grown fs.size)).2.1 >>= fun _ => pure (some true)) else pure (some true)) Z E s := by
  refine wpAny_bind (wpAny_storeSet_of ho hd ?_ (fits_of_scanBound bd))
  have at1 := store_at (es' := fs) (t' := u) ho hd
  have but1 := Heap.SameBut.update s.heap a (Obj.putSet fs u)
  split
  · have r1 := relayAll_perm u fs (SetTable.grown fs.size)
    have r2 := relayAll_fits u fs (SetTable.grown fs.size)
    have r3 := relayAll_ris u fs (SetTable.grown fs.size)
    have r4 := relayAll_led u fs (SetTable.grown fs.size)
    generalize relayAll u fs (SetTable.grown fs.size) = W at r1 r2 r3 r4 ⊢
    obtain ⟨ns, v, gave⟩ := W
    dsimp only at r1 r2 r3 r4 ⊢
    have sz : ns.size = fs.size := by
      rw [← Array.length_toList, r1.length_eq, Array.length_toList]
    have bd2 : ns.size < scanBound := sz ▸ bd
    refine wpAny_bind (hf0 _ _ _ ?_)
    refine wpAny_bind (wpAny_storeSet_of at1 rfl ?_ (fits_of_scanBound bd2))
    have at2 := store_at (es' := ns) (t' := v) at1 rfl
    refine wpAny_pure (k _ (but1.trans (Heap.SameBut.update _ a _)) ⟨_, ns, _, v, at2, hx, rfl, fun e he => gd e (r1.mem_iff.mp he), fun j => (mm j).trans ?_, bd2, r2, sz, r3, ld.imp id fun z => by rw [r4]; exact z⟩)
    exact ⟨fun ⟨e, he, q⟩ => ⟨e, r1.mem_iff.mpr he, q⟩, fun ⟨e, he, q⟩ => ⟨e, r1.mem_iff.mp he, q⟩⟩
  · exact wpAny_pure (k _ but1 ⟨_, fs, _, u, at1, hx, rfl, gd, mm, bd, ft, rfl, ri, ld⟩)
theorem add_text {x : Str} {tk : Tok} {Q : Bool → Shared → Prop} (R : SetT w s.heap a S n) (room : n + 1 < scanBound)
    (k : ∀ g b c, Heap.SameBut a s.heap g → c ≤ n + 1 → SetT w g a (fun j => S j || decide (j = x)) c → Q b { s with heap := g }) :
    wpAny (model P w) A (setAddHashed a (.str x tk) ((strKind P w).hash x)) Q E s := by
  obtain ⟨o, es, ep, t, ho, hx, hd, gd, mm, bd, ft, hn, ri, ld⟩ := R
  have key : (strKind P w).is x (.str x tk) = true := strKind_is P w x tk
  have scan : (Value.str x tk).scannable = true := rfl
  have els : ElemsOf (strKind P w) es.toList := text_elems gd
  unfold setAddHashed setAddHashedIn; refine wpAny_holding (wpAny_bind (wpAny_setState_of ho hd ft ?_))
  dsimp only
  rw [byScan_of scan bd els]; simp only [↓reduceIte]; unfold setAddByScan
  refine wpAny_bind (wpAny_bind (wpAny_rule (wpAny_bind (wpAny_setScan_of key ho hd ft els ?_))))
  cases fi : List.findIdx? (fun e => (strKind P w).is x e.2) es.toList with
  | some j =>
    dsimp only
    obtain ⟨lj, pj, _⟩ := List.findIdx?_eq_some_iff_getElem.mp fi
    have has : S x = true := (mm x).mpr ⟨_, List.getElem_mem lj, (text_is (gd _ (List.getElem_mem lj))).mp pj⟩
    refine wpAny_pure (wpAny_pure (k s.heap _ n (Heap.SameBut.refl a s.heap) (Nat.le_succ n) ⟨o, es, ep, t, ho, hx, hd, gd, fun i => ?_, bd, ft, hn, ri, ld⟩))
    rw [Bool.or_eq_true, decide_eq_true_eq, ← mm i]
    exact ⟨fun z => z.elim id fun e => e ▸ has, .inl⟩
  | none =>
    dsimp only
    have gw : ∀ (b : Bool) {z : Shared} {Z : Unit → Shared → Prop}, Z () z → wpAny (model P w) A (match b with | true => rule "set.scan.the-table-gave-way" | false => pure ()) Z E z := fun b z Z h => by
      cases b
      · first | exact wpAny_pure h | exact wpAny_rule h
      · first | exact wpAny_pure h | exact wpAny_rule h
    have l1 := layNew_perm t es ((strKind P w).hash x) (.str x tk)
    have l2 := layNew_fits t es ((strKind P w).hash x) (.str x tk)
    have l3 := layNew_ris t es ((strKind P w).hash x) (.str x tk) ri
    have l4 := layNew_led t es ((strKind P w).hash x) (.str x tk)
    generalize layNew t es ((strKind P w).hash x) (.str x tk) = W at l1 l2 l3 l4 ⊢
    obtain ⟨fs, u, was, gave⟩ := W
    dsimp only at l1 l2 l3 l4 ⊢
    rw [Array.toList_push] at l1
    have both : fs.toList.Perm (((strKind P w).hash x, Value.str x tk) :: es.toList) := l1.trans (List.perm_append_singleton _ _)
    have gd1 : ∀ e ∈ fs.toList, TextE w e := fun e he => by
      rcases List.mem_cons.mp (both.mem_iff.mp he) with z | z
      · exact ⟨x, tk, by rw [z], by rw [z]; rfl⟩
      · exact gd e z
    have mm1 : ∀ j, (S j || decide (j = x)) = true ↔ ∃ e ∈ fs.toList, ∃ v, e.2 = Value.str j v := fun j => by
      rw [Bool.or_eq_true, decide_eq_true_eq, mm j]
      constructor
      · rintro (⟨e, he, z⟩ | rfl)
        · exact ⟨e, both.mem_iff.mpr (List.mem_cons_of_mem _ he), z⟩
        · exact ⟨_, both.mem_iff.mpr List.mem_cons_self, tk, rfl⟩
      · rintro ⟨e, he, v, z⟩
        rcases List.mem_cons.mp (both.mem_iff.mp he) with y | y
        · rw [y] at z
          injection z with z1
          exact .inr z1.symm
        · exact .inl ⟨e, y, v, z⟩
    have sz1 : fs.size = n + 1 := by
      rw [← Array.length_toList, both.length_eq, List.length_cons, Array.length_toList, hn]
    have bd1 : fs.size < scanBound := by rw [sz1]; exact room
    have ld1 : w.params.followText "set-order" = true ∨ u.led = true := ld.imp id fun z => by rw [l4]; exact z
    have fin : ∀ g, Heap.SameBut a s.heap g → SetT w g a (fun j => S j || decide (j = x)) fs.size → Q true { s with heap := g } := fun g sb r => k g true _ sb (by omega) r
    refine wpAny_bind (gw _ ?_)
    split
    · refine wpAny_bind ?_
      rw [hashByValue_scannable 8 scan]; refine wpAny_pure ?_
      refine lay_down ?_ ho hx hd gd1 mm1 bd1 ?_ ?_ ?_ ?_
      · intro b z Z h; cases b <;> (first | exact wpAny_pure h | exact wpAny_rule h)
      · first | (split <;> (first | exact l2 | exact SetTable.fits_plain_off l2)) | exact l2
      · first | (split <;> exact l3) | exact l3
      · first | (split <;> exact ld1) | exact ld1
      · exact fun g sb r => wpAny_pure (fin g sb r)
    · refine wpAny_bind (wpAny_pure ?_)
      simp only [↓reduceIte]; refine lay_down ?_ ho hx hd gd1 mm1 bd1 l2 l3 ld1 fun g sb r => wpAny_pure (fin g sb r)
      intro b z Z h; cases b <;> (first | exact wpAny_pure h | exact wpAny_rule h)
/-- one text after the other -/
theorem loop_texts {I : Addr} {fp wr : List Addr} {G : Array GenState → Array GenState → Prop} {m : Nat} {Pv : Nat → Value → Prop} {St : Nat → Shared → Prop} {Z : Result → Shared → Prop} (W : WalksS P w A.in1 I fp wr G m Pv St) (D : Addr) (out : D ∉ fp) (xs : List Str) (hm : m = xs.length) (room : xs.length + 1 < scanBound) (val : ∀ i v, Pv i v → ∃ x t, xs[i]? = some x ∧ v = .str x t) :
    ∀ (k i : Nat) (s : Shared), m - i = k → i ≤ m → St i s → (∃ c, c ≤ i ∧ SetT w s.heap D (fun j => decide (j ∈ xs.take i)) c) → (∀ s' c, Moved (D :: wr) G s s' → c ≤ m → SetT w s'.heap D (fun j => decide (j ∈ xs)) c → Z (.ok (.ret .none)) s') →
      codeAny (model P w) A (.builtin "set.update.loop" ⟨[.ref D, .ref I], []⟩) Z s := by
  have nw : D ∉ wr := fun h => out (W.sub _ h)
  have more : ∀ b ∈ wr, b ∈ D :: wr := fun b h => .tail _ h
  intro k
  induction k with
  | zero =>
    intro i s hk hi st ⟨c, hc, R⟩ q
    obtain rfl : i = m := by omega
    refine codeAny_builtin F.entry_set_update_loop ?_; rw [Around.under_plainId F.plain_set_update_loop _]
    show wpAny _ A.in1 (pyNext (.ref I) >>= _) _ _ s; refine wpAny_bind (W.done s _ _ st fun z mv => ?_)
    show wpAny _ A.in1 (ret Value.none) _ _ z
    rw [show xs.take i = xs from List.take_of_length_le (by omega)] at R
    exact wpAny_pure (q z c (mv.mono more) hc (R.keep fun o e => mv.heap D o nw e))
  | succ k ih =>
    intro i s hk hi st ⟨c, hc, R⟩ q
    have lt : i < m := by omega
    refine codeAny_builtin F.entry_set_update_loop ?_; rw [Around.under_plainId F.plain_set_update_loop _]
    show wpAny _ A.in1 (pyNext (.ref I) >>= _) _ _ s; refine wpAny_bind (W.item i s _ _ lt st fun v z hP stz mv => ?_)
    obtain ⟨x, t, hx, rfl⟩ := val i v hP
    have Rz : SetT w z.heap D (fun j => decide (j ∈ xs.take i)) c := R.keep fun o e => mv.heap D o nw e
    show wpAny _ A.in1 (holding [Value.str x t] (setAdd D (.str x t)) >>= _) _ _ z
    refine wpAny_bind (wpAny_holding ?_); unfold setAdd
    refine wpAny_holding (wpAny_bind ((strKind P w).pyHash (k := x) (strKind_is _ _ _ _) ?_))
    refine add_text (s := { z with toks := z.toks + 1 }) Rz (by omega) fun g b c' sb le R2 => ?_
    have R3 : SetT w g D (fun j => decide (j ∈ xs.take (i + 1))) c' := R2.eq fun j => by
      rw [List.take_add_one, hx]; simp [List.mem_append]
    refine wpAny_pure ⟨plainId_quiet F.plain_set_update_loop _, ih (i + 1) _ (by omega) lt (W.frame _ z _ _ stz (Nat.le_succ _) fun y hy o e => ?_) ⟨_, by omega, R3⟩ fun s2 c2 mv2 le2 R4 => ?_⟩
    · rw [sb.2 y (fun h : y = D => out (by rw [← h]; exact hy))]; exact e
    · refine q s2 c2 (Moved.trans W.gtrans ((mv.mono more).then_heap (Nat.le_succ _) fun y o hy e => ?_) mv2) le2 R4
      rw [sb.2 y (fun h : y = D => hy (by rw [h]; exact List.mem_cons_self))]; exact e
theorem bare_text {h : Heap} {a : Addr} {xs : List Str} (ho : h.get? a = some (bareSet w)) : SetT w h a (fun j => decide (j ∈ xs.take 0)) 0 := by
  refine ⟨_, #[], 0, _, ho, ⟨rfl, rfl, rfl⟩, rfl, fun e he => by simp at he, fun k => by simp, by decide, by rfl, rfl, List.Pairwise.nil, ?_⟩
  show _ ∨ (!w.params.followText "set-order") = true
  cases w.params.followText "set-order"
  · exact .inr rfl
  · exact .inl rfl
theorem set_list_texts {l : Addr} {items : Array Value} (ns : List Str) {Q : Value → Shared → Prop} (hh : A.handled = none) (hl : s.heap.IsList l items) (hit : StrsAre items.toList ns) (hb : ns.length + 1 < scanBound)
    (h : ∀ (g : Heap) (tk c : Nat), SetT w g s.heap.objs.size (fun j => decide (j ∈ ns)) c → c ≤ ns.length → (∀ b o, s.heap.get? b = some o → g.get? b = some o) → Q (.ref s.heap.objs.size) { s with heap := g, toks := tk }) : wpAny (model P w) A (call (.type "set") [.ref l]) Q E s := by
  have len : items.size = ns.length := by
    rw [← Array.length_toList]; exact StrsAre.len_eq hit
  obtain ⟨_, _, mr⟩ := PySem.F.called_set.mro
  have md := PySem.F.called_set.made
  have sb := PySem.F.called_set.sub
  refine wpAny_call (codeAny_of_tree ?_)
  show wpAny _ _ (callAny (.type "set") _) _ _ _
  refine wpAny_pure ⟨Code.quiet_builtin _ (by decide +kernel), codeAny_builtin (PySem.F.entry_type_call) ?_⟩
  rw [Around.under_plain (weight_type_call_type "set" [.ref l] []) rfl]
  have q1 := PySem.F.called_set.notType
  have q2 := PySem.F.called_set.canCreate
  have q3 := PySem.F.typeCall_set_1 (.ref l)
  repeat (any_goals (first | assumption | wp_step))
  generalize hN : s.heap.objs.size = N at h ⊢
  have made : ∀ B : Around, codeAny (model P w) B (.call (.builtin "set.__new__") ⟨[.type "set", .ref l], []⟩) (wants (fun obj s₁ => obj = .ref N ∧ s₁ = { s with heap := s.heap.push (bareSet w) }) E) s := fun B => code_set_led1 (.ref l) (by rw [← hN]; exact ⟨rfl, rfl⟩)
  refine codeAny_mono (made _) fun r s₁ hr => ?_
  match r, hr with
  | .error e, hr => exact hr
  | .ok (.ret obj), ⟨e1, e2⟩ =>
    subst e1 e2
    have hS : (s.heap.push (bareSet w)).get? N = some (bareSet w) := by rw [← hN]; exact Heap.get?_push_size _ rfl
    have hT : Shared.TypeIs { s with heap := s.heap.push (bareSet w) } (.ref N) "set" := ⟨_, hS, rfl⟩
    have hli := PySem.F.called_set.init.lookup
    have hbi := PySem.F.called_set.init.bind (.ref N)
    repeat (any_goals (first | assumption | wp_step))
    have init : ∀ B : Around, B.handled = none → codeAny (model P w) B (.call (.builtin "set.__init__") ⟨[.ref N, .ref l], []⟩) (wants (fun r s₂ => r = .none ∧ ∃ g tk c, s₂ = { s with heap := g, toks := tk } ∧ SetT w g N (fun j => decide (j ∈ ns)) c ∧ c ≤ ns.length ∧ (∀ b o, s.heap.get? b = some o → g.get? b = some o)) E) { s with heap := s.heap.push (bareSet w) } := by
      intro B hB
      refine codeAny_call_builtin PySem.F.called_set.init.plain PySem.F.entry_set_init (PySem.check_set_init_1 hT ?_)
      have hl1 : (s.heap.push (bareSet w)).IsList l items := hl.push _
      have hTl : Shared.TypeIs { s with heap := s.heap.push (bareSet w) } (.ref l) "list" := Heap.IsList.typeIs (s := { s with heap := s.heap.push (bareSet w) }) hl1
      have f1 := PySem.F.sub_list_set
      have f2 := PySem.F.sub_list_frozenset
      have f3 : (Value.type "list" == Value.type "dict") = false := by decide
      have lN : l < N := by
        obtain ⟨o, ho, _⟩ := hl
        rw [← hN]; exact Heap.lt_size ho
      have sz : (s.heap.push (bareSet w)).objs.size = N + 1 := by rw [Heap.size_push, hN]
      unfold Builtin.«set.__init__» noKeywords Builtin.Frozenset.updateFrom
      generalize hPI : pyIter = PI
      wp_walk
      subst hPI
      refine wpAny_pyIter_list hl1 (wpAny_bind (wpAny_runValue ?_))
      have hB3 : B.in1.in1.handled = none := by simp [hB]
      have walk := (Walks.list (prog := P) (w := w) hB3 (N + 1) l (Nat.ne_of_lt (Nat.lt_succ_of_lt lN)) items).toS
      rw [sz]
      refine loop_texts walk N ?_ ns len hb ?_ (items.size - 0) 0 _ (by omega) (Nat.zero_le _) ⟨?_, hl1.push _⟩ ⟨0, Nat.le_refl 0, bare_text (Heap.get?_push_of_some _ hS)⟩ ?_
      · intro z
        rcases List.mem_cons.mp z with z | z
        · exact Nat.ne_of_lt (Nat.lt_succ_self N) z
        · exact Nat.ne_of_gt lN (List.mem_singleton.mp z)
      · intro i v hv
        have hi : i < ns.length := by rw [← len]; exact (Array.getElem?_eq_some_iff.mp hv).1
        obtain ⟨t, e⟩ := SS.strs_at hit i v (by rw [Array.getElem?_toList]; exact hv)
        exact ⟨ns[i], t, List.getElem?_eq_getElem hi, by rw [e, List.getD_eq_getElem?_getD, List.getElem?_eq_getElem hi]; rfl⟩
      · exact ⟨_, by rw [← sz]; exact Heap.get?_push_size _ rfl, rfl, rfl⟩
      · rintro ⟨g, gn, dr, tk, os⟩ c mv hc R
        obtain rfl : gn = s.gens := mv.gens
        obtain rfl : dr = s.drawn := mv.drawn
        obtain rfl : os = s.os := mv.os
        refine wpAny_pure ?_
        refine wpAny_pure ⟨rfl, g, tk, c, rfl, R, by omega, fun b o e => ?_⟩
        have hb0 : b < N := by rw [← hN]; exact Heap.lt_size e
        refine mv.heap b o (fun z => ?_) (Heap.get?_push_of_some _ (Heap.get?_push_of_some _ e))
        rcases List.mem_cons.mp z with z | z
        · exact Nat.ne_of_lt hb0 z
        · exact Nat.ne_of_lt (Nat.lt_succ_of_lt hb0) (List.mem_singleton.mp z)
    refine codeAny_mono (init _ (by simp [hh])) fun r₂ s₂ h2 => ?_
    match r₂, h2 with
    | .error e, h2 => exact h2
    | .ok (.ret v), ⟨e0, g, tk, c, e1, R, hc, keep⟩ =>
      subst e0 e1
      repeat (any_goals (first | assumption | wp_step))
      exact h g tk c R hc keep
    | .ok .next, h2 => exact h2.elim
    | .ok .brk, h2 => exact h2.elim
    | .ok .cont, h2 => exact h2.elim
  | .ok .next, hr => exact hr.elim
  | .ok .brk, hr => exact hr.elim
  | .ok .cont, hr => exact hr.elim
def textOf : Value → Str
  | .str x _ => x
  | _ => Str.empty
theorem texts_of : ∀ {l : List Value}, (∀ v ∈ l, ∃ x t, v = Value.str x t) → StrsAre l (l.map textOf)
  | [], _ => .nil
  | v :: r, h => by
    obtain ⟨x, t, rfl⟩ := h v List.mem_cons_self
    exact .cons x t (texts_of fun y hy => h y (List.mem_cons_of_mem _ hy))
theorem sorted_texts {Q : Value → Shared → Prop} (R : SetT w s.heap a S n) (calm : A.handled = none) (few : n < 64)
    (fin : ∀ (s2 : Shared) (z : Addr) (out : Array Value) (c : Nat) (zs : List Str), (∀ b u, s.heap.get? b = some u → s2.heap.get? b = some u) → s2.gens = s.gens → s2.os = s.os → s.heap.objs.size ≤ z →
      s2.heap.get? z = some (seqObj "list" out c) → StrsAre out.toList zs → (∀ k, k ∈ zs ↔ S k = true) → zs.length = n → Q (.ref z) s2) : wpAny (model P w) A (call (.builtin "sorted") [.ref a]) Q E s := by
  obtain ⟨o, es, ep, t, ho, hx, hd, gd, mm, bd, ft, hn, ri, ld⟩ := R
  refine Calls.call_function_entry kind_sorted plain_sorted entry_sorted (args_sorted1 _) ?_
  unfold Builtin.«sorted»
  refine wpAny_bind (m := checkCount _ _ _ _) (wpAny_pure (wpAny_bind ?_))
  refine collect_set (A := A.in1) calm ⟨o, ho, hx.1, hd⟩ ft bd ri ld fun s1 got keep lz eg eo pm => ?_
  have len : got.length = n := by
    rw [pm.length_eq, List.length_map, Array.length_toList]; exact hn
  have all : ∀ v ∈ got, ∃ x u, v = Value.str x u := fun v hv => by
    obtain ⟨e, he, q⟩ := List.mem_map.mp (pm.mem_iff.mp hv)
    obtain ⟨x, u, h1, _⟩ := gd e he
    exact ⟨x, u, by rw [← q]; exact h1⟩
  have are := texts_of all
  have mem : ∀ k, k ∈ got.map textOf ↔ S k = true := fun k => by
    rw [mm k, List.mem_map]
    constructor
    · rintro ⟨v, hv, rfl⟩
      obtain ⟨e, he, q⟩ := List.mem_map.mp (pm.mem_iff.mp hv)
      obtain ⟨x, u, h1, _⟩ := gd e he
      refine ⟨e, he, u, ?_⟩
      rw [← q, h1]; rfl
    · rintro ⟨e, he, u, q⟩
      exact ⟨e.2, pm.mem_iff.mpr (List.mem_map.mpr ⟨e, he, rfl⟩), by rw [q]; rfl⟩
  have cap : got.length ≤ sizeLine := by rw [len, sizeLine_eq]; omega
  refine wpAny_bind (wpAny_newList ?_ cap)
  have laid : (s1.heap.push (seqObj "list" got.toArray 0)).get? s1.heap.objs.size = some (seqObj "list" got.toArray 0) := Heap.get?_push_size _ rfl
  refine wpAny_bind (wpAny_holding (wpAny_call_entry slot_list_sort ⟨_, laid, rfl⟩ entry_list_sort ?_ (args_list_sort _)))
  refine list_sort_treeK strKind_oneLt laid are.keysOf (fun v₁ v₂ rest e => keyKind_strs (by rw [← e]; exact are)) (by rw [len]; exact few) fun st p1 p2 => ?_
  obtain ⟨zs, z1, z2, _⟩ := sorted_out_str are p1 p2
  obtain ⟨c, hc⟩ := sortedHeap_at (vs := got) (out := (arrOf st).map (·.2)) laid
  refine ⟨_, rfl, wpAny_pure ⟨_, rfl, fin _ s1.heap.objs.size _ c zs (fun b u e => ?_) eg eo lz hc z1 (fun k => by rw [z2.mem_iff, mem k]) (by rw [z2.length_eq, List.length_map]; exact len)⟩⟩
  have g := keep b u e
  have lt := Heap.lt_size g
  show (sortedHeap (s1.heap.push (seqObj "list" got.toArray 0)) s1.heap.objs.size got _).get? b = some u
  rw [sortedHeap_old (Nat.ne_of_lt lt) (by rw [size_push']; exact Nat.lt_succ_of_lt lt)]; exact Heap.get?_push_of_some _ g
end
/-- the set of texts at a, as an object -/
def SetSO (w : World) (a : Addr) (S : Str → Bool) (n : Nat) : HO := .ext fun h => SetT w h a S n
section
variable {X : Cx}
theorem setSO_new {w : World} {P : Program} {H : Hp} {h : Heap} {a : Addr} {S : Str → Bool} {n : Nat} (R : SetT w h a S n) : ObjOk P w H h a (SetSO w a S n) := by
  have ⟨o, _, _, _, ho, _⟩ := R
  exact ⟨R, ⟨o, ho⟩, fun h1 h2 p k => SetT.keep p k⟩
/-- set(xs), xs a list of texts -/
def rSetS (K : PySem.W.Frag) (w : World) : List V → Hp → VK → Prop := fun vs H Q => ∃ (l : Addr) (ws : List Str), vs = [.ref l] ∧ SqL K H l (ws.map V.str) ∧ ws.length < 64 ∧ ∀ p n, H p = none → n ≤ ws.length → Q (.ref p) (upd H p (SetSO w p (fun z => decide (z ∈ ws)) n))
theorem cr_setSS (hc : X.calm = true) : CallR X (.type "set") (rSetS X.K X.w) := by
  intro pins s σ H xs us Q I r h
  obtain ⟨l, ws, rfl, hl, hn, q⟩ := h
  rw [Vals.ref1 r]
  obtain ⟨its, rv, pl, hz⟩ := I.list hl
  have hN : H s.heap.objs.size = none := I.hok.fresh (Nat.le_refl _)
  have room : ws.length + 1 < scanBound := by unfold scanBound; omega
  refine set_list_texts ws (I.ok.hd hc) pl.isList (by simpa using rv.strs) room fun g tk c R hcc k => ?_
  exact ⟨.ref s.heap.objs.size, upd H s.heap.objs.size (SetSO X.w s.heap.objs.size (fun j => decide (j ∈ ws)) c), I.laid (t' := tk) k (Nat.le_refl _) (setSO_new R), rfl, q _ c hN hcc⟩
/-- sorted(set), a set of texts -/
def rSortedSS (w : World) : List V → Hp → VK → Prop := fun vs H Q => ∃ (a : Addr) (S : Str → Bool) (n : Nat), vs = [.ref a] ∧ H a = some (SetSO w a S n) ∧ n < 64 ∧ ∀ (zs : List Str) (p : Addr), (∀ z, z ∈ zs ↔ S z = true) → zs.length = n → H p = none → Q (.ref p) (upd H p (.lst (zs.map V.str)))
theorem cr_sortedSS (hc : X.calm = true) : CallR X (.builtin "sorted") (rSortedSS X.w) := by
  intro pins s σ H vs us Q I r h
  obtain ⟨a, S, n, rfl, ha, few, q⟩ := h
  have R : SetT X.w s.heap a S n := (I.hok a _ ha).1
  rw [Vals.ref1 r]
  refine sorted_texts R (I.ok.hd hc) few fun s2 z out c zs keep eg eo lz at' are mem len => ?_
  have fz : H z = none := I.hok.fresh lz
  have cap : (zs.map V.str).length ≤ sizeLine := by rw [List.length_map, len, sizeLine_eq]; omega
  have J : Inv X pins σ (upd H z (.lst (zs.map V.str))) { s with heap := s2.heap, gens := s2.gens, drawn := s2.drawn, toks := s2.toks } :=
    I.call (ch := []) (Un.laid keep lz fz) (I.hok.laid keep lz ⟨cap, out.toList, c, vals_of_strs are, at'⟩) (by rw [eg]; exact I.bare) (fun _ k => nomatch k)
  have same : s2 = { s with heap := s2.heap, gens := s2.gens, drawn := s2.drawn, toks := s2.toks } := by
    cases s2; cases s; cases eo; rfl
  rw [same]
  exact ⟨.ref z, _, J, rfl, q zs z mem len fz⟩
end
end EL
namespace EL
open PySem PySem.Spec PyProof.Rows L2
/-! ### < and <= of tuples of numbers and texts -/
def sLt : V → V → Bool
  | .int a, .int b => decide (a < b)
  | .str x, .str y => decide (x.cps.toList < y.cps.toList)
  | _, _ => false
def sLe : V → V → Bool
  | .int a, .int b => decide (a ≤ b)
  | .str x, .str y => !decide (y.cps.toList < x.cps.toList)
  | _, _ => false
def sKin (x y : V) : Prop := (∃ a b, x = .int a ∧ y = .int b) ∨ ∃ a b, x = .str a ∧ y = .str b
theorem skin_eq {A : Around} {s : Shared} {x y : V} {u v : Value} (k : sKin x y) (rx : RelV x u) (ry : RelV y v) : SeqAt.EqAt A s u v (decide (x = y)) := by
  rcases k with ⟨a, b, rfl, rfl⟩ | ⟨a, b, rfl, rfl⟩
  · obtain ⟨t, rfl⟩ := rx
    obtain ⟨t', rfl⟩ := ry
    have z : (a == b) = decide (V.int a = V.int b) := by
      by_cases q : a = b
      · subst q; simp
      · rw [decide_eq_false (fun e => q (V.int.inj e))]; exact beq_eq_false_iff_ne.mpr q
    rw [← z]
    exact SeqAt.EqAt.int_int _ _ _ _
  · obtain ⟨t, rfl⟩ := rx
    obtain ⟨t', rfl⟩ := ry
    have z : (a == b) = decide (V.str a = V.str b) := by
      by_cases q : a = b
      · subst q; simp
      · rw [decide_eq_false (fun e => q (V.str.inj e))]; exact beq_eq_false_iff_ne.mpr q
    rw [← z]
    exact SeqAt.EqAt.str_str _ _ _ _
theorem skin_lt {A : Around} {s : Shared} {x y : V} {u v : Value} (k : sKin x y) (rx : RelV x u) (ry : RelV y v) : Ob.RcOp .Lt A s u v (sLt x y) := by
  rcases k with ⟨a, b, rfl, rfl⟩ | ⟨a, b, rfl, rfl⟩
  · obtain ⟨t, rfl⟩ := rx
    obtain ⟨t', rfl⟩ := ry
    exact Ob.RcOp.lt_int _ _ _ _
  · obtain ⟨t, rfl⟩ := rx
    obtain ⟨t', rfl⟩ := ry
    exact fun _ _ _ _ h => PyProof.Rows.lt_str h
theorem skin_le {A : Around} {s : Shared} {x y : V} {u v : Value} (k : sKin x y) (rx : RelV x u) (ry : RelV y v) : Ob.RcOp .LtE A s u v (sLe x y) := by
  rcases k with ⟨a, b, rfl, rfl⟩ | ⟨a, b, rfl, rfl⟩
  · obtain ⟨t, rfl⟩ := rx
    obtain ⟨t', rfl⟩ := ry
    exact Ob.RcOp.le_int _ _ _ _
  · obtain ⟨t, rfl⟩ := rx
    obtain ⟨t', rfl⟩ := ry
    exact fun _ _ _ _ h => PySem.P.le_str h
theorem vals_at {xs : List V} {us : List Value} (h : Vals xs us) {j : Nat} (h1 : j < us.toArray.size) : ∃ x, xs[j]? = some x ∧ RelV x us.toArray[j] := by
  have hl := h.length
  have h2 : j < us.length := by simpa using h1
  have hx : xs[j]? = some xs[j] := List.getElem?_eq_getElem (by omega)
  obtain ⟨u, hu, rv⟩ := h.get hx
  refine ⟨_, hx, ?_⟩
  have : us.toArray[j] = u := by
    rw [List.getElem_toArray]
    exact Option.some.inj ((List.getElem?_eq_getElem h2).symm.trans hu)
  rw [this]; exact rv
def rTupC (K : PySem.W.Frag) (r : V → V → Bool) (z : Nat → Nat → Bool) : R2 := fun x y H Q => ∃ (a b : Addr) (xs ys : List V), x = .ref a ∧ y = .ref b ∧ SqT K H a xs ∧ SqT K H b ys ∧ (∀ (j : Nat) (x y : V), xs[j]? = some x → ys[j]? = some y → sKin x y) ∧
  Q (.bl (Ob.lexAt (fun j => decide (xs.getD j .non = ys.getD j .non)) (fun j => r (xs.getD j .non) (ys.getD j .non)) (z xs.length ys.length) 0 (min xs.length ys.length))) H
theorem getD_some {xs : List V} {j : Nat} {x : V} (h : xs[j]? = some x) : xs.getD j .non = x := by
  rw [List.getD_eq_getElem?_getD, h]; rfl
theorem op_ltC {X : Cx} (hu : X.A.units < cLine) : OpR X (compareOp .Lt) (rTupC X.K sLt fun i j => decide (i < j)) := by
  intro pins s σ H x y v u Q I rx ry h
  obtain ⟨a, b, xs, ys, rfl, rfl, ha, hb, hk, q⟩ := h
  cases rx
  cases ry
  obtain ⟨its, r1, p1, _⟩ := I.tuple ha
  obtain ⟨its2, r2, p2, _⟩ := I.tuple hb
  have e1 : its.toArray.size = xs.length := by rw [List.size_toArray]; exact r1.length.symm
  have e2 : its2.toArray.size = ys.length := by rw [List.size_toArray]; exact r2.length.symm
  have R := Ob.RcOp.tuples_lt (A := X.A) (s := s) (e := fun j => decide (xs.getD j .non = ys.getD j .non)) (r := fun j => sLt (xs.getD j .non) (ys.getD j .non)) p1 p2 hu (fun j h1 h2 => by
    obtain ⟨x, ex, rx⟩ := vals_at r1 h1
    obtain ⟨y, ey, ry⟩ := vals_at r2 h2
    rw [getD_some ex, getD_some ey]
    exact skin_eq (hk j x y ex ey) rx ry) (fun j h1 h2 _ => by
    obtain ⟨x, ex, rx⟩ := vals_at r1 h1
    obtain ⟨y, ey, ry⟩ := vals_at r2 h2
    rw [getD_some ex, getD_some ey]
    exact skin_lt (hk j x y ex ey) rx ry)
  rw [e1, e2] at R
  have z : wpAny (model X.prog X.w) X.A (compareOp .Lt (.ref a) (.ref b)) (EP X pins σ Q) X.xe s := R X.prog X.w X.xe (EP X pins σ Q) ⟨.bl _, H, I, rfl, q⟩
  exact z
theorem op_leC {X : Cx} (hu : X.A.units < cLine) : OpR X (compareOp .LtE) (rTupC X.K sLe fun i j => decide (i ≤ j)) := by
  intro pins s σ H x y v u Q I rx ry h
  obtain ⟨a, b, xs, ys, rfl, rfl, ha, hb, hk, q⟩ := h
  cases rx
  cases ry
  obtain ⟨its, r1, p1, _⟩ := I.tuple ha
  obtain ⟨its2, r2, p2, _⟩ := I.tuple hb
  have e1 : its.toArray.size = xs.length := by rw [List.size_toArray]; exact r1.length.symm
  have e2 : its2.toArray.size = ys.length := by rw [List.size_toArray]; exact r2.length.symm
  have R := Ob.RcOp.tuples_le (A := X.A) (s := s) (e := fun j => decide (xs.getD j .non = ys.getD j .non)) (r := fun j => sLe (xs.getD j .non) (ys.getD j .non)) p1 p2 hu (fun j h1 h2 => by
    obtain ⟨x, ex, rx⟩ := vals_at r1 h1
    obtain ⟨y, ey, ry⟩ := vals_at r2 h2
    rw [getD_some ex, getD_some ey]
    exact skin_eq (hk j x y ex ey) rx ry) (fun j h1 h2 _ => by
    obtain ⟨x, ex, rx⟩ := vals_at r1 h1
    obtain ⟨y, ey, ry⟩ := vals_at r2 h2
    rw [getD_some ex, getD_some ey]
    exact skin_le (hk j x y ex ey) rx ry)
  rw [e1, e2] at R
  have z : wpAny (model X.prog X.w) X.A (compareOp .LtE (.ref a) (.ref b)) (EP X pins σ Q) X.xe s := R X.prog X.w X.xe (EP X pins σ Q) ⟨.bl _, H, I, rfl, q⟩
  exact z
end EL
namespace KP
open PySem PySem.Spec PyProof.Rows L2 EL
open Evl (pss_cut)
abbrev sIsRowOfSteps : Stmt := topS 42
theorem scIsRowOfSteps : FnScope ["thing", "size", "low", "high", "part"] ["thing", "size"] (defScope sIsRowOfSteps) := ⟨rfl, rfl, rfl, by decide +kernel, rfl, by decide +kernel, by decide +kernel⟩
/-! ### a step by its codes -/
def stp (t : (Nat × Nat) × Int) : PyData := .tuple [.str ⟨#[t.1.1]⟩, .str ⟨#[t.1.2]⟩, .int t.2]
theorem stepD_some {n : Int} {d : PyData} (h : stepD n d = true) : ∃ t : (Nat × Nat) × Int, d = stp t ∧ (okS t.1.1 && okS t.1.2) = true ∧ t.1 ≠ (45, 45) ∧ 0 ≤ t.2 ∧ t.2 < n := by
  cases d with
  | tuple ds =>
    match ds, h with
    | [d0, d1, d2], h =>
      simp only [stepD, Bool.and_eq_true] at h
      obtain ⟨h1, h2, h3⟩ := h
      obtain ⟨p, ep, okp⟩ := (pairD_iff _).mp h1
      obtain ⟨rfl, rfl⟩ : d0 = .str ⟨#[p.1]⟩ ∧ d1 = .str ⟨#[p.2]⟩ := by simpa [pr] using ep
      cases d2 with
      | int i =>
        simp only [stateD, Bool.and_eq_true, decide_eq_true_eq] at h3
        refine ⟨(p, i), rfl, okp, fun z => ?_, h3.1, h3.2⟩
        have z : p = (45, 45) := z
        subst z
        exact absurd h2 (by decide +kernel)
      | _ => cases h3
  | _ => cases h
/-- the order of two steps' signs -/
def ltP : PyData → PyData → Bool
  | .tuple [.str a, .str b, _], .tuple [.str c, .str d, _] => if V.str a = V.str c then decide (b.cps.toList < d.cps.toList) else decide (a.cps.toList < c.cps.toList)
  | _, _ => false
theorem lex_ltP (t u : (Nat × Nat) × Int) :
    Ob.lexAt (fun j => decide (([V.str ⟨#[t.1.1]⟩, V.str ⟨#[t.1.2]⟩] : List V).getD j .non = ([V.str ⟨#[u.1.1]⟩, V.str ⟨#[u.1.2]⟩] : List V).getD j .non)) (fun j => sLt (([V.str ⟨#[t.1.1]⟩, V.str ⟨#[t.1.2]⟩] : List V).getD j .non) (([V.str ⟨#[u.1.1]⟩, V.str ⟨#[u.1.2]⟩] : List V).getD j .non)) (decide (2 < 2)) 0 (min 2 2) = ltP (stp t) (stp u) := by
  show (if decide (V.str ⟨#[t.1.1]⟩ = V.str ⟨#[u.1.1]⟩) = true then (if decide (V.str ⟨#[t.1.2]⟩ = V.str ⟨#[u.1.2]⟩) = true then false else decide ([t.1.2] < [u.1.2])) else decide ([t.1.1] < [u.1.1])) = if V.str ⟨#[t.1.1]⟩ = V.str ⟨#[u.1.1]⟩ then decide ([t.1.2] < [u.1.2]) else decide ([t.1.1] < [u.1.1])
  by_cases e : V.str ⟨#[t.1.1]⟩ = V.str ⟨#[u.1.1]⟩
  · rw [if_pos (decide_eq_true e), if_pos e]
    by_cases e2 : V.str ⟨#[t.1.2]⟩ = V.str ⟨#[u.1.2]⟩
    · rw [if_pos (decide_eq_true e2)]
      have : t.1.2 = u.1.2 := by simpa using e2
      rw [this]
      exact (decide_eq_false (List.lt_irrefl _)).symm
    · rw [if_neg (by simpa using e2)]
  · rw [if_neg (by simpa using e), if_neg e]
def ascP (ds : List PyData) : Bool := ((ds.zip (ds.drop 1)).map fun p => ltP p.1 p.2).all id
def rowD (n : Int) : PyData → Bool
  | .tuple ds => ds.all (stepD n) && ascP ds
  | _ => false

section
variable {P : Program} {w : World} {K : PySem.W.Frag} {mg : Str → Option Value} {base : Heap}
theorem ok_IsRowOfSteps {f : Addr} {fd : FuncData} {k : Nat} (F : Fun K "is_row_of_steps" "is_row_of_steps" sIsRowOfSteps f fd) (nisinstance : mg "isinstance" = none) (ntuple : mg "tuple" = none) (nall : mg "all" = none) (nzip : mg "zip" = none) (CIsStep : Cal P w K mg base k "is_step" ["thing", "size"] (spLookN K stepD)) : FnOk P w K mg base CX0 (k + 1) f fd ["thing", "size"] (spLookN K rowD) := by
  refine F.ok scIsRowOfSteps (fun vs H Q E h => ?_) (fun cdv A outer s H vs Q E hr h => ?_)
  · obtain ⟨v, d, n, rfl, _⟩ := h; rfl
  · obtain ⟨v, d, n, rfl, hd, hz, q⟩ := h
    have hu := hr.units
    have hu1 := hr.units0
    refine ⟨_, (pss_cons (ps_if (PW.pt (pw_or (pt_not (pt_val (pe_callB (show CallR _ _ (rIsi K) from call_isi) (by rfl) nisinstance (by decide +kernel) (pa_cons (pv 0) (pa_cons (pe_tyN (n := "tuple") ntuple (by decide +kernel)) pa_nil))))) (pw_or1 (pt_not (pt_val (pe_callB (cr_all rfl) (by rfl) nall (by decide +kernel) (pa_cons (pe_lc (own := [("part", 4)]) (g := (gName 4)) (by rfl) scIsRowOfSteps.nd (pi_tup (pv 0)) (blkOk_by (own := [("part", 4)]) (N := ["thing", "size", "low", "high", "part"]) (sc := defScope sIsRowOfSteps) (by decide +kernel)) (fun _ _ _ _ _ => (pg_name (i := 4) scIsRowOfSteps.nd rfl (by first | exact Or.inl rfl | exact Or.inr rfl))) (fun _ _ _ _ _ => pts_nil) (fun _ _ _ _ _ => (pe_cal CIsStep hr (by rfl) pass0 (pa_cons (pv 4) (pa_cons (pv 1) pa_nil))))) pa_nil))))))) (pss_one (ps_ret pe_bl)) pss_nil)
      (pss_one (ps_ret (pe_callB (cr_all rfl) (by rfl) nall (by decide +kernel) (pa_cons (pe_lc (own := [("low", 2), ("high", 3)]) (g := (gTup K 2 (gCons (gName 2) (gCons (gName 3) gNil)))) (by rfl) scIsRowOfSteps.nd (RZ.pi_zipA (by rfl) nzip (pa_cons (pv 0) (pa_cons (pe_slice sl_tupA (pv 0) (po_some pe_int) po_none) pa_nil))) (blkOk_by (own := [("low", 2), ("high", 3)]) (N := ["thing", "size", "low", "high", "part"]) (sc := defScope sIsRowOfSteps) (by decide +kernel)) (fun _ _ _ _ _ => (pg_tup (by rfl) (pgs_cons (pg_name (i := 2) scIsRowOfSteps.nd rfl (by first | exact Or.inl rfl | exact Or.inr rfl)) (pgs_cons (pg_name (i := 3) scIsRowOfSteps.nd rfl (by first | exact Or.inl rfl | exact Or.inr rfl)) pgs_nil)))) (fun _ _ _ _ _ => pts_nil) (fun _ _ _ _ _ => (pe_cmpR (show OpR _ _ (rTupC K sLt fun i j => decide (i < j)) from op_ltC (by first | exact hu1 | exact hr.units0)) (pe_slice (show SlR _ (rSlA K) from sl_tupA) (pv 2) po_none (po_some pe_int)) (pe_slice (show SlR _ (rSlA K) from sl_tupA) (pv 3) po_none (po_some pe_int)) (nomark _)))) pa_nil))))), ?_⟩
    refine ⟨v, rfl, v, .ty "tuple", _, _, _, rfl, .ty "tuple", tyx_of hd, kit_ty (kit_tuple d), _, rfl, ?_⟩
    cases d with
    | tuple ds =>
      cases hd with
      | tup hs ha =>
      rename_i a xs
      have hzz : PyData.bulkAll ds ≤ 500000 := hz
      have hlen : xs.length ≤ 500000 := by rw [ha.len]; exact Nat.le_trans (bulk_len ds) hzz
      refine iteF ?_
      refine ⟨.ref a, rfl, a, rfl, ⟨xs, hs⟩, fun D nD => ?_⟩
      refine lc_it walk_tup (LcP D (fun _ H' => Same H H') (fun j v => ∃ e, ds[j]? = some e ∧ v = some (.bl (stepD n e)))) (LcP.start (same_upd nD)) (fun i H' _ p => by obtain ⟨_, _, _, _, sm⟩ := p; exact ex_t' sm hs) ?_ ?_
      · rintro i y H1 H2 hi ⟨ys, hl, hR, hD, sm⟩ ⟨rfl, hy⟩
        obtain ⟨e, ee, he⟩ := ha.at hy
        refine ⟨rfl, ?_⟩
        dsimp only [tYes]
        refine iteT ?_
        refine ⟨y, rfl, _, rfl, y, e, n, rfl, he.up sm, sz_mem hzz e (List.mem_of_getElem? ee), fun H3 sm3 => ?_⟩
        exact lcp_some hl hR (sm3 _ _ hD) (by omega) ⟨e, ee, rfl⟩ fun b o q => by rw [upd_ne (ne_of_none q nD)]; exact sm3 _ _ (sm b o q)
      rintro H1 ⟨ys, hl, hR, hD, sm⟩
      have e1 := rows_map (f := fun e => some (V.bl (stepD n e))) (l := ds) (by rw [hl, ha.len]) hR
      refine ⟨D, ds.map (stepD n), rfl, sqOf (by rw [hD, e1]; simp [List.filterMap_map, Function.comp_def]), _, rfl, ?_⟩
      have e2 : (ds.map (stepD n)).all id = ds.all (stepD n) := by simp [List.all_map, Function.comp_def]
      rw [e2]
      cases hall : ds.all (stepD n) with
      | false =>
        refine iteT ?_
        have := q H1 sm
        simp only [rowD, hall, Bool.false_and] at this
        exact this
      | true =>
        refine iteF ?_
        simp only [rowD, hall, Bool.true_and] at q
        refine ⟨.ref a, rfl, .ref a, rfl, 1, rfl, ?_⟩
        dsimp only [tNoPart]
        refine sl_of (ex_t' sm hs) fun b H2 s2 h2 => ?_
        rw [show cutV xs (some 1) none = xs.drop 1 by rw [show (1 : Int) = ((1 : Nat) : Int) from rfl, cut_dp]] at h2
        have h3 := ex_t' s2 (ex_t' sm hs)
        refine ⟨a, b, _, _, rfl, .inr ⟨h3, h2, fun D2 nD2 => ?_⟩⟩
        have hn : (ds.zip (ds.drop 1)).length = min xs.length (xs.drop 1).length := by simp [ha.len]
        have hb2 := (ha.up sm).up s2
        refine lc_it (walk_zipT hn) (LcP D2 (fun _ H' => Same H2 H') (fun j v => ∃ p, (ds.zip (ds.drop 1))[j]? = some p ∧ v = some (.bl (ltP p.1 p.2)))) (LcP.start (same_upd nD2)) (fun i H' _ p => by obtain ⟨_, _, _, _, sm⟩ := p; exact ⟨ex_t' sm h3, ex_t' sm h2⟩) ?_ ?_
        · rintro i y H3 H4 hi ⟨ys, hl, hR, hD2, sm2⟩ ⟨T, x, z, rfl, nT, rfl, hx, hy⟩
          obtain ⟨dx, ex, hdx⟩ := hb2.at hx
          obtain ⟨dz, ez, hdz⟩ := (hb2.dp 1).at hy
          obtain ⟨t, rfl, _⟩ := stepD_some (List.all_eq_true.mp hall dx (List.mem_of_getElem? ex))
          obtain ⟨u, rfl, _⟩ := stepD_some (List.all_eq_true.mp hall dz (List.mem_of_mem_drop (List.mem_of_getElem? ez)))
          have eT : SqT K (upd H3 T (.tup [x, z])) T [x, z] := stOf upd_same
          have sT := same_upd (o := .tup [x, z]) nT
          have sx := (hdx.up sm2).up sT
          have sz := (hdz.up sm2).up sT
          have gD := sT _ _ hD2
          have lz : (ds.zip (ds.drop 1)).length ≤ 500000 := by rw [List.length_zip, ← ha.len]; omega
          generalize upd H3 T (.tup [x, z]) = H5 at eT sT sx sz gD ⊢
          cases sx with
          | tup s0 a0 =>
          cases sz with
          | tup s1 a1 =>
          cases a0 with
          | cons b0 a0 =>
          cases b0
          cases a0 with
          | cons b1 a0 =>
          cases b1
          cases a0 with
          | cons b2 a0 =>
          cases a0
          cases a1 with
          | cons c0 a1 =>
          cases c0
          cases a1 with
          | cons c1 a1 =>
          cases c1
          cases a1 with
          | cons c2 a1 =>
          cases a1
          refine ⟨T, _, rfl, eT, rfl, _, _, rfl, _, _, rfl, rfl, rfl, ?_⟩
          dsimp only [tYes]
          refine iteT ?_
          have hx2 : ∀ (xs : List V), xs.length = 3 → cutV xs none (some 2) = xs.take 2 := fun xs _ => by
            rw [show (2 : Int) = ((2 : Nat) : Int) from rfl, cut_tk]
          refine ⟨_, rfl, 2, rfl, ?_⟩
          refine sl_of s0 fun p0 G1 t1 g0 => ?_
          rw [hx2 _ rfl] at g0
          have s1 := ex_t' t1 s1
          refine ⟨_, rfl, 2, rfl, ?_⟩
          refine sl_of s1 fun p1 G2 t2 g1 => ?_
          rw [hx2 _ rfl] at g1
          have g0 := ex_t' t2 g0
          have gD2 := t2 _ _ (t1 _ _ gD)
          refine ⟨p0, p1, _, _, rfl, rfl, g0, g1, fun j x y hx hy => ?_, ?_⟩
          · match j, hx, hy with
            | 0, hx, hy => cases hx; cases hy; exact .inr ⟨_, _, rfl, rfl⟩
            | 1, hx, hy => cases hx; cases hy; exact .inr ⟨_, _, rfl, rfl⟩
            | j + 2, hx, _ => cases hx
          refine lcp_some hl hR gD2 (by omega) ⟨(stp t, stp u), List.getElem?_zip_eq_some.mpr ⟨ex, ez⟩, ?_⟩ fun b o q => ?_
          · exact congrArg (fun z => some (V.bl z)) (lex_ltP t u)
          · rw [upd_ne (ne_of_none q nD2)]
            exact t2 _ _ (t1 _ _ (sT _ _ (sm2 b o q)))
        · rintro H3 ⟨ys, hl, hR, hD2, sm2⟩
          have e4 := rows_map (f := fun p : PyData × PyData => some (V.bl (ltP p.1 p.2))) (l := ds.zip (ds.drop 1)) hl hR
          refine ⟨D2, (ds.zip (ds.drop 1)).map (fun p => ltP p.1 p.2), rfl, sqOf (by rw [hD2, e4]; simp [List.filterMap_map, Function.comp_def]), ?_⟩
          exact q H3 (sm.trans (s2.trans sm2))
    | _ => exact iteT (q H (Same.refl H))
end
end KP
namespace KP
open PySem PySem.Spec PyProof.Rows L2 EL
open Evl (pss_cut)
abbrev sIsTupleOfRows : Stmt := topS 43
theorem scIsTupleOfRows : FnScope ["thing", "part"] ["thing"] (defScope sIsTupleOfRows) := ⟨rfl, rfl, rfl, by decide +kernel, rfl, by decide +kernel, by decide +kernel⟩
def rowsD : PyData → Bool
  | .tuple ds => decide (1 ≤ ds.length) && ds.all (rowD (ds.length : Nat))
  | _ => false

section
variable {P : Program} {w : World} {K : PySem.W.Frag} {mg : Str → Option Value} {base : Heap}
theorem ok_IsTupleOfRows {f : Addr} {fd : FuncData} {k : Nat} (F : Fun K "is_tuple_of_rows" "is_tuple_of_rows" sIsTupleOfRows f fd) (nisinstance : mg "isinstance" = none) (ntuple : mg "tuple" = none) (nall : mg "all" = none) (nlen : mg "len" = none) (CIsRowOfSteps : Cal P w K mg base k "is_row_of_steps" ["thing", "size"] (spLookN K rowD)) : FnOk P w K mg base CX0 (k + 1) f fd ["thing"] (spLook K rowsD) := by
  refine F.ok scIsTupleOfRows (fun vs H Q E h => ?_) (fun cdv A outer s H vs Q E hr h => ?_)
  · obtain ⟨v, d, rfl, _⟩ := h; rfl
  · obtain ⟨v, d, rfl, hd, hz, q⟩ := h
    have hu := hr.units
    refine ⟨_, (pss_one (ps_ret (pe_and (pe_callB (show CallR _ _ (rIsi K) from call_isi) (by rfl) nisinstance (by decide +kernel) (pa_cons (pv 0) (pa_cons (pe_tyN (n := "tuple") ntuple (by decide +kernel)) pa_nil))) (pe_and (pe_cmpR op_ge (pe_callB (show CallR _ _ (rLenK K) from call_len) (by rfl) nlen (by decide +kernel) (pa_cons (pv 0) pa_nil)) pe_int (nomark _)) (pe_one (pe_callB (cr_all rfl) (by rfl) nall (by decide +kernel) (pa_cons (pe_lc (own := [("part", 1)]) (g := (gName 1)) (by rfl) scIsTupleOfRows.nd (pi_tup (pv 0)) (blkOk_by (own := [("part", 1)]) (N := ["thing", "part"]) (sc := defScope sIsTupleOfRows) (by decide +kernel)) (fun _ _ _ _ _ => (pg_name (i := 1) scIsTupleOfRows.nd rfl (by first | exact Or.inl rfl | exact Or.inr rfl))) (fun _ _ _ _ _ => pts_nil) (fun _ _ _ _ _ => (pe_cal CIsRowOfSteps hr (by rfl) pass0 (pa_cons (pv 1) (pa_cons (pe_callB (show CallR _ _ (rLenK K) from call_len) (by rfl) nlen (by decide +kernel) (pa_cons (pv 0) pa_nil)) pa_nil))))) pa_nil))))))), ?_⟩
    refine ⟨v, rfl, v, .ty "tuple", _, _, _, rfl, .ty "tuple", tyx_of hd, kit_ty (kit_tuple d), _, rfl, ?_⟩
    cases d with
    | tuple ds =>
      cases hd with
      | tup hs ha =>
      rename_i a xs
      have hzz : PyData.bulkAll ds ≤ 500000 := hz
      have hlen : xs.length ≤ 500000 := by rw [ha.len]; exact Nat.le_trans (bulk_len ds) hzz
      refine iteT ⟨.ref a, rfl, .ref a, (xs.length : Nat), rfl, .inr ⟨xs, hs, rfl⟩, _, _, rfl, rfl, _, rfl, ?_⟩
      by_cases e : ((xs.length : Nat) : Int) ≥ 1
      · rw [decide_eq_true e]
        have e3 : decide (1 ≤ ds.length) = true := decide_eq_true (by rw [← ha.len]; omega)
        simp only [rowsD, e3, Bool.true_and] at q
        refine iteT ?_
        refine ⟨.ref a, rfl, a, rfl, ⟨xs, hs⟩, fun D nD => ?_⟩
        refine lc_it walk_tup (LcP D (fun _ H' => Same H H') (fun j v => ∃ e, ds[j]? = some e ∧ v = some (.bl (rowD (ds.length : Nat) e)))) (LcP.start (same_upd nD)) (fun i H' _ p => by obtain ⟨_, _, _, _, sm⟩ := p; exact ex_t' sm hs) ?_ ?_
        · rintro i y H1 H2 hi ⟨ys, hl, hR, hD, sm⟩ ⟨rfl, hy⟩
          obtain ⟨e, ee, he⟩ := ha.at hy
          refine ⟨rfl, ?_⟩
          dsimp only [tYes]
          refine iteT ?_
          refine ⟨y, rfl, .ref a, rfl, .ref a, xs.length, rfl, .inr ⟨xs, ex_t' sm hs, rfl⟩, y, e, (ds.length : Nat), by rw [ha.len]; rfl, he.up sm, sz_mem hzz e (List.mem_of_getElem? ee), fun H3 sm3 => ?_⟩
          exact lcp_some hl hR (sm3 _ _ hD) (by omega) ⟨e, ee, rfl⟩ fun b o q => by rw [upd_ne (ne_of_none q nD)]; exact sm3 _ _ (sm b o q)
        rintro H1 ⟨ys, hl, hR, hD, sm⟩
        have e1 := rows_map (f := fun e => some (V.bl (rowD (ds.length : Nat) e))) (l := ds) (by rw [hl, ha.len]) hR
        refine ⟨D, ds.map (rowD (ds.length : Nat)), rfl, sqOf (by rw [hD, e1]; simp [List.filterMap_map, Function.comp_def]), ?_⟩
        have e2 : (ds.map (rowD (ds.length : Nat))).all id = ds.all (rowD (ds.length : Nat)) := by simp [List.all_map, Function.comp_def]
        rw [e2]
        exact q H1 sm
      · rw [decide_eq_false e]
        have e3 : decide (1 ≤ ds.length) = false := decide_eq_false (by rw [← ha.len]; omega)
        simp only [rowsD, e3, Bool.false_and] at q
        exact iteF (q H (Same.refl H))
    | _ => exact iteF (q H (Same.refl H))
end
end KP
namespace KP
open PySem PySem.Spec PyProof.Rows L2 EL
open Evl (pss_cut)
abbrev sStepsAt : Stmt := topS 46
theorem scStepsAt : FnScope ["row", "side", "steps", "left", "right", "further", "signs"] ["row", "side"] (defScope sStepsAt) := ⟨rfl, rfl, rfl, by decide +kernel, rfl, by decide +kernel, by decide +kernel⟩
abbrev Stp := (Nat × Nat) × Int
def sdN (t : Stp) : Int := sideN ⟨#[t.1.1]⟩ ⟨#[t.1.2]⟩
/-- a step, and the side behind it -/
def stq (t : Stp) : PyData := .tuple [pr t.1, .tuple [.int t.2, .int (sdN t)]]
def keepD (side : Int) (t : Stp) : Bool := decide (side = 0) || decide (sdN t = side)
def spStepsAt (K : PySem.W.Frag) : Sp := fun vs H Q _ => ∃ (v : V) (side : Int) (ts : List Stp), vs = [v, .int side] ∧ Dq K H v (.tuple (ts.map stp)) ∧ ts.length ≤ 100000 ∧
  ∀ l us H', Same H H' → H l = none → H' l = some (.lst us) → DqAll K H' us ((ts.filter (keepD side)).map stq) → Q (.ref l) H'
theorem dq_stp {K : PySem.W.Frag} {H : Hp} {t : Stp} {x : V} (h : Dq K H x (stp t)) : ∃ a, x = .ref a ∧ SqT K H a [.str ⟨#[t.1.1]⟩, .str ⟨#[t.1.2]⟩, .int t.2] := by
  cases h with
  | tup s0 a0 =>
  cases a0 with
  | cons b0 a0 =>
  cases b0
  cases a0 with
  | cons b1 a0 =>
  cases b1
  cases a0 with
  | cons b2 a0 =>
  cases b2
  cases a0
  exact ⟨_, rfl, s0⟩
theorem dq_tup {K : PySem.W.Frag} {H : Hp} {ds : List PyData} {x : V} (h : Dq K H x (.tuple ds)) : ∃ a xs, x = .ref a ∧ SqT K H a xs ∧ DqAll K H xs ds := by
  cases h with | tup hs ha => exact ⟨_, _, rfl, hs, ha⟩
theorem dq_two {K : PySem.W.Frag} {H : Hp} {d e : PyData} {xs : List V} (h : DqAll K H xs [d, e]) : ∃ x y, xs = [x, y] ∧ Dq K H x d ∧ Dq K H y e := by
  cases h with
  | cons b0 a0 =>
  cases a0 with
  | cons b1 a0 =>
  cases a0
  exact ⟨_, _, rfl, b0, b1⟩
theorem dq_intv {K : PySem.W.Frag} {H : Hp} {n : Int} {x : V} (h : Dq K H x (.int n)) : x = .int n := by cases h; rfl
theorem dq_stq {K : PySem.W.Frag} {H : Hp} {t : Stp} {x : V} (h : Dq K H x (stq t)) : ∃ a p r, x = .ref a ∧ SqT K H a [.ref p, .ref r] ∧ Dq K H (.ref p) (pr t.1) ∧ Dq K H (.ref r) (.tuple [.int t.2, .int (sdN t)]) ∧ SqT K H r [.int t.2, .int (sdN t)] := by
  obtain ⟨a, xs, rfl, hs, ha⟩ := dq_tup h
  obtain ⟨x, y, rfl, hx, hy⟩ := dq_two ha
  obtain ⟨p, ps, rfl, _, _⟩ := dq_tup hx
  obtain ⟨r, rs, rfl, hr, hra⟩ := dq_tup hy
  obtain ⟨u, v, rfl, hu, hv⟩ := dq_two hra
  obtain rfl := dq_intv hu
  obtain rfl := dq_intv hv
  exact ⟨a, p, r, rfl, hs, hx, hy, hr⟩

section
variable {P : Program} {w : World} {K : PySem.W.Frag} {mg : Str → Option Value} {base : Heap}
theorem ok_StepsAt {f : Addr} {fd : FuncData} {k : Nat} (F : Fun K "steps_at" "steps_at" sStepsAt f fd) {tB : Tok} (m_BOTH_SIDES : mg "BOTH_SIDES" = some (.int 0 tB)) (CSideOf : Cal P w K mg base k "side_of" ["left", "right"] spSide) : FnOk P w K mg base CX0 (k + 1) f fd ["row", "side"] (spStepsAt K) := by
  refine F.ok scStepsAt (fun vs H Q E h => ?_) (fun cdv A outer s H vs Q E hr h => ?_)
  · obtain ⟨v, sd, ts, rfl, _⟩ := h; rfl
  · obtain ⟨v, side, ts, rfl, hv, hl, kQ⟩ := h
    have hu := hr.units
    refine ⟨_, (pss_cons (ps_setLc (i := 2) (own := [("left", 3), ("right", 4), ("further", 5)]) (g := (gTup K 3 (gCons (gName 3) (gCons (gName 4) (gCons (gName 5) gNil))))) (by rfl) scStepsAt.nd rfl rfl (sw_true rfl rfl rfl (by decide +kernel)) (pi_tup (pv 0)) (blkOk_by (own := [("left", 3), ("right", 4), ("further", 5)]) (N := ["row", "side", "steps", "left", "right", "further", "signs"]) (sc := defScope sStepsAt) (by decide +kernel)) (fun _ _ _ _ _ => (pg_tup (by rfl) (pgs_cons (pg_name (i := 3) scStepsAt.nd rfl (by first | exact Or.inl rfl | exact Or.inr rfl)) (pgs_cons (pg_name (i := 4) scStepsAt.nd rfl (by first | exact Or.inl rfl | exact Or.inr rfl)) (pgs_cons (pg_name (i := 5) scStepsAt.nd rfl (by first | exact Or.inl rfl | exact Or.inr rfl)) pgs_nil))))) (fun _ _ _ _ _ => pts_nil) (fun _ _ _ _ _ => (pe_tup (pa_cons (pe_tup (pa_cons (pv 3) (pa_cons (pv 4) pa_nil))) (pa_cons (pe_tup (pa_cons (pv 5) (pa_cons (pe_cal CSideOf hr (by rfl) pass0 (pa_cons (pv 3) (pa_cons (pv 4) pa_nil))) pa_nil))) pa_nil)))))
      (pss_one (ps_ret (pe_lc (own := [("signs", 6), ("further", 5)]) (g := (gTup K 2 (gCons (gName 6) (gCons (gName 5) gNil)))) (by rfl) scStepsAt.nd (pi_list (pv 2)) (blkOk_by (own := [("signs", 6), ("further", 5)]) (N := ["row", "side", "steps", "left", "right", "further", "signs"]) (sc := defScope sStepsAt) (by decide +kernel)) (fun _ _ _ _ _ => (pg_tup (by rfl) (pgs_cons (pg_name (i := 6) scStepsAt.nd rfl (by first | exact Or.inl rfl | exact Or.inr rfl)) (pgs_cons (pg_name (i := 5) scStepsAt.nd rfl (by first | exact Or.inl rfl | exact Or.inr rfl)) pgs_nil)))) (fun _ _ _ _ _ => (pts_one (PW.pt (pw_or (pt_cmpR op_eq (pv 1) (pe_glob rfl m_BOTH_SIDES (show RelV (.int 0) (.int 0 tB) from ⟨_, rfl⟩)) (nomark _)) (pw_or1 (pt_cmpR op_eq (pe_ix (show IxR _ (rIxT K) from ix_tup) (pv 5) pe_int (fun _ _ => rfl)) (pv 1) (nomark _))))))) (fun _ _ _ _ _ => (pe_tup (pa_cons (pv 6) (pa_cons (pv 5) pa_nil)))))))), ?_⟩
    have two : 2 ≤ sizeLine := by decide
    obtain ⟨a, xs, rfl, hxs, hxa⟩ : ∃ a xs, v = .ref a ∧ SqT K H a xs ∧ DqAll K H xs (ts.map stp) := by
      cases hv with | tup hs ha => exact ⟨_, _, rfl, hs, ha⟩
    have hxl : xs.length = ts.length := by rw [hxa.len, List.length_map]
    refine ⟨.ref a, rfl, a, rfl, ⟨_, hxs⟩, fun D nD => ?_⟩
    refine lc_it walk_tup (LcG K D H fun i => (ts.take i).map stq) (LcG.start nD rfl) (fun i H' _ L => ex_t' (L.sm nD) hxs) ?_ ?_
    · rintro j v H9 H1 hj L ⟨rfl, hv⟩
      obtain ⟨d, hd, hdq⟩ := hxa.at hv
      obtain ⟨t, ht, rfl⟩ : ∃ t, ts[j]? = some t ∧ d = stp t := by
        rw [List.getElem?_map] at hd
        obtain ⟨t, h1, h2⟩ := Option.map_eq_some_iff.mp hd
        exact ⟨t, h1, h2.symm⟩
      obtain ⟨e, rfl, hab⟩ := dq_stp (hdq.up (L.sm nD))
      have hj2 : j < ts.length := (List.getElem?_eq_some_iff.mp ht).1
      refine ⟨e, _, rfl, hab, rfl, _, _, rfl, _, _, rfl, _, _, rfl, rfl, rfl, ?_⟩
      dsimp only [tYes]
      refine iteT ?_
      refine ⟨_, rfl, _, rfl, two, fun p1 n1 => ?_⟩
      have s1 := same_upd (o := .tup [.str ⟨#[t.1.1]⟩, .str ⟨#[t.1.2]⟩]) n1
      obtain ⟨acc0, gD⟩ := L.at
      have w1 : Dq K (wo D (upd H1 p1 (.tup [.str ⟨#[t.1.1]⟩, .str ⟨#[t.1.2]⟩]))) (.ref p1) (pr t.1) := tup_wo L.at n1 (.cons (.str _) (.cons (.str _) .nil))
      have gD1 := s1 _ _ gD
      dsimp only
      generalize upd H1 p1 (.tup [.str ⟨#[t.1.1]⟩, .str ⟨#[t.1.2]⟩]) = G1 at s1 w1 gD1 ⊢
      refine ⟨_, rfl, _, rfl, _, rfl, _, _, rfl, two, fun p2 n2 => ?_⟩
      rw [show sideN ⟨#[t.1.1]⟩ ⟨#[t.1.2]⟩ = sdN t from rfl]
      have s2 := same_upd (o := .tup [.int t.2, .int (sdN t)]) n2
      have w2 : Dq K (wo D (upd G1 p2 (.tup [.int t.2, .int (sdN t)]))) (.ref p2) (.tuple [.int t.2, .int (sdN t)]) := tup_wo ⟨_, gD1⟩ n2 (.cons (.int _) (.cons (.int _) .nil))
      have w1 := w1.up (same_wo s2)
      have gD2 := s2 _ _ gD1
      dsimp only
      generalize upd G1 p2 (.tup [.int t.2, .int (sdN t)]) = G2 at s2 w1 w2 gD2 ⊢
      refine ⟨two, fun p3 n3 => ?_⟩
      have w3 : Dq K (wo D (upd G2 p3 (.tup [.ref p1, .ref p2]))) (.ref p3) (stq t) := tup_wo ⟨_, gD2⟩ n3 (.cons w1 (.cons w2 .nil))
      exact lcg_some L ((s1.trans s2).trans (same_upd n3)) (by rw [take_snoc ht, List.map_append]; rfl) w3 (by omega)
    rintro H1 L
    have sm := L.sm nD
    obtain ⟨vs, gD, _, ha, hvl⟩ := L.done
    rw [hxl, List.take_length] at ha
    have hvn : vs.length = ts.length := by rw [ha.len, List.length_map]
    have nH1 : ∀ b, H1 b = none → b ≠ D := fun b n e => by rw [e, gD] at n; cases n
    refine ⟨.ref D, rfl, D, rfl, ⟨_, sqOf gD⟩, fun D2 nD2 => ?_⟩
    refine lc_it walk_list (LcG K D2 H1 fun i => ((ts.take i).filter (keepD side)).map stq) (LcG.start nD2 rfl) (fun i H' _ L => sqOf ((L.sm nD2) _ _ gD)) ?_ ?_
    · rintro j v H9 H2 hj L ⟨rfl, hv⟩
      obtain ⟨d, hd, hdq⟩ := ha.at hv
      obtain ⟨t, ht, rfl⟩ : ∃ t, ts[j]? = some t ∧ d = stq t := by
        rw [List.getElem?_map] at hd
        obtain ⟨t, h1, h2⟩ := Option.map_eq_some_iff.mp hd
        exact ⟨t, h1, h2.symm⟩
      have hj2 : j < ts.length := (List.getElem?_eq_some_iff.mp ht).1
      obtain ⟨e, p, r, rfl, hab, hp, hr2, hrs⟩ := dq_stq hdq
      have hab := ex_t' (L.sm nD2) hab
      have hrs := ex_t' (L.sm nD2) hrs
      have sw : Same H1 (wo D2 H2) := by obtain ⟨_, _, _, _, sw⟩ := L; exact sw
      refine ⟨e, _, rfl, hab, rfl, _, _, rfl, _, _, rfl, rfl, rfl, ?_⟩
      have sm2 := L.sm nD2
      have yes : keepD side t = true → (tTup (tCons (tVar 6) (tCons (tVar 5) tNil))) [some (.ref a), some (.int side), some (.ref D), none, none, some (.ref r), some (.ref p)] H2 fun y H4 => ∃ acc, H4 D2 = some (HO.lst acc) ∧ acc.length < sizeLine ∧ LcG K D2 H1 (fun i => ((ts.take i).filter (keepD side)).map stq) (j + 1) (upd H4 D2 (HO.lst (acc ++ [y]))) := fun kp => by
        refine ⟨_, rfl, _, rfl, two, fun p3 n3 => ?_⟩
        refine lcg_some L (same_upd n3) (d := stq t) (by rw [take_snoc ht, List.filter_append, List.map_append, show [t].filter (keepD side) = [t] by simp [kp]]; rfl) (tup_wo L.at n3 (.cons ?_ (.cons ?_ .nil))) (by omega)
        · exact hp.up sw
        · exact hr2.up sw
      refine ⟨_, rfl, rfl, _, rfl, ?_⟩
      by_cases c0 : side = 0
      · rw [decide_eq_true (by rw [c0])]
        refine iteT ?_
        exact yes (by simp [keepD, c0])
      · rw [decide_eq_false (fun z => c0 (V.int.inj z))]
        refine iteF ⟨.ref r, rfl, r, _, _, .int (sdN t), rfl, rfl, hrs, (by rfl), _, rfl, rfl, _, rfl, ?_⟩
        by_cases c1 : sdN t = side
        · rw [decide_eq_true (by rw [c1])]
          refine iteT ?_
          exact yes (by simp [keepD, c1])
        · rw [decide_eq_false (fun z => c1 (V.int.inj z))]
          refine iteF ?_
          exact lcg_none L (Same.refl _) (by rw [take_snoc ht, List.filter_append, show [t].filter (keepD side) = [] by simp [keepD, c0, c1], List.append_nil])
    rintro H2 L
    have sm2 := L.sm nD2
    obtain ⟨us, gD2, _, ha2, _⟩ := L.done
    rw [hvn, List.take_length] at ha2
    exact kQ D2 us H2 (sm.trans sm2) (by
      cases e : H D2 with
      | none => rfl
      | some o => rw [sm _ _ e] at nD2; cases nD2) gD2 ha2
end
end KP
namespace KP
open PySem PySem.Spec PyProof.Rows L2 EL
open Evl (pss_cut)
abbrev sLTexts : Stmt := topS 59
theorem scLTexts : FnScope ["_law_most", "_law_found", "_law_layer", "_law_k", "_law_it"] ["_law_most"] (defScope sLTexts) := ⟨rfl, rfl, rfl, by decide +kernel, rfl, by decide +kernel, by decide +kernel⟩
/-- all texts of just n of these letters, in order -/
def txs (cs : List Nat) : Nat → List (List Nat)
  | 0 => [[]]
  | n + 1 => (txs cs n).flatMap fun s => cs.map fun c => s ++ [c]
/-- all texts of at most n of these letters -/
def fnd (cs : List Nat) : Nat → List (List Nat)
  | 0 => [[]]
  | n + 1 => fnd cs n ++ txs cs (n + 1)
abbrev strV (l : List Nat) : V := .str ⟨l.toArray⟩
theorem txs_len (cs : List Nat) : ∀ (n : Nat), ∀ l ∈ txs cs n, l.length = n
  | 0, l, h => by rw [List.mem_singleton.mp h]; rfl
  | n + 1, l, h => by
    obtain ⟨s, hs, h2⟩ := List.mem_flatMap.mp h
    obtain ⟨c, _, rfl⟩ := List.mem_map.mp h2
    rw [List.length_append, txs_len cs n s hs]; rfl

abbrev ab2 : List Nat := [97, 98]
def spTextsM (K : PySem.W.Frag) : Sp := fun vs H Q _ => ∃ top : Nat, vs = [.int (top : Int)] ∧ top ≤ 8 ∧
  ∀ H' r, Same H H' → H' r = some (.lst ((fnd ab2 top).map strV)) → H r = none → Q (.ref r) H'
theorem txs_bound : ∀ n ≤ 8, 0 < (txs ab2 n).length ∧ (txs ab2 n).length ≤ 1000 ∧ (fnd ab2 n).length ≤ 1000 := by decide +kernel

section
variable {P : Program} {w : World} {K : PySem.W.Frag} {mg : Str → Option Value} {base : Heap}
theorem ok_LTexts {f : Addr} {fd : FuncData} {k : Nat} (F : Fun K "_law_texts" "_law_texts" sLTexts f fd) (nrange : mg "range" = none) (nsum : mg "sum" = none) : FnOk P w K mg base CX0 (k + 1) f fd ["_law_most"] (spTextsM K) := by
  refine F.ok scLTexts (fun vs H Q E h => ?_) (fun cdv A outer s H vs Q E hr h => ?_)
  · obtain ⟨top, rfl, _⟩ := h; rfl
  · obtain ⟨top, rfl, ht, kQ⟩ := h
    have hu := hr.units
    refine ⟨_, (pss_cons (ps_par (i := 1) (j := 2) (by rfl) scLTexts.nd rfl rfl (by decide) rfl rfl (pa_cons (pe_lst (pa_cons pe_str pa_nil)) (pa_cons (pe_lst (pa_cons pe_str pa_nil)) pa_nil)) (by rfl))
      (pss_cons (ps_for PassesOwn.never rfl (pi_range1 rfl nrange (pa_cons (pv 0) pa_nil)) (pg_name (i := 3) scLTexts.nd rfl (by first | exact Or.inl rfl | exact Or.inr rfl)) (pss_cons (ps_set (i := 2) scLTexts.nd rfl (by first | exact Or.inl rfl | exact Or.inr rfl) (pe_callB (show CallR _ _ (rSumL K) from cr_sumL rfl) (by rfl) nsum (by decide +kernel) (pa_cons (pe_lc (own := [("_law_it", 4)]) (g := (gName 4)) (by rfl) scLTexts.nd (pi_list (pv 2)) (blkOk_by (own := [("_law_it", 4)]) (N := ["_law_most", "_law_found", "_law_layer", "_law_k", "_law_it"]) (sc := defScope sLTexts) (by decide +kernel)) (fun _ _ _ _ _ => (pg_name (i := 4) scLTexts.nd rfl (by first | exact Or.inl rfl | exact Or.inr rfl))) (fun _ _ _ _ _ => pts_nil) (fun _ _ _ _ _ => (pe_lst (pa_cons (pe_op op_add_str (pv 4) pe_str) (pa_cons (pe_op op_add_str (pv 4) pe_str) pa_nil))))) (pa_cons (pe_lst pa_nil) pa_nil))))
      (pss_one (ps_set (i := 1) scLTexts.nd rfl (by first | exact Or.inl rfl | exact Or.inr rfl) (pe_op op_cat (pv 1) (pv 2))))))
      (pss_one (ps_ret (pv 1))))), ?_⟩
    have hb : ∀ n ≤ top, 0 < (txs ab2 n).length ∧ (txs ab2 n).length ≤ 1000 ∧ (fnd ab2 n).length ≤ 1000 := fun n h => txs_bound n (by omega)
    generalize hcs : ab2 = cs at kQ hb
    have one : 1 ≤ sizeLine := by decide
    have two : 2 ≤ sizeLine := by decide
    refine ⟨one, fun a na => ?_⟩
    have sA : Same H (upd H a (.lst [.str ""])) := same_upd na
    have gA : upd H a (.lst [.str ""]) a = some (.lst [.str ""]) := upd_same
    generalize upd H a (.lst [.str ""]) = H1 at sA gA ⊢
    refine ⟨one, fun b nb => ?_⟩
    have sB : Same H1 (upd H1 b (.lst [.str ""])) := same_upd nb
    have gB : upd H1 b (.lst [.str ""]) b = some (.lst [.str ""]) := upd_same
    have gA2 := sB _ _ gA
    generalize upd H1 b (.lst [.str ""]) = H2 at sB gB gA2 ⊢
    refine ⟨_, _, rfl, ?_⟩
    refine ⟨_, rfl, (top : Int), rfl, by omega, by omega, ?_⟩
    rw [show ((top : Int)).toNat = top from Int.toNat_natCast top]
    refine for_it walk_range (fun i σ H' => ∃ (f l : Addr) (y4 : Option V), σ = [some (.int (top : Int)), some (.ref f), some (.ref l), y4, none] ∧ Same H H' ∧ H f = none ∧ H' f = some (.lst ((fnd cs i).map strV)) ∧ H' l = some (.lst ((txs cs i).map strV))) ⟨a, b, none, rfl, sA.trans sB, na, gA2, gB⟩ (fun _ _ _ _ _ => trivial) ?_ ?_
    · rintro i v σ H9 H3 hi ⟨f, l, y4, rfl, sm, nf, gf, gl⟩ ⟨rfl, rfl⟩
      obtain ⟨hb1, hb2, hb3⟩ := hb i (by omega)
      refine ⟨.ref l, rfl, l, rfl, ⟨_, sqOf gl⟩, fun D nD => ?_⟩
      refine lc_it walk_list (fun j H' => ∃ bs : List Addr, bs.length = j ∧ H' D = some (.lst (bs.map V.ref)) ∧ (∀ (k : Nat) (c : Addr), bs[k]? = some c → c ≠ D ∧ ∃ t, (txs cs i)[k]? = some t ∧ H' c = some (.lst (cs.map fun e => strV (t ++ [e])))) ∧ Same H3 H') ⟨[], rfl, upd_same, fun k c e => by simp at e, same_upd nD⟩ (fun j H' _ z => by obtain ⟨_, _, _, _, s2⟩ := z; exact sqOf (s2 _ _ gl)) ?_ ?_
      · rintro j v H9 H4 hj ⟨bs, hbl, hD, hbs, s4⟩ ⟨rfl, hv⟩
        obtain ⟨t, htj, rfl⟩ : ∃ t, (txs cs i)[j]? = some t ∧ v = strV t := by
          rw [List.getElem?_map] at hv
          cases e : (txs cs i)[j]? with
          | none => rw [e] at hv; cases hv
          | some t => rw [e] at hv; exact ⟨t, rfl, (Option.some.inj hv).symm⟩
        have htl := txs_len cs i t (List.mem_of_getElem? htj)
        have hj2 : j < (txs cs i).length := by rw [List.length_map] at hj; exact hj
        refine ⟨rfl, ?_⟩
        dsimp only [tYes]
        have zs : sizeLine = 16777216 := by decide
        refine iteT ⟨_, rfl, ⟨t.toArray⟩, ("a" : Str), rfl, rfl, len_sz (by rw [str_len]; show t.length + 1 ≤ _; omega), ?_⟩
        refine ⟨_, rfl, ⟨t.toArray⟩, ("b" : Str), rfl, rfl, len_sz (by rw [str_len]; show t.length + 1 ≤ _; omega), two, fun L nL => ?_⟩
        have nLD : L ≠ D := fun e => by rw [e, hD] at nL; cases nL
        have ea : ∀ (x : Str) (c : Nat), x = ⟨#[c]⟩ → (⟨t.toArray⟩ : Str) ++ x = ⟨(t ++ [c]).toArray⟩ := fun x c hx => by
          rw [hx, str_inj]
          show (t.toArray ++ #[c]).toList = (t ++ [c]).toArray.toList
          simp
        rw [ea "a" 97 (by decide +kernel), ea "b" 98 (by decide +kernel)]
        have hL2 : upd H4 L (.lst [.str ⟨(t ++ [97]).toArray⟩, .str ⟨(t ++ [98]).toArray⟩]) L = some (.lst (cs.map fun e => strV (t ++ [e]))) := by rw [upd_same, ← hcs]; rfl
        have s5 := same_upd (o := .lst [.str ⟨(t ++ [97]).toArray⟩, .str ⟨(t ++ [98]).toArray⟩]) nL
        generalize upd H4 L (.lst [.str ⟨(t ++ [97]).toArray⟩, .str ⟨(t ++ [98]).toArray⟩]) = H5 at hL2 s5 ⊢
        refine ⟨bs.map V.ref, s5 _ _ hD, lt_sz (by rw [List.length_map]; omega), bs ++ [L], by rw [List.length_append, hbl]; rfl, by rw [upd_same, List.map_append]; rfl, fun k c e => ?_, fun b o q => by rw [upd_ne (ne_of_none q nD)]; exact s5 _ _ (s4 b o q)⟩
        by_cases hk : k < bs.length
        · rw [List.getElem?_append_left hk] at e
          obtain ⟨h1, t', h2, h3⟩ := hbs k c e
          exact ⟨h1, t', h2, by rw [upd_ne h1]; exact s5 _ _ h3⟩
        · rw [List.getElem?_append_right (by omega)] at e
          have hk3 : k - bs.length = 0 := by
            cases w : k - bs.length with
            | zero => rfl
            | succ m => rw [w] at e; simp at e
          rw [hk3] at e
          obtain rfl : L = c := by simpa using e
          have hk4 : k = j := by omega
          exact ⟨nLD, t, by rw [hk4]; exact htj, by rw [upd_ne nLD]; exact hL2⟩
      · rintro H4 ⟨bs, hbl, hD, hbs, s4⟩
        rw [List.length_map] at hbl
        have ef : ((txs cs i).map fun t => cs.map fun e => strV (t ++ [e])).flatten = (txs cs (i + 1)).map strV := by
          simp only [txs, List.flatMap_def, List.map_flatten, List.map_map, Function.comp_def]
        obtain ⟨hc1, hc2, hc3⟩ := hb (i + 1) (by omega)
        refine ⟨Nat.zero_le _, fun T nT => ?_⟩
        have s6 : Same H4 (upd H4 T (.lst [])) := same_upd nT
        refine ⟨D, T, bs.map V.ref, (txs cs i).map fun t => cs.map fun e => strV (t ++ [e]), rfl, sqOf (s6 _ _ hD), upd_same, by rw [List.length_map]; omega, by rw [List.length_map, List.length_map]; omega, by rw [ef, List.length_map]; omega, fun k p e => ?_, fun S nS => ?_⟩
        · rw [List.getElem?_map] at e
          cases e2 : (txs cs i)[k]? with
          | none => rw [e2] at e; cases e
          | some t =>
            rw [e2] at e
            obtain rfl := Option.some.inj e
            have hk : k < bs.length := by rw [hbl]; exact (List.getElem?_eq_some_iff.mp e2).1
            obtain ⟨h1, t', h2, h3⟩ := hbs k _ (List.getElem?_eq_getElem hk)
            rw [e2] at h2
            obtain rfl := Option.some.inj h2
            exact ⟨_, by rw [List.getElem?_map, List.getElem?_eq_getElem hk]; rfl, s6 _ _ h3⟩
        rw [ef]
        have s7 : Same H4 (upd (upd H4 T (.lst [])) S (.lst ((txs cs (i + 1)).map strV))) := s6.trans (same_upd nS)
        have gS : upd (upd H4 T (.lst [])) S (.lst ((txs cs (i + 1)).map strV)) S = some (.lst ((txs cs (i + 1)).map strV)) := upd_same
        generalize upd (upd H4 T (.lst [])) S (.lst ((txs cs (i + 1)).map strV)) = H5 at s7 gS ⊢
        have s8 := s4.trans s7
        have hf : fnd cs (i + 1) = fnd cs i ++ txs cs (i + 1) := rfl
        have hl3 : (fnd cs i).length + (txs cs (i + 1)).length = (fnd cs (i + 1)).length := by rw [hf, List.length_append]
        refine ⟨_, rfl, _, rfl, f, S, _, _, rfl, rfl, s8 _ _ gf, gS, len_sz (by rw [List.length_map, List.length_map]; omega), fun p np => ?_⟩
        have s9 := s8.trans (same_upd (o := .lst ((fnd cs i).map strV ++ (txs cs (i + 1)).map strV)) np)
        have nH : H p = none := (sm.trans s8).free np
        refine ⟨p, S, _, rfl, sm.trans s9, nH, by rw [upd_same, hf, List.map_append], ?_⟩
        rw [upd_ne (ne_of_none gS np)]
        exact gS
    · rintro σ H3 ⟨f, l, y4, rfl, sm, nf, gf, gl⟩
      exact ⟨_, rfl, kQ _ _ sm gf nf⟩

end
end KP
namespace KP
open PySem PySem.Spec PyProof.Rows L2 EL
open Evl (pss_cut)
abbrev sPlacesOf : Stmt := topS 47
theorem scPlacesOf : FnScope ["ends", "steps", "ending", "end", "place"] ["ends", "steps"] (defScope sPlacesOf) := ⟨rfl, rfl, rfl, by decide +kernel, rfl, by decide +kernel, by decide +kernel⟩
/-! ### places: a state, a side -/
abbrev P2 := Nat × Int
abbrev k2 (p : P2) : List L2.Key := [.inl (p.1 : Int), .inl p.2]
abbrev v2 (p : P2) : List V := [.int (p.1 : Int), .int p.2]
def plD (p : P2) : PyData := .tuple [.int (p.1 : Int), .int p.2]
theorem noLDs_pl : ∀ ps : List P2, noLDs (ps.map plD) = true
  | [] => rfl
  | p :: r => by
    show (true && noLDs (r.map plD)) = true
    rw [noLDs_pl r]; rfl
theorem _root_.EL.KpT.frzT {H : Hp} {p : Addr} {w : Obj} {vs : List (List L2.Key × V)} {o : HO} (h : H p = some (.frz w (.dT vs))) : EL.KpT H (upd H p o) := fun b xs => ⟨fun e => by rw [upd_ne (fun q => by rw [q, h] at e; cases e)]; exact e, fun o e => by rw [upd_ne (fun q => by rw [q, h] at e; cases e)]; exact e⟩
def spPlacesOf (K : PySem.W.Frag) : Sp := fun vs H Q _ => ∃ (a d : Addr) (ns : List Nat) (n : Nat) (ps : List P2) (kvs : List (List L2.Key × V)), vs = [.ref a, .ref d] ∧ SqT K H a (ns.map fun n : Nat => V.int (n : Int)) ∧ H d = some (.dT kvs) ∧ kvs.map (·.1) = ps.map k2 ∧ ns.length ≤ 100000 ∧ (∀ x ∈ ns, x < n) ∧ n ≤ 100000 ∧ ps.length ≤ 100000 ∧
  ∀ l us H', Same H H' → H l = none → H' l = some (.lst us) → DqAll K H' us ((ps.filter fun p => decide (p.1 ∈ ns)).map plD) → Q (.ref l) H'

section
variable {P : Program} {w : World} {K : PySem.W.Frag} {mg : Str → Option Value} {base : Heap}
theorem ok_PlacesOf {f : Addr} {fd : FuncData} {k : Nat} (F : Fun K "places_of" "places_of" sPlacesOf f fd) : FnOk P w K mg base CX0 (k + 1) f fd ["ends", "steps"] (spPlacesOf K) := by
  refine F.ok scPlacesOf (fun vs H Q E h => ?_) (fun cdv A outer s H vs Q E hr h => ?_)
  · obtain ⟨a, d, ns, n, ps, kvs, rfl, _⟩ := h; rfl
  · obtain ⟨a, d, ns, n, ps, kvs, rfl, hxs, gd, hks, hnl, hss, hn, hpl, kQ⟩ := h
    have hu := hr.units
    have hu1 : (A.deeper (envOfC "places_of" (defScope sPlacesOf) s.heap.objs.size f cdv)).units + 1 < cLine := by omega
    have two : 2 ≤ sizeLine := by decide
    refine ⟨_, (pss_cons (ps_set (i := 2) scPlacesOf.nd rfl (by first | exact Or.inl rfl | exact Or.inr rfl) (pe_dc (own := [("end", 3)]) (g := (gName 3)) (by rfl) scPlacesOf.nd (pi_tup (pv 0)) (blkOk_by (own := [("end", 3)]) (N := ["ends", "steps", "ending", "end", "place"]) (sc := defScope sPlacesOf) (by decide +kernel)) (fun _ _ _ _ _ => (pg_name (i := 3) scPlacesOf.nd rfl (by first | exact Or.inl rfl | exact Or.inr rfl))) (fun _ _ _ _ _ => pts_nil) (fun _ _ _ _ _ => (pv 3)) (fun _ _ _ _ _ => pe_bl)))
      (pss_one (ps_ret (pe_lock (pe_lc (own := [("place", 4)]) (g := (gName 4)) (by rfl) scPlacesOf.nd (pi_keys (pv 1)) (blkOk_by (own := [("place", 4)]) (N := ["ends", "steps", "ending", "end", "place"]) (sc := defScope sPlacesOf) (by decide +kernel)) (fun _ _ _ _ _ => (pg_name (i := 4) scPlacesOf.nd rfl (by first | exact Or.inl rfl | exact Or.inr rfl))) (fun _ _ _ _ _ => (pts_one (pt_cmp (pc_din hu1 (pe_ix (show IxR _ (rIxT K) from ix_tup) (pv 4) pe_int (fun _ _ => rfl)) (pv 2))))) (fun _ _ _ _ _ => (pv 4))))))), ?_⟩
    refine ⟨_, rfl, a, rfl, ⟨_, hxs⟩, fun m nm => ?_⟩
    refine dc_it walk_tup (fun i H' => ∃ M, H' m = some (.dK (oneD M)) ∧ M.Nodup ∧ (∀ p, p ∈ M ↔ p ∈ ns.take i) ∧ Same H H') ⟨[], upd_same, List.nodup_nil, fun p => by simp, same_upd nm⟩ (fun i H' _ z => by obtain ⟨_, _, _, _, sm⟩ := z; exact ex_t' sm hxs) ?_ ?_
    · rintro i v H9 H1 hi ⟨M, gm, nd, hM, sm⟩ ⟨rfl, hv⟩
      obtain ⟨s0, hs0, rfl⟩ : ∃ s0, ns[i]? = some s0 ∧ v = .int (s0 : Int) := by
        rw [List.getElem?_map] at hv
        cases e : ns[i]? with
        | none => rw [e] at hv; cases hv
        | some b => rw [e] at hv; exact ⟨b, rfl, (Option.some.inj hv).symm⟩
      refine ⟨rfl, ?_⟩
      dsimp only [tYes]
      have bM : M.length ≤ n := nodup_len n M nd fun p hp => hss p (List.mem_of_mem_take ((hM p).mp hp))
      refine iteT ⟨_, rfl, oneD M, .inl (s0 : Int), rfl, gm, lt_sz (by rw [List.length_map]; omega), ?_⟩
      have sU : ∀ o, Same H (upd H1 m o) := fun o b x e => by rw [upd_ne (ne_of_none e nm)]; exact sm b x e
      by_cases hin : s0 ∈ M
      · rw [oneD_put' hin]
        refine ⟨M, upd_same, nd, fun p => ?_, sU _⟩
        rw [take_snoc hs0, List.mem_append, hM p]
        constructor
        · exact .inl
        · rintro (h | h)
          · exact h
          · rw [List.mem_singleton.mp h]; exact (hM s0).mp hin
      · rw [oneD_put hin]
        refine ⟨M ++ [s0], upd_same, ?_, fun p => ?_, sU _⟩
        · rw [List.nodup_append]
          exact ⟨nd, by simp, fun x hx y hy e => hin (by rw [List.mem_singleton.mp hy] at e; exact e ▸ hx)⟩
        · rw [take_snoc hs0, List.mem_append, List.mem_append, hM p]
    rintro H1 ⟨M, gm, nd, hM, s1⟩
    rw [List.length_map, List.take_length] at hM
    have gd1 := s1 _ _ gd
    have dm : d ≠ m := ne_of_none gd nm
    have kl : kvs.length = ps.length := by
      have := congrArg List.length hks
      rw [List.length_map, List.length_map] at this
      exact this
    refine ⟨d, .dT kvs, gd1, trivial, fun od => ?_⟩
    have gf : upd H1 d (.frz od (.dT kvs)) d = some (.frz od (.dT kvs)) := upd_same
    have gm1 : upd H1 d (.frz od (.dT kvs)) m = some (.dK (oneD M)) := by rw [upd_ne dm.symm]; exact gm
    have sb : ∀ b o, b ≠ d → H1 b = some o → upd H1 d (.frz od (.dT kvs)) b = some o := fun b o h e => by rw [upd_ne h]; exact e
    have back : ∀ {G : Hp}, Same (upd H1 d (.frz od (.dT kvs))) G → Same H1 (upd G d (.dT kvs)) := fun {G} sm b o e => by
      by_cases ed : b = d
      · subst ed; rw [gd1] at e; cases e; exact upd_same
      · rw [upd_ne ed]; exact sm _ _ (sb b o ed e)
    have nb : ∀ D, upd H1 d (.frz od (.dT kvs)) D = none → H1 D = none ∧ D ≠ d := fun D e => by
      have h : D ≠ d := fun z => by rw [z, upd_same] at e; cases e
      exact ⟨by rw [upd_ne h] at e; exact e, h⟩
    generalize upd H1 d (.frz od (.dT kvs)) = Hb at gf gm1 sb back nb ⊢
    refine ⟨.ref d, rfl, d, od, rfl, .inr ⟨_, gf, fun D nD => ?_⟩⟩
    refine lc_it walk_keysT (LcG K D Hb fun i => ((ps.take i).filter fun p => decide (p.1 ∈ ns)).map plD) (LcG.start nD rfl) (fun i H' _ L => (L.sm nD) _ _ gf) ?_ ?_
    · rintro j v H9 H2 hj L ⟨rfl, k0, v0, q, hkv, rfl, hq⟩
      obtain ⟨p, hp, rfl⟩ : ∃ p, ps[j]? = some p ∧ k0 = k2 p := by
        have h1 : (kvs.map (·.1))[j]? = some k0 := by rw [List.getElem?_map, hkv]; rfl
        rw [hks, List.getElem?_map] at h1
        obtain ⟨p, e1, e2⟩ := Option.map_eq_some_iff.mp h1
        exact ⟨p, e1, e2.symm⟩
      have hj2 : j < ps.length := (List.getElem?_eq_some_iff.mp hp).1
      have hq : H2 q = some (.tup (v2 p)) := hq
      have sw : Same Hb (wo D H2) := by obtain ⟨_, _, _, _, sw⟩ := L; exact sw
      obtain ⟨acc, gD⟩ := L.at
      have qD : q ≠ D := fun e => by rw [e, gD] at hq; cases hq
      have dq : Dq K (wo D H2) (.ref q) (plD p) := .tup (stOf (by rw [wo_ne qD]; exact hq)) (.cons (.int _) (.cons (.int _) .nil))
      refine ⟨rfl, .ref q, rfl, q, _, _, .int (p.1 : Int), rfl, rfl, stOf hq, (by rfl), .ref m, rfl, m, _, rfl, DGet.k (k := .inl (p.1 : Int)) ((L.sm nD) _ _ gm1), _, rfl, ?_⟩
      rw [oneD_get]
      by_cases hin : p.1 ∈ M
      · rw [if_pos hin]
        have hin2 := (hM p.1).mp hin
        exact iteT ⟨_, rfl, lcg_some L (Same.refl _) (d := plD p) (by rw [take_snoc hp, List.filter_append, List.map_append, show [p].filter (fun p => decide (p.1 ∈ ns)) = [p] by simp [hin2]]; rfl) dq (by omega)⟩
      · rw [if_neg hin]
        have hin2 : ¬ p.1 ∈ ns := fun z => hin ((hM p.1).mpr z)
        exact iteF (lcg_none L (Same.refl _) (by rw [take_snoc hp, List.filter_append, show [p].filter (fun p => decide (p.1 ∈ ns)) = [] by simp [hin2], List.append_nil]))
    rintro H2 L
    have sw : Same Hb H2 := L.sm nD
    obtain ⟨us, gD, _, ha, _⟩ := L.done
    rw [kl, List.take_length] at ha
    obtain ⟨nD1, nDd⟩ := nb D nD
    refine ⟨sw _ _ gf, kQ D us _ (s1.trans (back sw)) ?_ (by rw [upd_ne nDd]; exact gD) ?_⟩
    · cases e : H D with
      | none => rfl
      | some o => rw [s1 _ _ e] at nD1; cases nD1
    · exact dqAll_kpt (KpT.frzT (sw _ _ gf)) _ _ ha (noLDs_pl _)
end
end KP
namespace KP
open PySem PySem.Spec PyProof.Rows L2 EL
open Evl (pss_cut)
abbrev sLIsRead : Stmt := topS 58
theorem scLIsRead : FnScope ["_law_sheet_here", "_law_x", "_law_y", "_law_spot", "_law_pair_now", "_law_some", "_law_step"] ["_law_sheet_here", "_law_x", "_law_y"] (defScope sLIsRead) := ⟨rfl, rfl, rfl, by decide +kernel, rfl, by decide +kernel, by decide +kernel⟩
/-! ### a sheet by hand: rows of steps, ends; what it reads -/
def rowPD (ts : List Stp) : PyData := .tuple (ts.map stp)
def sheetD (rows : List (List Stp)) (ends : List Nat) : PyData := .tuple [.tuple (rows.map rowPD), .tuple (ends.map fun n : Nat => .int (n : Int))]
def goN (rows : List (List Stp)) : Nat → List (Nat × Nat) → Option Nat
  | s, [] => some s
  | s, p :: r => ((rows.getD s []).find? fun t => decide (t.1 = p)).bind fun t => goN rows t.2.toNat r
def readN (rows : List (List Stp)) (ends : List Nat) (ps : List (Nat × Nat)) : Bool := match goN rows 0 ps with
  | none => false
  | some s => decide (s ∈ ends)
theorem goN_snoc {rows : List (List Stp)} {p : Nat × Nat} : ∀ {l : List (Nat × Nat)} {s : Nat}, goN rows s (l ++ [p]) = (goN rows s l).bind fun s' => ((rows.getD s' []).find? fun t => decide (t.1 = p)).map fun t => t.2.toNat
  | [], s => by
    show ((rows.getD s []).find? fun t => decide (t.1 = p)).bind (fun t => some t.2.toNat) = ((rows.getD s []).find? fun t => decide (t.1 = p)).map fun t => t.2.toNat
    cases (rows.getD s []).find? fun t => decide (t.1 = p) <;> rfl
  | q :: r, s => by
    show ((rows.getD s []).find? fun t => decide (t.1 = q)).bind (fun t => goN rows t.2.toNat (r ++ [p])) = (((rows.getD s []).find? fun t => decide (t.1 = q)).bind fun t => goN rows t.2.toNat r).bind _
    cases (rows.getD s []).find? fun t => decide (t.1 = q) with
    | none => rfl
    | some t => exact goN_snoc
theorem goN_none {rows : List (List Stp)} : ∀ {l r : List (Nat × Nat)} {s : Nat}, goN rows s l = none → goN rows s (l ++ r) = none
  | [], _, s, h => by cases h
  | q :: l, r, s, h => by
    unfold goN at h
    show ((rows.getD s []).find? fun t => decide (t.1 = q)).bind (fun t => goN rows t.2.toNat (l ++ r)) = none
    cases e : (rows.getD s []).find? fun t => decide (t.1 = q) with
    | none => rfl
    | some t =>
      rw [e] at h
      exact goN_none (l := l) h
theorem eqv_one (a b : Nat × Nat) : PyData.eqv (pr a) (pr b) = decide (a = b) := by
  have := eqv_pr [a] [b]
  simpa [PyData.eqvAll] using this
structure SheetOk (rows : List (List Stp)) (ends : List Nat) : Prop where
  pos : 0 < rows.length
  len : rows.length ≤ 1000
  each : ∀ ts ∈ rows, ts.length ≤ 1000 ∧ ∀ t ∈ ts, t.1.1 < 128 ∧ t.1.2 < 128 ∧ 0 ≤ t.2 ∧ t.2.toNat < rows.length
  en : ends.length ≤ 1000
theorem goN_lt {rows : List (List Stp)} {ends : List Nat} (S : SheetOk rows ends) : ∀ {l : List (Nat × Nat)} {s s' : Nat}, s < rows.length → goN rows s l = some s' → s' < rows.length
  | [], s, s', h, e => by cases e; exact h
  | p :: r, s, s', h, e => by
    unfold goN at e
    cases e2 : (rows.getD s []).find? fun t => decide (t.1 = p) with
    | none => rw [e2] at e; cases e
    | some t =>
      rw [e2] at e
      have ht := List.mem_of_find?_eq_some e2
      have hr : rows.getD s [] ∈ rows := by
        rw [List.getD_eq_getElem?_getD, List.getElem?_eq_getElem h]; exact List.getElem_mem h
      exact goN_lt S ((S.each _ hr).2 t ht).2.2.2 e
theorem keep_steps (p : Nat × Nat) : ∀ ts : List Stp, (ts.map fun t : Stp => if t.1 = p then some (V.int t.2) else none).filterMap id = (ts.filter fun t => decide (t.1 = p)).map fun t => V.int t.2
  | [] => rfl
  | t :: r => by
    have ih := keep_steps p r
    by_cases h : t.1 = p
    · rw [List.map_cons, if_pos h, List.filterMap_cons, List.filter_cons_of_pos (by simp [h]), List.map_cons, ← ih]; rfl
    · rw [List.map_cons, if_neg h, List.filterMap_cons, List.filter_cons_of_neg (by simp [h]), ← ih]; rfl
theorem find_head (p : Nat × Nat) (ts : List Stp) : ts.find? (fun t => decide (t.1 = p)) = (ts.filter fun t => decide (t.1 = p)).head? := by
  rw [List.head?_filter]
theorem inV_nums {M : List Nat} {s : Nat} : inV (.int (s : Int)) (M.map fun n : Nat => V.int (n : Int)) = decide (s ∈ M) := by
  rw [Bool.eq_iff_iff, decide_eq_true_iff]
  simp only [inV, List.any_map, List.any_eq_true, Function.comp_def, eqV]
  constructor
  · rintro ⟨n, hn, e⟩
    have : (n : Int) = (s : Int) := by simpa using e
    have : n = s := by omega
    exact this ▸ hn
  · intro h; exact ⟨s, h, by simp⟩
theorem flat_nums (M : List Nat) : (M.map fun n : Nat => V.int (n : Int)).all flatV = true := by simp [flatV]
def spBeside (K : PySem.W.Frag) : Sp := fun vs H Q _ => ∃ x y : Str, vs = [.str x, .str y] ∧ x.length ≤ 1000 ∧ y.length ≤ 1000 ∧
  ∀ l us H', Same H H' → H' l = some (.lst us) → DqAll K H' us ((rowN x.cps.toList y.cps.toList).map pr) → Q (.ref l) H'
def spIsRead (K : PySem.W.Frag) : Sp := fun vs H Q _ => ∃ (v : V) (x y : Str) (rows : List (List Stp)) (ends : List Nat), vs = [v, .str x, .str y] ∧ Dq K H v (sheetD rows ends) ∧ SheetOk rows ends ∧ x.length ≤ 1000 ∧ y.length ≤ 1000 ∧ (∀ p ∈ rowN x.cps.toList y.cps.toList, p.1 < 128 ∧ p.2 < 128) ∧
  ∀ H', Same H H' → Q (.bl (readN rows ends (rowN x.cps.toList y.cps.toList))) H'

section
variable {P : Program} {w : World} {K : PySem.W.Frag} {mg : Str → Option Value} {base : Heap}
theorem ok_LIsRead {f : Addr} {fd : FuncData} {k : Nat} (F : Fun K "_law_is_read" "_law_is_read" sLIsRead f fd) (CLBeside : Cal P w K mg base k "_law_beside" ["_law_x", "_law_y"] (spBeside K)) : FnOk P w K mg base CX0 (k + 1) f fd ["_law_sheet_here", "_law_x", "_law_y"] (spIsRead K) := by
  refine F.ok scLIsRead (fun vs H Q E h => ?_) (fun cdv A outer s H vs Q E hr h => ?_)
  · obtain ⟨v, x, y, rows, ends, rfl, _⟩ := h; rfl
  · obtain ⟨v, x, y, rows, ends, rfl, hv, S, hx, hy, hlt, kQ⟩ := h
    have hu := hr.units
    refine ⟨_, (pss_cons (ps_set (i := 3) scLIsRead.nd rfl (by first | exact Or.inl rfl | exact Or.inr rfl) pe_int)
      (pss_cons (ps_for PassesOwn.never rfl (pi_list (pe_cal CLBeside hr (by rfl) pass0 (pa_cons (pv 1) (pa_cons (pv 2) pa_nil)))) (pg_name (i := 4) scLIsRead.nd rfl (by first | exact Or.inl rfl | exact Or.inr rfl)) (pss_cons (ps_setLc (i := 5) (own := [("_law_step", 6)]) (g := (gName 6)) (by rfl) scLIsRead.nd rfl rfl (sw_true rfl rfl rfl (by decide +kernel)) (pi_tup (pe_ix (show IxR _ (rIxT K) from ix_tup) (pe_ix (show IxR _ (rIxT K) from ix_tup) (pv 0) pe_int (fun _ _ => rfl)) (pv 3) (fun _ _ => rfl))) (blkOk_by (own := [("_law_step", 6)]) (N := ["_law_sheet_here", "_law_x", "_law_y", "_law_spot", "_law_pair_now", "_law_some", "_law_step"]) (sc := defScope sLIsRead) (by decide +kernel)) (fun _ _ _ _ _ => (pg_name (i := 6) scLIsRead.nd rfl (by first | exact Or.inl rfl | exact Or.inr rfl))) (fun _ _ _ _ _ => (pts_one (pt_cmpR (show OpR _ _ (rEqD K) from op_eqD hu) (pe_slice (show SlR _ (rSlA K) from sl_tupA) (pv 6) po_none (po_some pe_int)) (pv 4) (nomark _)))) (fun _ _ _ _ _ => (pe_ix (show IxR _ (rIxT K) from ix_tup) (pv 6) pe_int (fun _ _ => rfl))))
      (pss_cons (ps_if (pt_cmpR (op_eqN hr.units0) (pv 5) (pe_lst pa_nil) (nomark _)) (pss_one (ps_ret pe_bl)) pss_nil)
      (pss_one (ps_set (i := 3) scLIsRead.nd rfl (by first | exact Or.inl rfl | exact Or.inr rfl) (pe_ix (show IxR _ (rIxL K) from ix_list) (pv 5) pe_int (fun _ _ => rfl)))))))
      (pss_one (ps_ret (pe_cmpR op_in_seq (pv 3) (pe_ix (show IxR _ (rIxT K) from ix_tup) (pv 0) pe_int (fun _ _ => rfl)) (by rfl)))))), ?_⟩
    obtain ⟨a, xs, rfl, hxs, hxa⟩ := dq_tup hv
    obtain ⟨vr, ve, rfl, hvr, hve⟩ := dq_two hxa
    obtain ⟨ar, xr, rfl, hsr, har⟩ := dq_tup hvr
    obtain ⟨ae, xe, rfl, hse, hae⟩ := dq_tup hve
    obtain rfl := dqAll_nums hae
    refine ⟨.str x, rfl, .str y, rfl, x, y, rfl, hx, hy, fun l us H1 s1 gl dl => ?_⟩
    generalize hps : rowN x.cps.toList y.cps.toList = ps at dl hlt kQ
    have ul : us.length = ps.length := by rw [dl.len, List.length_map]
    refine ⟨l, rfl, ⟨us, sqOf gl⟩, ?_⟩
    refine for_it walk_list (fun j σ H' => ∃ (s0 : Nat) (y4 y5 : Option V), σ = [some (.ref a), some (.str x), some (.str y), some (.int (s0 : Int)), y4, y5, none] ∧ Same H1 H' ∧ goN rows 0 (ps.take j) = some s0)
      ⟨0, none, none, rfl, Same.refl _, rfl⟩ (fun j H' σ _ z => by obtain ⟨_, _, _, _, sm, _⟩ := z; exact sqOf (sm _ _ gl)) ?_ ?_
    · rintro j v σ H9 H2 hj ⟨s0, y4, y5, rfl, sm, hg⟩ ⟨rfl, hv⟩
      obtain ⟨d, hd, dv⟩ := dl.at hv
      obtain ⟨p, hp, rfl⟩ : ∃ p, ps[j]? = some p ∧ d = pr p := by
        rw [List.getElem?_map] at hd
        obtain ⟨p, e1, e2⟩ := Option.map_eq_some_iff.mp hd
        exact ⟨p, e1, e2.symm⟩
      have hs0 := goN_lt S S.pos hg
      have s12 := s1.trans sm
      obtain ⟨ts, hts⟩ : ∃ ts, rows[s0]? = some ts := ⟨_, List.getElem?_eq_getElem hs0⟩
      have mts := List.mem_of_getElem? hts
      have tsG : rows.getD s0 [] = ts := by rw [List.getD_eq_getElem?_getD, hts]; rfl
      obtain ⟨hs1, hs2⟩ := S.each ts mts
      have xl : xr.length = rows.length := by rw [har.len, List.length_map]
      obtain ⟨vt, hvt⟩ : ∃ vt, xr[s0]? = some vt := ⟨_, List.getElem?_eq_getElem (by omega)⟩
      obtain ⟨dt, hdt, dvt⟩ := har.at hvt
      rw [List.getElem?_map, hts] at hdt
      obtain rfl : rowPD ts = dt := Option.some.inj hdt
      obtain ⟨at', xt, rfl, hst, hat⟩ := dq_tup dvt
      have tl' : xt.length = ts.length := by rw [hat.len, List.length_map]
      have lp := hlt p (List.mem_of_getElem? hp)
      refine ⟨.ref a, rfl, a, _, _, .ref ar, rfl, rfl, ex_t' s12 hxs, (by rfl), .int (s0 : Int), rfl, ar, _, _, .ref at', rfl, rfl, ex_t' s12 hsr, atI_nat hvt, at', rfl, ⟨_, ex_t' s12 hst⟩, fun D nD => ?_⟩
      refine lc_it walk_tup (LcP D (fun _ H' => Same H2 H') (fun j v => ∃ t, ts[j]? = some t ∧ v = if t.1 = p then some (V.int t.2) else none)) (LcP.start (same_upd nD)) (fun i H' _ z => by obtain ⟨_, _, _, _, sm⟩ := z; exact ex_t' sm (ex_t' s12 hst)) ?_ ?_
      · rintro i w9 H3 H4 hi ⟨ys, hl, hR, hD, s24⟩ ⟨rfl, hw⟩
        obtain ⟨dw, hdw, dw'⟩ := hat.at hw
        obtain ⟨t, ht, rfl⟩ : ∃ t, ts[i]? = some t ∧ dw = stp t := by
          rw [List.getElem?_map] at hdw
          obtain ⟨t, e1, e2⟩ := Option.map_eq_some_iff.mp hdw
          exact ⟨t, e1, e2.symm⟩
        have hi2 : i < ts.length := (List.getElem?_eq_some_iff.mp ht).1
        obtain ⟨c1, c2, c3, c4⟩ := hs2 t (List.mem_of_getElem? ht)
        obtain ⟨q, rfl, hq⟩ := dq_stp ((dw'.up s12).up s24)
        refine ⟨rfl, _, rfl, 2, rfl, ?_⟩
        refine sl_of hq fun p0 G1 t1 g0 => ?_
        rw [show (2 : Int) = ((2 : Nat) : Int) from rfl, cut_tk] at g0
        have d0 : Dq K G1 (.ref p0) (pr t.1) := .tup g0 (.cons (.str _) (.cons (.str _) .nil))
        have d1 := ((dv.up sm).up s24).up t1
        refine ⟨v, rfl, _, _, dp_of _ _ d0 (noDict_one _), dp_of _ _ d1 (noDict_one _), shaped_one c1 c2, shaped_one lp.1 lp.2, _, rfl, ?_⟩
        rw [eqv_one]
        have sG : Same H2 (upd G1 D (.lst [])) → True := fun _ => trivial
        by_cases e : t.1 = p
        · rw [decide_eq_true e]
          refine iteT ⟨_, rfl, q, _, _, .int t.2, rfl, rfl, ex_t' t1 hq, (by rfl), ?_⟩
          exact lcp_some hl hR (t1 _ _ hD) (by omega) ⟨t, ht, by rw [if_pos e]⟩ fun b o z => by rw [upd_ne (ne_of_none z nD)]; exact t1 _ _ (s24 b o z)
        · rw [decide_eq_false e]
          exact iteF (lcp_none hl hR (t1 _ _ hD) ⟨t, ht, by rw [if_neg e]⟩ fun b o z => t1 _ _ (s24 b o z))
      rintro H3 ⟨ys, hl, hR, hD, s23⟩
      have ey := rows_map (f := fun t : Stp => if t.1 = p then some (V.int t.2) else none) (l := ts) (by rw [hl, tl']) hR
      rw [ey, keep_steps] at hD
      have gs : goN rows 0 (ps.take (j + 1)) = ((ts.filter fun t => decide (t.1 = p)).head?).map fun t => t.2.toNat := by
        rw [take_snoc hp, goN_snoc, hg]
        show ((rows.getD s0 []).find? fun t => decide (t.1 = p)).map _ = _
        rw [tsG, find_head]
      have mem : ∀ t ∈ ts.filter (fun t => decide (t.1 = p)), 0 ≤ t.2 := fun t ht => (hs2 t (List.mem_filter.mp ht).1).2.2.1
      generalize ts.filter (fun t => decide (t.1 = p)) = fs at hD gs mem
      refine ⟨.ref D, rfl, by show 0 ≤ sizeLine; decide, fun l2 nl2 => ?_⟩
      have s4 := same_upd (o := .lst []) nl2
      have g4 : upd H3 l2 (.lst []) l2 = some (.lst []) := upd_same
      have hD := s4 _ _ hD
      generalize upd H3 l2 (.lst []) = H4 at s4 g4 hD ⊢
      refine ⟨D, l2, _, rfl, rfl, sqOf hD, sqOf g4, _, rfl, ?_⟩
      have s14 := (s12.trans s23).trans s4
      cases fs with
      | nil =>
        rw [show decide (List.map (fun t : Stp => V.int t.2) [] = []) = true from decide_eq_true rfl]
        refine iteT ?_
        have : readN rows ends ps = false := by
          unfold readN
          have e := goN_none (r := ps.drop (j + 1)) gs
          rw [List.take_append_drop] at e
          rw [e]
        rw [this] at kQ
        exact kQ H4 s14
      | cons t r =>
        rw [show decide (List.map (fun t : Stp => V.int t.2) (t :: r) = []) = false from decide_eq_false (by simp)]
        refine iteF ⟨.ref D, rfl, ?_⟩
        have e0 : V.int t.2 = V.int ((t.2.toNat : Nat) : Int) := by rw [Int.toNat_of_nonneg (mem t List.mem_cons_self)]
        refine ⟨D, _, 0, .int t.2, rfl, rfl, sqOf hD, (show atI _ ((0 : Nat) : Int) = _ from atI_nat (by rfl)), ?_⟩
        rw [e0]
        exact ⟨t.2.toNat, some v, _, rfl, (sm.trans s23).trans s4, gs⟩
    · rintro σ H2 ⟨s0, y4, y5, rfl, sm, hg⟩
      rw [ul, List.take_length] at hg
      have s12 := s1.trans sm
      refine ⟨.int (s0 : Int), rfl, .ref a, rfl, a, _, _, .ref ae, rfl, rfl, ex_t' s12 hxs, (by rfl), ?_⟩
      have rd : readN rows ends ps = decide (s0 ∈ ends) := by unfold readN; rw [hg]
      rw [rd] at kQ
      refine ⟨ae, _, rfl, .inr (ex_t' s12 hse), rfl, flat_nums _, ?_⟩
      rw [if_neg (by decide), inV_nums]
      exact kQ H2 s12
end
end KP
namespace EL
open PySem PySem.Spec PyProof.Rows L2
/-! ### one sign, so often: none too -/
def rRep1 : R2 := fun x y H Q => ∃ (c n : Nat), x = .str ⟨#[c]⟩ ∧ y = .int (n : Int) ∧ n ≤ 1000000 ∧ Q (.str ⟨(List.replicate n c).toArray⟩) H
theorem fold_sign (c : Nat) : ∀ (n : Nat) (acc : Array Nat), (List.foldl (fun x1 x2 => x1 ++ x2) acc (List.replicate n #[c])).toList = acc.toList ++ List.replicate n c
  | 0, acc => by simp
  | n + 1, acc => by
    rw [List.replicate_succ, List.foldl_cons, fold_sign c n, List.replicate_succ]
    simp
theorem op_rep1 {X : Cx} : OpR X (binaryOp .Mult) rRep1 := by
  intro pins s σ H x y v u Q I rx ry h
  obtain ⟨c, n, rfl, rfl, hn, q⟩ := h
  obtain ⟨t, rfl⟩ := rx
  obtain ⟨t', rfl⟩ := ry
  have c0 : (decide ((n : Int) < -(2 ^ 63 : Int)) || decide ((n : Int) ≥ 2 ^ 63)) = false := by
    rw [decide_eq_false (by omega), decide_eq_false (by omega)]; rfl
  have l1 : (⟨#[c]⟩ : Str).length = 1 := rfl
  have zs : sizeLine = 16777216 := by decide
  refine P.mul_str c0 (fun h1 _ => ?_) (fun _ _ => ?_) ?_
  · have e : (2 : Int) ^ 63 - 1 = 9223372036854775807 := by decide
    rw [e, l1]
    have := Int.le_ediv_of_mul_le (a := 1) (b := 9223372036854775807) (c := (n : Int)) (by omega) (by omega)
    omega
  · rw [l1]
    exact decide_eq_false (by omega)
  · by_cases h0 : (n : Int) < 1
    · rw [if_pos h0]
      have : n = 0 := by omega
      subst this
      exact ⟨by decide, ⟨.str _, H, I.tok _, ⟨_, rfl⟩, q⟩⟩
    · rw [if_neg h0]
      by_cases h1 : n = 1
      · subst h1
        rw [if_pos (show (((1 : Nat) : Int) == 1 || (⟨#[c]⟩ : Str).length == 0) = true from rfl)]
        exact ⟨.str _, H, I, ⟨_, rfl⟩, q⟩
      · have c1 : ((n : Int) == 1 || (⟨#[c]⟩ : Str).length == 0) = false := by
          rw [Bool.or_eq_false_iff]
          exact ⟨by simpa using (by omega : (n : Int) ≠ 1), by rw [l1]; rfl⟩
        rw [if_neg (by rw [c1]; exact Bool.false_ne_true)]
        have e : (⟨(List.replicate (n : Int).toNat (⟨#[c]⟩ : Str).cps).foldl (· ++ ·) #[]⟩ : Str) = ⟨(List.replicate n c).toArray⟩ := by
          rw [Int.toNat_natCast]
          exact congrArg (fun z => (⟨z⟩ : Str)) (Array.ext' (by
            show (List.foldl (fun x1 x2 => x1 ++ x2) #[] (List.replicate n #[c])).toList = _
            rw [fold_sign]; rfl))
        rw [e]
        refine ⟨?_, ⟨.str _, H, I.tok _, ⟨_, rfl⟩, q⟩⟩
        show (List.replicate n c).toArray.size ≤ sizeLine
        rw [List.size_toArray, List.length_replicate]
        omega
end EL
/-! A lambda with parameters, handed to a def that calls it by its parameter's name. -/
namespace EL
open PySem PySem.Spec PyProof.Rows L2 LamX NdefX
/-- a lambda as it was made -/
structure LF where
  qual : Str
  params : Arguments
  body : Expr
  scope : Scope
  cl : List (Str × Addr)
  c : Addr
abbrev LF.nf (F : LF) : NF := ⟨"<lambda>", F.qual, F.params, [], F.scope, F.cl, F.c⟩
abbrev LF.fn (F : LF) (pm ctv : Value) : FuncData := PySem.W.kla_fn "<lambda>" F.qual F.params F.body F.scope F.cl pm (.ref F.c) ctv
/-- the lambda stands at f, with what its cells hold, where the frames outer run -/
structure LamAt (F : LF) (fr : List Str) (ws : List (Option V)) (f : Addr) (outer : List Env) (s : Shared) (H : Hp) : Prop where
  obj : ∃ pm ctv, s.heap.get? f = some (PySem.W.kla_obj "<lambda>" F.qual F.params F.body F.scope F.cl pm F.c ctv)
  un : H f = none
  out : f ∉ frs outer
  code : H F.c = some (CodeO F.c F.qual)
  cells : CellsAt F.cl fr ws s.heap H
section
variable {X : Cx} {pins : List (Addr × Obj)} {σ : L2.St} {H : Hp} {s : Shared} {F : LF} {fr : List Str} {ws : List (Option V)} {f : Addr}
/-- what stood where the running frame began stands still -/
theorem LamAt.later (L : LamAt F fr ws f X.outer X.s_0 X.H_0) (hex : X.ex = []) (I : Inv X pins σ H s) (hc : H F.c = some (CodeO F.c F.qual)) : LamAt F fr ws f X.stack s H := by
  have nx : ∀ b : Addr, b ∉ X.ex := fun b z => by rw [hex] at z; cases z
  obtain ⟨pm, ctv, ho⟩ := L.obj
  refine ⟨⟨pm, ctv, I.base.keep f _ ho L.un L.out (nx f)⟩, I.base.free f _ ho L.un (nx f), fun z => ?_, hc, L.cells.len, fun y c e => ?_, L.cells.inj, fun i y e => ?_⟩
  · rcases List.mem_cons.mp (I.stkSub f z) with e | e
    · have h1 := I.ok.above
      rw [← e] at h1
      exact absurd (Heap.lt_size ho) (Nat.not_lt.mpr h1)
    · exact L.out e
  · obtain ⟨n, v, o, e1, e2⟩ := L.cells.all y c e
    obtain ⟨sl, q⟩ := I.base.any e1 n (nx c)
    exact ⟨I.base.free c o e1 n (nx c), v, _, q, e2⟩
  · obtain ⟨c, hc2, hv⟩ := L.cells.has i y e
    refine ⟨c, hc2, fun v ev => ?_⟩
    obtain ⟨u, r, o, e1, e2⟩ := hv v ev
    obtain ⟨sl, q⟩ := I.base.any e1 (L.cells.all y c hc2).1 (nx c)
    exact ⟨u, r, _, q, e2⟩
end
/-- the promise of a lambda: sp ws, ws what its cells hold -/
structure LOk (P : Program) (w : World) (K : PySem.W.Frag) (mg : Str → Option Value) (base : Heap) (CX : CXT) (k : Nat) (f : Addr) (F : LF) (ps fr : List Str) (sp : List (Option V) → Sp) : Prop where
  len : ∀ ws vs H Q E, sp ws vs H Q E → vs.length = ps.length
  run : ∀ (A : Around) (outer : List Env) (s : Shared) (H : Hp) (us : List Value) (vs : List V) (ws : List (Option V)) (Q : VK) (E : XK), Room k A → Env0 P w K mg base A outer s H → LamAt F fr ws f outer s H → Vals vs us → sp ws vs H Q E →
    codeAny (model P w) A (.call (.ref f) ⟨us, []⟩) (CR CX outer P w H s Q E) s
section
variable {CX : CXT} {P : Program} {w : World} {K : PySem.W.Frag} {mg : Str → Option Value} {base : Heap} {N ps fr : List Str} {F : LF} {f : Addr} {k j : Nat} {sp sp' : List (Option V) → Sp}
theorem LOk.mono (o : LOk P w K mg base CX j f F ps fr sp) (h : j ≤ k) : LOk P w K mg base CX k f F ps fr sp := ⟨o.len, fun A outer s H us vs ws Q E hr => o.run A outer s H us vs ws Q E (hr.mono h)⟩
/-- by its body -/
theorem lok_of (S : NScope N ps fr F.scope) (hb : ∀ (pm ctv : Value) (us : List Value), us.length = ps.length → bindArgs (F.fn pm ctv) ⟨us, []⟩ = pure (ps.zip us)) (len : ∀ ws vs H Q E, sp ws vs H Q E → vs.length = ps.length)
    (hbody : ∀ (A : Around) (outer : List Env) (s : Shared) (H : Hp) (vs : List V) (ws : List (Option V)) (Q : VK) (E : XK), Room k (A.deeper (envF F.nf f s.heap.objs.size)) → ws.length = fr.length → sp ws vs H Q E →
      ∃ t, PE (ncx CX P w K mg base N F.nf f A outer s H E) F.body t ∧ t (startF N vs ws) H Q) :
    LOk P w K mg base CX (k + 1) f F ps fr sp := by
  refine ⟨len, fun A outer s H us vs ws Q E hr e0 L rv hsp => ?_⟩
  have nv := len _ _ _ _ _ hsp
  have lim : s.heap.NoLimit := e0.mod.nolimit.keeps fun b o e => (e0.bs b o e).1
  obtain ⟨pm, ctv, ho⟩ := L.obj
  obtain ⟨⟨oc, cvs, t0, h1, h2, h3⟩, _, _⟩ := e0.hok F.c _ L.code
  refine PySem.W.kla_callFunE hr.depth ho rfl S.co S.gen rfl ⟨F.c, oc, cvs, t0, rfl, h1, h2, h3⟩ ?_
  rw [hb pm ctv us (by rw [← rv.length]; exact nv)]
  refine wpAny_pure (wpAny_newFunctionEnv S.nocell (fun ⟨n, _⟩ hy => S.par n (List.of_mem_zip hy).1) (fun h₁ hns hsb => ⟨lim.fresh _ hsb, ?_⟩) S.kind)
  show codeAny _ _ (.expr F.body (envF F.nf f s.heap.objs.size)) _ _
  have kp : ∀ b o, s.heap.get? b = some o → h₁.get? b = some o := fun b o e => hsb.extBut b o (Nat.ne_of_lt (Heap.lt_size e)) (Heap.get?_push_of_some _ e)
  obtain ⟨t, ht, hq⟩ := hbody A outer s H vs ws Q E (hr.deeper _) L.cells.len hsp
  have I : Inv (ncx CX P w K mg base N F.nf f A outer s H E) [] (startF N vs ws) H { s with heap := h₁, toks := s.toks + (ps.zip us).length } := inv_startN S hr.hd e0 nv rv L.cells hns kp
  refine PySem.W.kla_codeExpr (wpAny_mono (ht.run [] _ (startF N vs ws) H Q I hq) (fun v s2 h9 => ?_) fun e s2 h9 => h9)
  obtain ⟨v9, H9, J, r9, q9⟩ := h9
  exact ⟨v9, H9, J.os, J.bare, J.base, J.hok, r9, q9⟩
end
/-- x(..), x a parameter that holds the lambda F -/
def tCallL (F : LF) (f : Addr) (ws : List (Option V)) (i : Nat) (sp : List (Option V) → Sp) (E : XK) (t : TA) : TE := fun σ H Q => σ[i]? = some (some (.ref f)) ∧ t σ H fun vs H1 => H1 F.c = some (CodeO F.c F.qual) ∧ sp ws vs H1 Q E
section
variable {X : Cx} {CX : CXT} {F : LF} {f : Addr} {ps fr : List Str} {ws : List (Option V)} {i j k : Nat} {x : Str} {sp : List (Option V) → Sp} {E : XK} {t : TA} {e : Expr} {es : List Expr} {p pos : Pos}
theorem pe_callL (L : LamAt F fr ws f X.outer X.s_0 X.H_0) (hex : X.ex = []) (Fn : LOk X.prog X.w X.K X.mg X.base CX k f F ps fr sp) (hr : Room j X.A) (hk : k ≤ j) (hx : Passes CX X E) (hN : X.N[i]? = some x) (hv : Vis X.env.scope x) (ha : PA X (e :: es) t)
    (hd : (x == ("__debug__" : Str)) = false := by decide) (hcd : (x == ("__classdict__" : Str)) = false := by decide)
    (he : starEach (e :: es) X.env = (false, eval e X.env) :: starEach es X.env := by rfl) (hpl : (backTo pos (starEach es X.env)).any (·.1) = false := by rfl) :
    PE X (.Call (.Name x p) (e :: es) [] pos) (tCallL F f ws i sp E t) := by
  refine ⟨fun pins s σ H Q I h => ?_⟩
  obtain ⟨hs, ht⟩ := h
  refine wpAny_Call_Name_kw (thn ((pe_var (pos := p) hN hv hd hcd).run pins s σ H (fun v H1 => v = .ref f ∧ H1 = H) I ⟨.ref f, hs, rfl, rfl⟩) fun u s1 ⟨v, H1, I1, r1, q1⟩ => ?_)
  obtain ⟨rfl, rfl⟩ := q1
  obtain rfl : u = Value.ref f := r1
  have nx : ∀ b : Addr, b ∉ X.ex := fun b z => by rw [hex] at z; cases z
  obtain ⟨pm, ctv, ho⟩ := L.obj
  have stays : ∀ {σ' : L2.St} {H' : Hp} {s' : Shared}, Inv X pins σ' H' s' → PySem.W.FnAt f s'.heap := fun J => ⟨_, _, _, _, J.base.keep f _ ho L.un L.out (nx f)⟩
  refine PySem.W.callWith_F (first := []) (stays I1) (thn (ha.run pos pins s1 σ _ _ I1 ht) fun us s2 h2 => ?_) he hpl
  obtain ⟨vs, H2, I2, r, hc, q⟩ := h2
  refine ⟨stays I2, ?_⟩
  show wpAny _ _ (call (.ref f) us) _ _ _
  refine wpAny_call (codeAny_mono (Fn.run X.A X.stack s2 H2 us vs ws Q E (hr.mono hk) I2.env0 (L.later hex I2 hc) r q) fun r3 s3 h3 => ?_)
  match r3, h3 with
  | .error e, h3 => exact hx pins σ H2 s2 e s3 I2 h3
  | .ok (.ret u), h3 => exact I2.after h3
  | .ok .next, h3 => exact h3.elim
  | .ok .brk, h3 => exact h3.elim
  | .ok .cont, h3 => exact h3.elim
end
/-! ### a def that is given a lambda -/
/-- its promise: spL is the lambda's, ws what its cells hold -/
abbrev SpL := List Str → (List (Option V) → Sp) → List (Option V) → LF → Addr → Sp
structure FnL (P : Program) (w : World) (K : PySem.W.Frag) (mg : Str → Option Value) (base : Heap) (k : Nat) (f : Addr) (fd : FuncData) (ps : List Str) (j : Nat) (lps : List Str) (sp : SpL) : Prop where
  len : ∀ fr spL ws F lf vs H Q E, sp fr spL ws F lf vs H Q E → vs.length = ps.length
  run : ∀ (A : Around) (outer : List Env) (s : Shared) (H : Hp) (args : Args) (us : List Value) (vs : List V) (F : LF) (lf : Addr) (fr : List Str) (ws : List (Option V)) (spL : List (Option V) → Sp) (Q : VK) (E : XK), Room k A → Env0 P w K mg base A outer s H →
    BindsTo s fd args (ps.zip us) → Vals vs us → LamAt F fr ws lf outer s H → LOk P w K mg base CX0 j lf F lps fr spL → sp fr spL ws F lf vs H Q E → codeAny (model P w) A (.call (.ref f) args) (CR CX0 outer P w H s Q E) s
theorem FnL.of {P : Program} {w : World} {K : PySem.W.Frag} {mg : Str → Option Value} {base : Heap} {x : Str} {st : Stmt} {f : Addr} {fd : FuncData} {N ps lps : List Str} {k j : Nat} {sp : SpL} (F : Fun K x x st f fd) (S : FnScope N ps (defScope st))
    (len : ∀ fr spL ws F lf vs H Q E, sp fr spL ws F lf vs H Q E → vs.length = ps.length)
    (hb : ∀ (cdv : Value) (A : Around) (outer : List Env) (s : Shared) (H : Hp) (vs : List V) (F : LF) (lf : Addr) (fr : List Str) (ws : List (Option V)) (spL : List (Option V) → Sp) (Q : VK) (E : XK), Room k (A.deeper (envOfC x (defScope st) s.heap.objs.size f cdv)) →
      LamAt F fr ws lf outer s H → LOk P w K mg base CX0 j lf F lps fr spL → sp fr spL ws F lf vs H Q E →
      ∃ t, PSs (cxOf CX0 P w K mg base N x (defScope st) f cdv A outer s H E).nox (defBody st) t ∧ t { nx := fun _ H' => Q .non H', rt := Q } (start N vs) H) : FnL P w K mg base (k + 1) f fd ps j lps sp := by
  obtain ⟨oc, od, kV, doc, pm, an, cdv, ct, osl, rfl, lk, hcd⟩ := F.ex
  refine ⟨len, fun A outer s H args us vs F lf fr ws spL Q E hr e0 bd rv L o hs => ?_⟩
  have stands : ∀ b o, base.get? b = some o → s.heap.get? b = some o := fun b o e => (e0.bs b o e).1
  have KX := e0.mod.kin.keeps stands
  have named : ∀ y ∈ ps.zip us, (defScope st).names.lookup y.1 = some .local ∨ ((defScope st).names.lookup y.1 = some .cell ∧ ((cellsFrom (s.heap.objs.size + 1) (defScope st).names []).lookup y.1).isSome = true) := by
    rintro ⟨n, v⟩ hy
    exact (S.par n (List.of_mem_zip hy).1).imp id fun q => ⟨q, PySem.W.cellsFrom_some _ _ _ (.inl q)⟩
  refine codeAny_call_function hr.depth (KX _ _ lk) rfl S.co S.gen rfl (PySem.W.codeRec_of KX hcd) (bd _ _ _ _ ?_)
  refine wpAny_newFunctionEnv_cells S.kind named fun env he s1 x1 => ?_
  subst he
  refine ⟨(e0.mod.nolimit.keeps stands).keeps x1.toInCall.keep, codeAny_func ?_⟩
  obtain ⟨t, ht, hq⟩ := hb cdv A outer s H vs F lf fr ws spL Q E (hr.deeper _) L o hs
  have I := inv_start (CX := CX0) (mg := mg) (base := base) (E := E) (qual := x) (f := f) (cd := cdv) S hr.hd e0 (len _ _ _ _ _ _ _ _ _ hs) rv x1
  refine wpAny_mono (ht.nox.run [] s1 (start N vs) H _ I hq) (fun fl s2 end2 => ?_) fun _ _ z => z
  cases fl with
  | ret u =>
    obtain ⟨v, σ2, H2, J, r2, q2⟩ := end2
    exact ⟨v, H2, J.os, J.bare, J.base, J.hok, r2, q2⟩
  | next =>
    obtain ⟨σ2, H2, J, q2⟩ := end2
    exact ⟨.non, H2, J.os, J.bare, J.base, J.hok, rfl, q2⟩
  | brk => exact end2.elim fun _ z => z.elim fun _ y => y.2.elim
  | cont => exact end2.elim fun _ z => z.elim fun _ y => y.2.elim
/-- a def that may be given a lambda -/
structure CalL (P : Program) (w : World) (K : PySem.W.Frag) (mg : Str → Option Value) (base : Heap) (k : Nat) (x : Str) (ps : List Str) (j : Nat) (lps : List Str) (sp : SpL) where
  f : Addr
  fd : FuncData
  ok : FnL P w K mg base k f fd ps j lps sp
  g : mg x = some (.ref f)
  kp : PySem.W.keepIn K (.ref f) = true
  b : Binds K fd ps []
/-- x(e, lambda ..: ..) -/
def tGive (T : List (Addr × Str)) (mk : Addr → LF) (fr : List Str) (js : List Nat) (spL : List (Option V) → Sp) (sp : SpL) (E : XK) (t : TE) : TE := fun σ H Q => t σ H fun v H1 => Tabs T H1 ∧
  ∀ (lf c' : Addr) (H2 : Hp), ExtN H1 H2 → Tabs T H2 → H2 c' = some (CodeO c' (mk c').qual) → sp fr spL (js.map (slotAt σ)) (mk c') lf [v, .ref lf] H2 Q E
section
variable {X : Cx}
theorem pe_give {T : List (Addr × Str)} {x : Str} {c P : Addr} {j k : Nat} {ps fr lps : List Str} {js : List Nat} {spL : List (Option V) → Sp} {sp : SpL} {E : XK} {e : Expr} {params : Arguments} {body : Expr} {scope : Scope} {t : TE} {p lpos pos : Pos}
    (C : CalL X.prog X.w X.K X.mg X.base k x ps j lps sp) (hg : Gl X x) (TB : TabB X.base X.mg c P) (hcode : X.env.code = .ref c) (hmT : (P, X.env.qual ++ "<lambda>") ∈ T) (hu : ∀ p ∈ T, p.1 = P → p.2 = X.env.qual ++ "<lambda>") (hr : Room k X.A) (hx : Passes CX0 X E)
    (hdef : defaultsOf params X.env = ([], [])) (hfree : ∀ y ∈ scope.names, y.2 = .free → X.env.scope.names.lookup y.1 = some .cell ∨ X.env.scope.names.lookup y.1 = some .free) (hfr : ∀ y ∈ fr, (y, NameKind.free) ∈ scope.names) (hjs : js.map (fun j => X.N[j]?) = fr.map some)
    (hL : ∀ lf c', LOk X.prog X.w X.K X.mg X.base CX0 j lf ⟨X.env.qual ++ "<lambda>", params, body, scope, cloFrom X.env.cells scope.names [], c'⟩ lps fr spL) (he : PE X e t)
    (hdb : (x == ("__debug__" : Str)) = false := by decide) (hes : starEach [e, .Lambda params body scope lpos] X.env = (false, eval e X.env) :: starEach [.Lambda params body scope lpos] X.env := by rfl) :
    PE X (.Call (.Name x p) [e, .Lambda params body scope lpos] [] pos) (tGive T (fun c' => ⟨X.env.qual ++ "<lambda>", params, body, scope, cloFrom X.env.cells scope.names [], c'⟩) fr js spL sp E t) := by
  refine ⟨fun pins s σ H Q I h => wpAny_Call_Name_kw (ld_glob I hg C.g ?_ hdb)⟩
  have hfree2 : ∀ y ∈ scope.names, y.2 = .free → ∃ c, X.env.cells.lookup y.1 = some c := fun y hy z => (hfree y hy z).elim (fun z => I.ok.has _ (.inl z)) fun z => I.ok.has _ (.inr z)
  refine PySem.W.callWith_K (h₀ := X.base) I.ok.mod.kin C.kp ?_ hes (by rfl)
  rw [hes]
  show wpAny _ _ (spliced ((false, eval e X.env) :: (false, eval (.Lambda params body scope lpos) X.env) :: [])) _ _ s
  refine Calls.spliced_cons (thn (he.run pins s σ H _ I h) fun u s1 h1 => ?_)
  obtain ⟨v, H1, I1, r1, hT, q1⟩ := h1
  refine Calls.spliced_cons (lam_make2 I1 TB hcode hmT hu hT hdef hfree2 fun lf c' pm ctv H2 s2 I2 eN T2 ho hun hout hco => ?_)
  refine Calls.spliced_nil ⟨I2.kIn, ?_⟩
  have q := q1 lf c' H2 eN T2 hco
  have L : LamAt ⟨X.env.qual ++ "<lambda>", params, body, scope, cloFrom X.env.cells scope.names [], c'⟩ fr (js.map (slotAt σ)) lf X.stack s2 H2 := ⟨⟨pm, ctv, ho⟩, hun, hout, hco, cells_of I2 (Caps.made I2.ok hfree hfr hjs)⟩
  have hl := C.ok.len _ _ _ _ _ _ _ _ _ q
  have bd := C.b s2 [u, .ref lf] I2.kIn (by rw [List.append_nil]; exact hl)
  rw [List.append_nil] at bd
  refine wpAny_call (codeAny_mono (C.ok.run X.A X.stack s2 H2 _ _ _ _ lf fr _ spL Q E hr I2.env0 bd (.cons r1 (.cons (show RelV (.ref lf) (.ref lf) from rfl) .nil)) L (hL lf c') q) fun r3 s3 h3 => ?_)
  match r3, h3 with
  | .error e, h3 => exact hx pins σ H2 s2 e s3 I2 h3
  | .ok (.ret u), h3 => exact I2.after h3
  | .ok .next, h3 => exact h3.elim
  | .ok .brk, h3 => exact h3.elim
  | .ok .cont, h3 => exact h3.elim
end
end EL
/-! d.setdefault(k, v) where the keys are tuples; comprehensions whose items are told by a relation to the heap. -/
namespace EL
open PySem PySem.Spec PyProof.Rows L2
section
variable {prog : Program} {w : World} {κ : Type} [DecidableEq κ] {knd : HeapKind prog w κ} {A : Around} {E : Value → Shared → Prop} {s : Shared}
theorem dsetDef_heap {d a : Addr} {xs : List (κ × Addr × Value)} {k : κ} {dflt : Value} {Q : Value → Shared → Prop} (room : knd.room A) (isK : knd.is s.heap k a) (at' : s.heap.DictOfH knd d xs) (fit : xs.length ≤ sizeLine)
    (there : ∀ p, atKey xs k = some p → Q p.2 { s with toks := s.toks + knd.draws k })
    (new : atKey xs k = none → ∀ h', h'.DictOfH knd d (storedH xs k a dflt) → Heap.SameBut d s.heap h' → Q dflt { s with heap := h', toks := s.toks + knd.draws k }) :
    wpAny (model prog w) A (dictSetDefault d (.ref a) dflt) Q E s := by
  obtain ⟨o, es, ep, go, ex, dat, ents, keys, nd⟩ := at'
  have sz := size_of_entries ents
  unfold dictSetDefault
  refine wpAny_holding (wpAny_bind (knd.pyHash room isK (wpAny_bind (wpAny_dictFind_heap (s := { s with toks := s.toks + knd.draws k }) room isK go dat ents keys nd (fun no => ?_) fun j p hj => ?_))))
  · have none' := atKey_none_of_get no
    have sto : storedH xs k a dflt = xs ++ [(k, a, dflt)] := storedH_new none' a dflt
    have out := not_mem_keys_of_get no
    have fresh : Heap.SameBut d s.heap (s.heap.update d (Obj.mapDictKeys (·.push ⟨knd.hash k, .ref a, dflt⟩))) := Heap.SameBut.update ..
    refine wpAny_bind (wpAny_rule (wpAny_bind (wpAny_updateDictKeys (hz := by omega) (s := { s with toks := s.toks + knd.draws k }) go dat (wpAny_pure (new none' _ ?_ fresh)))))
    rw [sto]
    refine ⟨_, _, ep + 1, Heap.get?_update_self _ go (Obj.isFreed_of_dict (Obj.data_mapDictKeys dat _)), ex.mapDictKeys _, Obj.data_mapDictKeys dat _, (by simp [ents, entryOfKey]), fun y hy => ?_, ?_⟩
    · rcases List.mem_append.mp hy with hy | hy
      · exact knd.keeps (keys y hy) go dat fresh
      · rw [List.mem_singleton.mp hy]
        exact knd.keeps isK go dat fresh
    · rw [List.map_append, List.nodup_append]
      exact ⟨nd, by simp, fun y hy z hz e => out (by
        have q : z = k := by simpa using hz
        rw [← q, ← e]; exact hy)⟩
  · have q := there p (atKey_of_get nd hj)
    refine wpAny_bind (wpAny_dictEntries (s := { s with toks := s.toks + knd.draws k }) go dat ?_)
    rw [entry_at ents j, hj]
    exact wpAny_bind (wpAny_rule (wpAny_pure q))
theorem meetsH_dsetDef (d a : Addr) (lo : (d == sysModules) = false) (dflt : Value) :
    MeetsIn prog w (Builtin.«dict.setdefault» ⟨[.ref d, .ref a, dflt], []⟩) (fun A R s => knd.room A.in1 ∧ ∃ k xs, knd.is s.heap k a ∧ s.heap.DictOfH knd d xs ∧ xs.length ≤ sizeLine ∧
      (∀ p, atKey xs k = some p → R (.ok (.ret p.2)) { s with toks := s.toks + knd.draws k }) ∧
      (atKey xs k = none → ∀ h', h'.DictOfH knd d (storedH xs k a dflt) → Heap.SameBut d s.heap h' → R (.ok (.ret dflt)) { s with heap := h', toks := s.toks + knd.draws k })) :=
  .of_wp fun A R s x => by
    obtain ⟨hu, k, xs, isK, at', fit, there, new⟩ := x
    unfold Builtin.«dict.setdefault»
    unfold Builtin.Dict.keyAndDefault
    refine wpAny_bind (wpAny_bind (wpAny_notOrdered_dict at'.typeIs (wpAny_pure ?_)))
    show wpAny _ _ (if (d == sysModules) = true then _ else (dictSetDefault d (.ref a) dflt >>= _)) _ _ s
    rw [if_neg (by rw [lo]; decide)]
    exact wpAny_bind (dsetDef_heap hu isK at' fit (fun p hp => wpAny_pure ⟨p.2, rfl, there p hp⟩) fun no h' m sb => wpAny_pure ⟨dflt, rfl, new no h' m sb⟩)
end
section
variable {X : Cx} {pins : List (Addr × Obj)} {σ : L2.St} {H : Hp} {s : Shared} {a b : Addr} {r : Value} {d : V} {k : List L2.Key} {A : Around} {E : Value → Shared → Prop}
theorem d_setdT {kvs : List (List L2.Key × V)} {Q : Value → Shared → Prop} (hu : A.units + 1 < cLine) (I : Inv X pins σ H s) (e : H a = some (.dT kvs)) (eb : H b = some (.tup (k.map kV))) (rd : RelV d r) (hl : kvs.length < sizeLine)
    (h1 : ∀ v, valV kvs k = some v → ∀ (w' : Value) (s' : Shared), Inv X pins σ H s' → RelV v w' → Q w' s') (h2 : valV kvs k = none → ∀ (w' : Value) (s' : Shared), Inv X pins σ (upd H a (.dT (putK kvs k d))) s' → RelV d w' → Q w' s') :
    wpAny (model X.prog X.w) A (call (.builtin "dict.setdefault") [.ref a, .ref b, r]) Q E s := by
  obtain ⟨z, hd, xs, rel, dd⟩ := dt_of I.hok e
  have fit : xs.length ≤ sizeLine := Paired.length rel ▸ z
  have rk := rel.val k
  refine call_meetsIn PySem.F.slot_dict_setdefault dd.typeIs PySem.F.entry_dict_setdefault (PySem.F.args_dict_setdefault_3 _ _ _) (meetsH_dsetDef (knd := tupleKind (mixKind X.prog X.w)) a b hd r)
    ⟨tupleKind_room_in1 hu, k, xs, key_of I.hok eb, dd, fit, fun p hp => ?_, fun no h' dd' same => ?_⟩
  · rw [hp] at rk
    match q : valV kvs k, rk with
    | none, rk => exact rk.elim
    | some v0, rk => exact h1 v0 q _ _ (I.tok _) rk
  · rw [no] at rk
    match q : valV kvs k, rk with
    | some v0, rk => exact rk.elim
    | none, rk =>
      have grow : (putK kvs k d).length ≤ sizeLine := Nat.le_trans (length_putK kvs k d) hl
      obtain ⟨q4, es, ep, hq, y2, y3, y4, _, y5⟩ := dd'
      refine h2 q _ _ (d_write I (by rw [e]; exact True.intro) same ⟨q4, hq⟩ ⟨grow, hd, _, (rel.put k eb rd).keeps fun c ys ec => ?_, q4, es, ep, hq, y2, y3, y4, y5⟩) rd
      rw [upd_ne (ne_of ec e (fun z => nomatch z))]
      exact ec
end
/-- d.setdefault(y, z), the keys tuples -/
def tDSetdT (td ty tx : TE) : TE := fun σ H Q => td σ H fun x H1 => ∃ a, x = .ref a ∧ IsD H1 a ∧ ty σ H1 fun y H2 => tx σ H2 fun z H3 => ∃ (kvs : List (List L2.Key × V)) (k : List L2.Key) (b : Addr), H3 a = some (.dT kvs) ∧ y = .ref b ∧ H3 b = some (.tup (k.map kV)) ∧ kvs.length < sizeLine ∧
  (∀ v, valV kvs k = some v → Q v H3) ∧ (valV kvs k = none → Q z (upd H3 a (.dT (putK kvs k z))))
section
variable {X : Cx} {o e f : Expr} {td ty tx : TE} {apos cpos : Pos}
theorem pe_dsetdT (hu : X.A.units + 1 < cLine) (ho : PE X o td) (he : PE X e ty) (hf : PE X f tx) (m : M2 X o "setdefault" apos e f cpos) : PE X (.Call (.Attribute o "setdefault" apos) [e, f] [] cpos) (tDSetdT td ty tx) := by
  refine ⟨fun pins s σ H Q I h => wpAny_Call_method m.base m.few m.line PySem.F.plainAttrs_dict PySem.F.slot_dict_setdefault PySem.F.type_dict_setdefault (thn (ho.run pins s σ H _ I h) fun u s1 h1 => ?_)⟩
  obtain ⟨x, H1, I1, rx, a, rfl, d, q1⟩ := h1
  cases (show u = Value.ref a from rx)
  have ty := isD_at I1 d
  refine ⟨ty.1, ty.2.1, ?_⟩
  rw [m.trees]
  refine Calls.callWith_builtin rfl (Calls.evalArgs_plain (Calls.spliced_cons (thn (he.run pins s1 σ H1 _ I1 q1) fun iv s2 h2 => ?_)))
  obtain ⟨y, H2, I2, ry, q2⟩ := h2
  refine Calls.spliced_cons (thn (hf.run pins s2 σ H2 _ I2 q2) fun fv s3 h3 => ?_)
  obtain ⟨z, H3, I3, rz, kvs, k, b, ea, rfl, eb, hl, q3, q4⟩ := h3
  cases (show iv = Value.ref b from ry)
  exact Calls.spliced_nil (d_setdT hu I3 ea eb rz hl (fun v hv w' s4 I4 rw' => ⟨v, _, I4, rw', q3 v hv⟩) fun hn w' s4 I4 rw' => ⟨z, _, I4, rw', q4 hn⟩)
end
/-! ### a list that grows, its items told by a relation to the heap beside it -/
/-- a relation that stays as the heap grows -/
def UpR {α : Type} (R : Hp → V → α → Prop) : Prop := ∀ (H H' : Hp) (v : V) (x : α), Same H H' → R H v x → R H' v x
/-- the items of a list -/
abbrev AllR {α : Type} (R : Hp → V → α → Prop) (H : Hp) (vs : List V) (xs : List α) : Prop := Paired (R H) vs xs
theorem AllR.up {α : Type} {R : Hp → V → α → Prop} (u : UpR R) {H H' : Hp} {vs : List V} {xs : List α} (s : Same H H') (h : AllR R H vs xs) : AllR R H' vs xs := Paired.mapP h fun _ _ => u _ _ _ _ s
theorem AllR.len {α : Type} {R : Hp → V → α → Prop} {H : Hp} {vs : List V} {xs : List α} (h : AllR R H vs xs) : vs.length = xs.length := Paired.length h
theorem AllR.snoc {α : Type} {R : Hp → V → α → Prop} {H : Hp} {vs : List V} {xs : List α} {v : V} {x : α} (h : AllR R H vs xs) (r : R H v x) : AllR R H (vs ++ [v]) (xs ++ [x]) := by
  induction h with
  | nil => exact .cons r .nil
  | cons a b ih => exact .cons a ih
theorem AllR.app {α : Type} {R : Hp → V → α → Prop} {H : Hp} {vs us : List V} {xs ys : List α} (h : AllR R H vs xs) (g : AllR R H us ys) : AllR R H (vs ++ us) (xs ++ ys) := by
  induction h with
  | nil => exact g
  | cons a b ih => exact .cons a ih
theorem AllR.at {α : Type} {R : Hp → V → α → Prop} {H : Hp} : ∀ {vs : List V} {xs : List α} {i : Nat} {v : V}, AllR R H vs xs → vs[i]? = some v → ∃ x, xs[i]? = some x ∧ R H v x
  | [], _, _, _, h, e => by simp at e
  | v :: vs, _, 0, u, .cons a b, e => by
    simp at e; subst e
    exact ⟨_, rfl, a⟩
  | v :: vs, _, i + 1, u, .cons a b, e => by
    obtain ⟨x, h1, h2⟩ := AllR.at (i := i) b (by simpa using e)
    exact ⟨x, by simpa using h1, h2⟩
theorem AllR.take {α : Type} {R : Hp → V → α → Prop} {H : Hp} {vs : List V} {xs : List α} (h : AllR R H vs xs) (n : Nat) : AllR R H (vs.take n) (xs.take n) := by
  induction h generalizing n with
  | nil => simp; exact .nil
  | cons a b ih =>
    cases n with
    | zero => exact .nil
    | succ n => exact .cons a (ih n)
/-- a comprehension's list at D behind i turns -/
def LcR {α : Type} (R : Hp → V → α → Prop) (D : Addr) (H : Hp) (f : Nat → List α) (i : Nat) (H' : Hp) : Prop := ∃ vs, H' D = some (.lst vs) ∧ AllR R (wo D H') vs (f i) ∧ vs.length ≤ i ∧ Same H (wo D H')
section
variable {α : Type} {R : Hp → V → α → Prop} {D : Addr} {H H1 H2 : Hp} {f : Nat → List α} {i : Nat}
theorem LcR.start (n : H D = none) (h0 : f 0 = []) : LcR R D H f 0 (upd H D (.lst [])) :=
  ⟨[], upd_same, by rw [h0]; exact .nil, Nat.le_refl _, by rw [wo_upd, wo_id n]; exact Same.refl _⟩
theorem LcR.sm (L : LcR R D H f i H1) : Same H H1 := by
  obtain ⟨_, _, _, _, s⟩ := L
  exact s.trans wo_sub
theorem LcR.sw (L : LcR R D H f i H1) : Same H (wo D H1) := by
  obtain ⟨_, _, _, _, s⟩ := L
  exact s
theorem LcR.at (L : LcR R D H f i H1) : ∃ vs, H1 D = some (.lst vs) := by
  obtain ⟨vs, h, _⟩ := L
  exact ⟨vs, h⟩
theorem lcr_some (u : UpR R) {v : V} {d : α} (L : LcR R D H f i H1) (s : Same H1 H2) (hf : f (i + 1) = f i ++ [d]) (hv : R (wo D H2) v d) (hi : i < 1000000) :
    ∃ acc, H2 D = some (.lst acc) ∧ acc.length < sizeLine ∧ LcR R D H f (i + 1) (upd H2 D (.lst (acc ++ [v]))) := by
  obtain ⟨vs, h1, h2, h3, h4⟩ := L
  refine ⟨vs, s _ _ h1, lt_sz (by omega), vs ++ [v], upd_same, ?_, by rw [List.length_append]; show vs.length + 1 ≤ _; omega, ?_⟩
  · rw [wo_upd, hf]
    exact (AllR.up u (same_wo s) h2).snoc hv
  · rw [wo_upd]
    exact h4.trans (same_wo s)
theorem lcr_none (u : UpR R) (L : LcR R D H f i H1) (s : Same H1 H2) (hf : f (i + 1) = f i) : LcR R D H f (i + 1) H2 := by
  obtain ⟨vs, h1, h2, h3, h4⟩ := L
  exact ⟨vs, s _ _ h1, by rw [hf]; exact AllR.up u (same_wo s) h2, by omega, h4.trans (same_wo s)⟩
theorem LcR.done (L : LcR R D H f i H1) : ∃ vs, H1 D = some (.lst vs) ∧ AllR R (wo D H1) vs (f i) ∧ vs.length ≤ i := by
  obtain ⟨vs, h1, h2, h3, _⟩ := L
  exact ⟨vs, h1, h2, h3⟩
end
/-- an object that is new beside the list is no part of it -/
theorem new_wo {H : Hp} {D p : Addr} {o : HO} (hD : ∃ vs, H D = some (.lst vs)) (np : H p = none) : wo D (upd H p o) p = some o := by
  obtain ⟨vs, hD⟩ := hD
  rw [wo_ne (fun e => by rw [e, hD] at np; cases np)]; exact upd_same
/-! ### places: pairs of numbers as keys -/
abbrev Pl := Nat × Int
abbrev kP (p : Pl) : List L2.Key := [.inl (p.1 : Int), .inl p.2]
abbrev vP (p : Pl) : List V := [.int (p.1 : Int), .int p.2]
theorem kP_inj {p q : Pl} (h : kP p = kP q) : p = q := by
  obtain ⟨a, b⟩ := p; obtain ⟨c, d⟩ := q
  have h1 := List.cons.inj h
  have h2 := Sum.inl.inj h1.1
  have h3 := Sum.inl.inj (List.cons.inj h1.2).1
  have : a = c := by exact Int.ofNat.inj h2
  simp only at h3
  rw [this, h3]
/-- a place's own tuple -/
def PlR (H : Hp) (v : V) (p : Pl) : Prop := ∃ b, v = .ref b ∧ H b = some (.tup (vP p))
theorem plR_up : UpR PlR := fun _ _ _ _ s h => by
  obtain ⟨b, h1, h2⟩ := h
  exact ⟨b, h1, s _ _ h2⟩
/-- the tuples stand -/
def TupS (H H' : Hp) : Prop := ∀ b xs, H b = some (.tup xs) → H' b = some (.tup xs)
theorem TupS.of {H H' : Hp} (s : Same H H') : TupS H H' := fun _ _ h => s _ _ h
theorem TupS.trans {H H1 H2 : Hp} (a : TupS H H1) (b : TupS H1 H2) : TupS H H2 := fun c xs h => b c xs (a c xs h)
theorem TupS.upd {H : Hp} {p : Addr} {o u : HO} (h : H p = some o) (n : ∀ xs, o ≠ .tup xs) : TupS H (L2.upd H p u) := fun b xs e => by
  rw [upd_ne (fun z => by rw [z, h] at e; exact n xs (Option.some.inj e))]; exact e
theorem TupS.new {H : Hp} {p : Addr} {u : HO} (h : H p = none) : TupS H (L2.upd H p u) := TupS.of (same_upd h)
theorem PlR.ts {H H' : Hp} {v : V} {p : Pl} (s : TupS H H') (h : PlR H v p) : PlR H' v p := by
  obtain ⟨b, h1, h2⟩ := h
  exact ⟨b, h1, s _ _ h2⟩
theorem AllR.ts {H H' : Hp} {vs : List V} {ps : List Pl} (s : TupS H H') (h : AllR PlR H vs ps) : AllR PlR H' vs ps := Paired.mapP h fun _ _ => PlR.ts s
/-! ### what is reached, by mathematics -/
inductive Rch {α : Type} (out : α → List α) (ss : List α) : α → Prop
  | base {s : α} : s ∈ ss → Rch out ss s
  | step {p q : α} : Rch out ss p → q ∈ out p → Rch out ss q
theorem Rch.least {α : Type} {out : α → List α} {ss : List α} {C : α → Prop} (h0 : ∀ s ∈ ss, C s) (h1 : ∀ p, C p → ∀ q ∈ out p, C q) {p : α} (h : Rch out ss p) : C p := by
  induction h with
  | base m => exact h0 _ m
  | step _ m ih => exact h1 _ ih _ m
theorem nodup_sub {α : Type} [DecidableEq α] : ∀ (U l : List α), l.Nodup → (∀ x ∈ l, x ∈ U) → l.length ≤ U.length
  | U, [], _, _ => Nat.zero_le _
  | U, a :: r, d, h => by
    have m := h a List.mem_cons_self
    have e := List.length_erase_of_mem m
    have hd := List.nodup_cons.mp d
    have ih := nodup_sub (U.erase a) r hd.2 fun x hx => by
      have : x ≠ a := fun z => hd.1 (z ▸ hx)
      exact (List.mem_erase_of_ne this).mpr (h x (List.mem_cons_of_mem _ hx))
    have : 0 < U.length := List.length_pos_of_mem m
    simp only [List.length_cons]
    omega
end EL
namespace KP
open PySem PySem.Spec PyProof.Rows L2 EL
open Evl (pss_cut)
/-- a step that can be taken: its own tuple, of its signs' and its place's own tuples -/
def StqR (H : Hp) (v : V) (t : Stp) : Prop := ∃ a q b, v = .ref a ∧ H a = some (.tup [.ref q, .ref b]) ∧ H q = some (.tup [.str ⟨#[t.1.1]⟩, .str ⟨#[t.1.2]⟩]) ∧ H b = some (.tup [.int t.2, .int (sdN t)])
theorem stqR_up : UpR StqR := fun _ _ _ _ s h => by
  obtain ⟨a, q, b, h1, h2, h3, h4⟩ := h
  exact ⟨a, q, b, h1, s _ _ h2, s _ _ h3, s _ _ h4⟩
theorem StqR.ts {H H' : Hp} {v : V} {t : Stp} (s : TupS H H') (h : StqR H v t) : StqR H' v t := by
  obtain ⟨a, q, b, h1, h2, h3, h4⟩ := h
  exact ⟨a, q, b, h1, s _ _ h2, s _ _ h3, s _ _ h4⟩
def spStepsAtT (K : PySem.W.Frag) : Sp := fun vs H Q _ => ∃ (v : V) (side : Int) (ts : List Stp), vs = [v, .int side] ∧ Dq K H v (.tuple (ts.map stp)) ∧ ts.length ≤ 100000 ∧
  ∀ l us H', Same H H' → H l = none → H' l = some (.lst us) → AllR StqR H' us (ts.filter (keepD side)) → Q (.ref l) H'

section
variable {P : Program} {w : World} {K : PySem.W.Frag} {mg : Str → Option Value} {base : Heap}
theorem ok_StepsAtT {f : Addr} {fd : FuncData} {k : Nat} (F : Fun K "steps_at" "steps_at" sStepsAt f fd) {tB : Tok} (m_BOTH_SIDES : mg "BOTH_SIDES" = some (.int 0 tB)) (CSideOf : Cal P w K mg base k "side_of" ["left", "right"] spSide) : FnOk P w K mg base CX0 (k + 1) f fd ["row", "side"] (spStepsAtT K) := by
  refine F.ok scStepsAt (fun vs H Q E h => ?_) (fun cdv A outer s H vs Q E hr h => ?_)
  · obtain ⟨v, sd, ts, rfl, _⟩ := h; rfl
  · obtain ⟨v, side, ts, rfl, hv, hl, kQ⟩ := h
    have hu := hr.units
    refine ⟨_, (pss_cons (ps_setLc (i := 2) (own := [("left", 3), ("right", 4), ("further", 5)]) (g := (gTup K 3 (gCons (gName 3) (gCons (gName 4) (gCons (gName 5) gNil))))) (by rfl) scStepsAt.nd rfl rfl (sw_true rfl rfl rfl (by decide +kernel)) (pi_tup (pv 0)) (blkOk_by (own := [("left", 3), ("right", 4), ("further", 5)]) (N := ["row", "side", "steps", "left", "right", "further", "signs"]) (sc := defScope sStepsAt) (by decide +kernel)) (fun _ _ _ _ _ => (pg_tup (by rfl) (pgs_cons (pg_name (i := 3) scStepsAt.nd rfl (by first | exact Or.inl rfl | exact Or.inr rfl)) (pgs_cons (pg_name (i := 4) scStepsAt.nd rfl (by first | exact Or.inl rfl | exact Or.inr rfl)) (pgs_cons (pg_name (i := 5) scStepsAt.nd rfl (by first | exact Or.inl rfl | exact Or.inr rfl)) pgs_nil))))) (fun _ _ _ _ _ => pts_nil) (fun _ _ _ _ _ => (pe_tup (pa_cons (pe_tup (pa_cons (pv 3) (pa_cons (pv 4) pa_nil))) (pa_cons (pe_tup (pa_cons (pv 5) (pa_cons (pe_cal CSideOf hr (by rfl) pass0 (pa_cons (pv 3) (pa_cons (pv 4) pa_nil))) pa_nil))) pa_nil)))))
      (pss_one (ps_ret (pe_lc (own := [("signs", 6), ("further", 5)]) (g := (gTup K 2 (gCons (gName 6) (gCons (gName 5) gNil)))) (by rfl) scStepsAt.nd (pi_list (pv 2)) (blkOk_by (own := [("signs", 6), ("further", 5)]) (N := ["row", "side", "steps", "left", "right", "further", "signs"]) (sc := defScope sStepsAt) (by decide +kernel)) (fun _ _ _ _ _ => (pg_tup (by rfl) (pgs_cons (pg_name (i := 6) scStepsAt.nd rfl (by first | exact Or.inl rfl | exact Or.inr rfl)) (pgs_cons (pg_name (i := 5) scStepsAt.nd rfl (by first | exact Or.inl rfl | exact Or.inr rfl)) pgs_nil)))) (fun _ _ _ _ _ => (pts_one (PW.pt (pw_or (pt_cmpR op_eq (pv 1) (pe_glob rfl m_BOTH_SIDES (show RelV (.int 0) (.int 0 tB) from ⟨_, rfl⟩)) (nomark _)) (pw_or1 (pt_cmpR op_eq (pe_ix (show IxR _ (rIxT K) from ix_tup) (pv 5) pe_int (fun _ _ => rfl)) (pv 1) (nomark _))))))) (fun _ _ _ _ _ => (pe_tup (pa_cons (pv 6) (pa_cons (pv 5) pa_nil)))))))), ?_⟩
    have two : 2 ≤ sizeLine := by decide
    obtain ⟨a, xs, rfl, hxs, hxa⟩ := dq_tup hv
    have hxl : xs.length = ts.length := by rw [hxa.len, List.length_map]
    refine ⟨.ref a, rfl, a, rfl, ⟨_, hxs⟩, fun D nD => ?_⟩
    refine lc_it walk_tup (LcR StqR D H fun i => ts.take i) (LcR.start nD rfl) (fun i H' _ L => ex_t' L.sm hxs) ?_ ?_
    · rintro j v H9 H1 hj L ⟨rfl, hv⟩
      obtain ⟨d, hd, hdq⟩ := hxa.at hv
      obtain ⟨t, ht, rfl⟩ := mv_get hd
      obtain ⟨e, rfl, hab⟩ := dq_stp (hdq.up L.sm)
      have hj2 : j < ts.length := (List.getElem?_eq_some_iff.mp ht).1
      refine ⟨e, _, rfl, hab, rfl, _, _, rfl, _, _, rfl, _, _, rfl, rfl, rfl, ?_⟩
      dsimp only [tYes]
      refine iteT ?_
      refine ⟨_, rfl, _, rfl, two, fun p1 n1 => ?_⟩
      have s1 := same_upd (o := .tup [.str ⟨#[t.1.1]⟩, .str ⟨#[t.1.2]⟩]) n1
      obtain ⟨acc0, gD⟩ := L.at
      have w1 := new_wo (o := .tup [.str ⟨#[t.1.1]⟩, .str ⟨#[t.1.2]⟩]) L.at n1
      have gD1 := s1 _ _ gD
      dsimp only
      generalize upd H1 p1 (.tup [.str ⟨#[t.1.1]⟩, .str ⟨#[t.1.2]⟩]) = G1 at s1 w1 gD1 ⊢
      refine ⟨_, rfl, _, rfl, _, rfl, _, _, rfl, two, fun p2 n2 => ?_⟩
      rw [show sideN ⟨#[t.1.1]⟩ ⟨#[t.1.2]⟩ = sdN t from rfl]
      have s2 := same_upd (o := .tup [.int t.2, .int (sdN t)]) n2
      have w2 := new_wo (o := .tup [.int t.2, .int (sdN t)]) ⟨_, gD1⟩ n2
      have w1 := (same_wo (D := D) s2) _ _ w1
      have gD2 := s2 _ _ gD1
      dsimp only
      generalize upd G1 p2 (.tup [.int t.2, .int (sdN t)]) = G2 at s2 w1 w2 gD2 ⊢
      refine ⟨two, fun p3 n3 => ?_⟩
      have w3 := new_wo (o := .tup [.ref p1, .ref p2]) ⟨_, gD2⟩ n3
      have s3 := same_wo (D := D) (same_upd (o := .tup [.ref p1, .ref p2]) n3)
      exact lcr_some stqR_up L ((s1.trans s2).trans (same_upd n3)) (take_snoc ht) ⟨p3, p1, p2, rfl, w3, s3 _ _ w1, s3 _ _ w2⟩ (by omega)
    rintro H1 L
    have sm := L.sm
    obtain ⟨vs, gD, ha, hvl⟩ := L.done
    rw [hxl, List.take_length] at ha
    have ha := AllR.up stqR_up wo_sub ha
    have hvn : vs.length = ts.length := ha.len
    refine ⟨.ref D, rfl, D, rfl, ⟨_, sqOf gD⟩, fun D2 nD2 => ?_⟩
    refine lc_it walk_list (LcR StqR D2 H1 fun i => (ts.take i).filter (keepD side)) (LcR.start nD2 rfl) (fun i H' _ L => sqOf (L.sm _ _ gD)) ?_ ?_
    · rintro j v H9 H2 hj L ⟨rfl, hv⟩
      obtain ⟨t, ht, e, p, r, rfl, hab, hp, hrs⟩ := ha.at hv
      have hj2 : j < ts.length := (List.getElem?_eq_some_iff.mp ht).1
      have sw := L.sw
      have sm2 := L.sm
      have hrs2 := stOf (K := K) (sm2 _ _ hrs)
      refine ⟨e, _, rfl, stOf (sm2 _ _ hab), rfl, _, _, rfl, _, _, rfl, rfl, rfl, ?_⟩
      have yes : keepD side t = true → (tTup (tCons (tVar 6) (tCons (tVar 5) tNil))) [some (.ref a), some (.int side), some (.ref D), none, none, some (.ref r), some (.ref p)] H2 fun y H4 => ∃ acc, H4 D2 = some (HO.lst acc) ∧ acc.length < sizeLine ∧ LcR StqR D2 H1 (fun i => (ts.take i).filter (keepD side)) (j + 1) (upd H4 D2 (HO.lst (acc ++ [y]))) := fun kp => by
        refine ⟨_, rfl, _, rfl, two, fun p3 n3 => ?_⟩
        have s3 := same_wo (D := D2) (same_upd (o := .tup [.ref p, .ref r]) n3)
        exact lcr_some stqR_up L (same_upd n3) (d := t) (by rw [take_snoc ht, List.filter_append, show [t].filter (keepD side) = [t] by simp [kp]]) ⟨p3, p, r, rfl, new_wo L.at n3, s3 _ _ (sw _ _ hp), s3 _ _ (sw _ _ hrs)⟩ (by omega)
      refine ⟨_, rfl, rfl, _, rfl, ?_⟩
      by_cases c0 : side = 0
      · rw [decide_eq_true (by rw [c0])]
        refine iteT ?_
        exact yes (by simp [keepD, c0])
      · rw [decide_eq_false (fun z => c0 (V.int.inj z))]
        refine iteF ⟨.ref r, rfl, r, _, _, .int (sdN t), rfl, rfl, hrs2, (by rfl), _, rfl, rfl, _, rfl, ?_⟩
        by_cases c1 : sdN t = side
        · rw [decide_eq_true (by rw [c1])]
          refine iteT ?_
          exact yes (by simp [keepD, c1])
        · rw [decide_eq_false (fun z => c1 (V.int.inj z))]
          refine iteF ?_
          exact lcr_none stqR_up L (Same.refl _) (by rw [take_snoc ht, List.filter_append, show [t].filter (keepD side) = [] by simp [keepD, c0, c1], List.append_nil])
    rintro H2 L
    have sm2 := L.sm
    obtain ⟨us, gD2, ha2, _⟩ := L.done
    rw [hvn, List.take_length] at ha2
    exact kQ D2 us H2 (sm.trans sm2) (by
      cases e : H D2 with
      | none => rfl
      | some o => rw [sm _ _ e] at nD2; cases nD2) gD2 (AllR.up stqR_up wo_sub ha2)
end
end KP
/-! What stays where a table of code objects grows. -/
namespace EL
open PySem PySem.Spec PyProof.Rows L2 LamX NdefX
/-- the heap without its tables -/
def noT (H : Hp) : Hp := fun b => match H b with
  | some (.tbl _) => none
  | o => o
theorem noT_of {H : Hp} {b : Addr} {o : HO} (h : H b = some o) (n : ∀ ps, o ≠ .tbl ps) : noT H b = some o := by
  unfold noT
  rw [h]
  cases o <;> first | rfl | exact absurd rfl (n _)
theorem noT_some {H : Hp} {b : Addr} {o : HO} (h : noT H b = some o) : H b = some o ∧ ∀ ps, o ≠ .tbl ps := by
  unfold noT at h
  split at h
  · cases h
  · rename_i z
    exact ⟨h, fun ps e => z ps (by rw [h, e])⟩
theorem extN_noT {H H' : Hp} (e : ExtN H H') : Same (noT H) H' := fun b o h => e b o (noT_some h).1 (noT_some h).2
theorem ExtN.none_of {H H' : Hp} {b : Addr} (e : ExtN H H') (n : H' b = none) : H b = none ∨ ∃ ps, H b = some (.tbl ps) := by
  cases q : H b with
  | none => exact .inl rfl
  | some o =>
    by_cases z : ∃ ps, o = .tbl ps
    · obtain ⟨ps, rfl⟩ := z; exact .inr ⟨ps, rfl⟩
    · rw [e b o q fun ps h => z ⟨ps, h⟩] at n; cases n
theorem sqL_noT {K : PySem.W.Frag} {H : Hp} {b : Addr} {xs : List V} (h : SqL K H b xs) : SqL K (noT H) b xs := by
  rcases h with (h | ⟨o, h⟩) | h
  · exact .inl (.inl (noT_of h fun _ z => nomatch z))
  · exact .inl (.inr ⟨o, noT_of h fun _ z => nomatch z⟩)
  · exact .inr h
theorem sqT_noT {K : PySem.W.Frag} {H : Hp} {b : Addr} {xs : List V} (h : SqT K H b xs) : SqT K (noT H) b xs := by
  rcases h with (h | ⟨o, h⟩) | h
  · exact .inl (.inl (noT_of h fun _ z => nomatch z))
  · exact .inl (.inr ⟨o, noT_of h fun _ z => nomatch z⟩)
  · exact .inr h
mutual
theorem dq_noT {K : PySem.W.Frag} {H : Hp} : ∀ (d : PyData) (v : V), Dq K H v d → Dq K (noT H) v d
  | .none, _, h => by cases h; exact .non
  | .bool b, _, h => by cases h; exact .bl b
  | .int i, _, h => by cases h; exact .int i
  | .str x, _, h => by cases h; exact .str x
  | .list ds, _, h => by cases h with | lst a b => exact .lst (sqL_noT a) (dqAll_noT ds _ b)
  | .tuple ds, _, h => by cases h with | tup a b => exact .tup (sqT_noT a) (dqAll_noT ds _ b)
  | .dict es, _, h => by cases h with | dic a => exact .dic (noT_of a fun _ z => nomatch z)
theorem dqAll_noT {K : PySem.W.Frag} {H : Hp} : ∀ (ds : List PyData) (vs : List V), DqAll K H vs ds → DqAll K (noT H) vs ds
  | [], _, h => by cases h; exact .nil
  | d :: ds, _, h => by cases h with | cons a b => exact .cons (dq_noT d _ a) (dqAll_noT ds _ b)
end
theorem Dq.ext {K : PySem.W.Frag} {H H' : Hp} {v : V} {d : PyData} (h : Dq K H v d) (e : ExtN H H') : Dq K H' v d := (dq_noT d v h).up (extN_noT e)
theorem DqAll.ext {K : PySem.W.Frag} {H H' : Hp} {vs : List V} {ds : List PyData} (h : DqAll K H vs ds) (e : ExtN H H') : DqAll K H' vs ds := (dqAll_noT ds vs h).up (extN_noT e)
theorem SqT.ext {K : PySem.W.Frag} {H H' : Hp} {a : Addr} {xs : List V} (h : SqT K H a xs) (e : ExtN H H') : SqT K H' a xs := ex_t' (extN_noT e) (sqT_noT h)
theorem SqL.ext {K : PySem.W.Frag} {H H' : Hp} {a : Addr} {xs : List V} (h : SqL K H a xs) (e : ExtN H H') : SqL K H' a xs := ex_l' (extN_noT e) (sqL_noT h)
/-- the tables of code objects -/
structure Grd (T : List (Addr × Str)) (b0 : Addr) (H : Hp) : Prop where
  tab : Tabs T H
theorem Grd.up {T : List (Addr × Str)} {b0 : Addr} {H H' : Hp} (g : Grd T b0 H) (s : Same H H') : Grd T b0 H' := ⟨g.tab.ext s⟩
theorem Grd.ext {T : List (Addr × Str)} {b0 : Addr} {H H' : Hp} (g : Grd T b0 H) (e : ExtN H H') (t : Tabs T H') : Grd T b0 H' := ⟨t⟩
/-- a def whose code object is known -/
structure FunC (K : PySem.W.Frag) (x : Str) (st : Stmt) (f : Addr) (fd : FuncData) (c : Addr) : Prop where
  ex : ∃ (oc : Value) (od : Option Addr) (kV doc pm : Value) (an : Option Addr) (ct : Value) (osl : Array (Option Value)),
    fd = PySem.W.fnOf x x (defArgs st) (defBody st) (defScope st) .none kV doc pm an (.ref c) ct ∧ K.lookup f = some ⟨oc, od, .func fd, osl⟩ ∧ PySem.W.codeIn K (.ref c) x = true
theorem funC_mk {K : PySem.W.Frag} {x : Str} {st : Stmt} {f c : Addr} {oc : Value} {od an : Option Addr} {osl : Array (Option Value)} {kV doc pm ct : Value} (l : K.lookup f = some ⟨oc, od, .func (PySem.W.fnOf x x (defArgs st) (defBody st) (defScope st) .none kV doc pm an (.ref c) ct), osl⟩)
    (h : PySem.W.codeIn K (.ref c) x = true) : FunC K x st f (PySem.W.fnOf x x (defArgs st) (defBody st) (defScope st) .none kV doc pm an (.ref c) ct) c := ⟨⟨oc, od, kV, doc, pm, an, ct, osl, rfl, l, h⟩⟩
theorem FunC.ok {P : Program} {w : World} {K : PySem.W.Frag} {mg : Str → Option Value} {base : Heap} {x : Str} {st : Stmt} {f c : Addr} {fd : FuncData} {N ps : List Str} {k : Nat} {sp : Sp} (F : FunC K x st f fd c) (S : FnScope N ps (defScope st)) (len : ∀ vs H Q E, sp vs H Q E → vs.length = ps.length)
    (hb : ∀ (A : Around) (outer : List Env) (s : Shared) (H : Hp) (vs : List V) (Q : VK) (E : XK), Room k (A.deeper (envOfC x (defScope st) s.heap.objs.size f (.ref c))) → sp vs H Q E →
      ∃ t, PSs (cxOf CX0 P w K mg base N x (defScope st) f (.ref c) A outer s H E).nox (defBody st) t ∧ t { nx := fun _ H' => Q .non H', rt := Q } (start N vs) H) : FnOk P w K mg base CX0 (k + 1) f fd ps sp := by
  obtain ⟨oc, od, kV, doc, pm, an, ct, osl, rfl, lk, hcd⟩ := F.ex
  refine fn_of lk hcd S len fun A outer s H vs Q E hr hsp => ?_
  obtain ⟨t, h, q⟩ := hb A outer s H vs Q E hr hsp
  exact ⟨t, h.nox, q⟩
end EL
/-! {(..): v for ..} as a value; dicts of places, each with True. -/
namespace EL
open PySem PySem.Spec PyProof.Rows L2
section
variable {X : Cx} {kx vx tg src : Expr} {ifs : List Expr} {scope : Scope} {own : List (Str × Nat)} {wi : TI} {g : TG} {tt : TT} {tk tv : TE} {pos : Pos}
theorem pe_dcU (calm : X.calm = true) (hu : X.A.units < cLine) (nd : X.N.Nodup) (pi : PI X tg src wi) (ok : BlkOk X.N X.env.scope scope own) (B : BlkParts X scope tg kx vx ifs g tt tk tv) (fold : ∀ x, foldedSetIterable src X.env x = pure x := by intro _; rfl) :
    PE X (.DictComp kx vx [⟨tg, src, ifs, 0⟩] scope pos) (tDcU wi g tt tk tv (own.map (·.2))) := by
  refine ⟨fun pins s σ H Q I h => ?_⟩
  rw [arm_eval_DictComp]
  exact dcU_core hu calm nd I pi ok B fold h fun D C s2 m H2 J q hn f => ⟨m, hn, fun h3 sb => ⟨.ref D, H2, J.turned (t' := s2.toks) (fun b o hb e => (sb.2 b hb).trans e) f.1 f.2.1 f.2.2.2.1 f.2.2.2.2.1 f.2.2.2.2.2, rfl, q⟩⟩
end
theorem valV_ne {κ : Type} [DecidableEq κ] {kv : κ × V} {r : List (κ × V)} {k : κ} (e : ¬ kv.1 = k) : valV (kv :: r) k = valV r k := by
  unfold valV
  rw [List.find?_cons, decide_eq_false e]
theorem valV_eq {κ : Type} [DecidableEq κ] {kv : κ × V} {r : List (κ × V)} {k : κ} (e : kv.1 = k) : valV (kv :: r) k = some kv.2 := by
  unfold valV
  rw [List.find?_cons, decide_eq_true e] <;> rfl
theorem kP_iff {p q : Pl} : kP p = kP q ↔ p = q := ⟨kP_inj, fun e => by rw [e]⟩
/-- places, each with a value -/
abbrev valT (v : Pl → V) (M : List Pl) : List (List L2.Key × V) := M.map fun p => (kP p, v p)
theorem valT_get {v : Pl → V} {M : List Pl} {p : Pl} : valV (valT v M) (kP p) = if p ∈ M then some (v p) else none := by
  induction M with
  | nil => simp [valV_nil]
  | cons q r ih =>
    by_cases h : q = p
    · subst h
      rw [if_pos List.mem_cons_self]
      exact valV_eq rfl
    · refine (valV_ne fun e => h (kP_inj e)).trans (ih.trans ?_)
      have hs : ¬ p = q := fun e => h e.symm
      simp [hs]
theorem valT_put {v : Pl → V} {M : List Pl} {p : Pl} (h : p ∉ M) : putK (valT v M) (kP p) (v p) = valT v (M ++ [p]) := by
  rw [putK_new _ (by rw [valT_get, if_neg h])]
  show _ = List.map _ (M ++ [p])
  rw [List.map_append]; rfl
theorem valT_set {v : Pl → V} {M : List Pl} {p : Pl} {x : V} (h : p ∈ M) : putK (valT v M) (kP p) x = valT (fun q => if q = p then x else v q) M := by
  unfold putK
  have ha : ((valT v M).any fun kv => decide (kv.1 = kP p)) = true := by
    rw [List.any_eq_true]
    exact ⟨(kP p, v p), List.mem_map.mpr ⟨p, h, rfl⟩, decide_eq_true rfl⟩
  rw [if_pos ha, List.map_map]
  refine List.map_congr_left fun q _ => ?_
  show (if kP q = kP p then (kP q, x) else (kP q, v q)) = (kP q, if q = p then x else v q)
  by_cases e : q = p
  · rw [if_pos (by rw [e]), if_pos e]
  · rw [if_neg (fun z => e (kP_inj z)), if_neg e]
abbrev oneT (M : List Pl) : List (List L2.Key × V) := valT (fun _ => .bl true) M
theorem oneT_put' {M : List Pl} {p : Pl} (h : p ∈ M) : putK (oneT M) (kP p) (.bl true) = oneT M := by
  rw [valT_set h]
  exact List.map_congr_left fun q _ => by dsimp only; split <;> rfl
/-- the heap without two objects -/
abbrev wo2 (d L : Addr) (H : Hp) : Hp := wo d (wo L H)
theorem wo2_ne {d L b : Addr} {H : Hp} (h1 : b ≠ d) (h2 : b ≠ L) : wo2 d L H b = H b := (wo_ne h1).trans (wo_ne h2)
theorem wo2_sub {d L : Addr} {H : Hp} : Same (wo2 d L H) H := wo_sub.trans wo_sub
theorem wo2_L {d L : Addr} {H : Hp} {o : HO} : wo2 d L (L2.upd H L o) = wo2 d L H := by show wo d _ = _; rw [wo_upd]
theorem wo2_d {d L : Addr} {H : Hp} {o : HO} : wo2 d L (L2.upd H d o) = wo2 d L H := by
  funext b
  by_cases e : b = d
  · subst e; exact wo_at.trans wo_at.symm
  · refine (wo_ne e).trans (Eq.trans ?_ (wo_ne e).symm)
    by_cases e2 : b = L
    · subst e2; rw [wo_at, wo_at]
    · rw [wo_ne e2, wo_ne e2, upd_ne e]
theorem wo2_same {d L : Addr} {H H' : Hp} (s : Same H H') : Same (wo2 d L H) (wo2 d L H') := same_wo (same_wo s)
theorem wo2_of {d L : Addr} {H H' : Hp} (n1 : H d = none) (n2 : H L = none) (s : Same H H') : Same H (wo2 d L H') := fun b o h => by
  rw [wo2_ne (ne_of_none h n1) (ne_of_none h n2)]; exact s b o h
theorem wo2_tups {d L : Addr} {H : Hp} {o1 o2 : HO} (g1 : H d = some o1) (g2 : H L = some o2) (n1 : ∀ xs, o1 ≠ .tup xs) (n2 : ∀ xs, o2 ≠ .tup xs) : TupS H (wo2 d L H) := fun b xs h => by
  rw [wo2_ne (fun e => by rw [e, g1] at h; exact n1 xs (Option.some.inj h)) (fun e => by rw [e, g2] at h; exact n2 xs (Option.some.inj h))]; exact h
theorem AllR.last {α : Type} {R : Hp → V → α → Prop} {H : Hp} {x : α} : ∀ {xs : List α} {vs : List V}, AllR R H vs (xs ++ [x]) → ∃ us v, vs = us ++ [v] ∧ AllR R H us xs ∧ R H v x
  | [], vs, h => by
    cases h with
    | cons a b => cases b; exact ⟨[], _, rfl, .nil, a⟩
  | y :: ys, vs, h => by
    cases h with
    | cons a b =>
      obtain ⟨us, v, rfl, h2, h3⟩ := AllR.last b
      exact ⟨_ :: us, v, rfl, .cons a h2, h3⟩
/-- the keys' own tuples -/
theorem isKeys_all {v : Pl → V} {H : Hp} : ∀ {M : List Pl} {bs : List Addr}, IsKeys H (valT v M) bs → AllR PlR H (bs.map V.ref) M
  | [], bs, h => by cases h; exact .nil
  | p :: r, bs, h => by
    cases h with
    | cons a b => exact .cons ⟨_, rfl, a⟩ (isKeys_all b)
/-- a dict of lists, by places -/
abbrev AdjR {α : Type} (R : Hp → V → α → Prop) (f : Pl → List α) (H : Hp) (kvs : List (List L2.Key × V)) (M : List Pl) : Prop := Paired (fun (kv : List L2.Key × V) (p : Pl) => kv.1 = kP p ∧ ∃ l us, kv.2 = .ref l ∧ H l = some (.lst us) ∧ AllR R H us (f p)) kvs M
section
variable {α : Type} {R : Hp → V → α → Prop} {f : Pl → List α} {H H' : Hp} {kvs : List (List L2.Key × V)} {M : List Pl}
theorem AdjR.keys (h : AdjR R f H kvs M) : kvs.map (·.1) = M.map kP := by
  induction h with
  | nil => rfl
  | cons a _ ih => rw [List.map_cons, List.map_cons, ih, a.1]
theorem AdjR.no (h : AdjR R f H kvs M) {p : Pl} (n : p ∉ M) : valV kvs (kP p) = none := by
  induction h with
  | nil => rfl
  | cons a _ ih =>
    rw [valV_ne fun e => n (by rw [← kP_inj (a.1.symm.trans e)]; exact List.mem_cons_self)]
    exact ih fun z => n (List.mem_cons_of_mem _ z)
theorem AdjR.get (h : AdjR R f H kvs M) {p : Pl} (m : p ∈ M) : ∃ l us, valV kvs (kP p) = some (.ref l) ∧ H l = some (.lst us) ∧ AllR R H us (f p) := by
  induction h with
  | nil => cases m
  | @cons kv q _ _ a _ ih =>
    by_cases e : kv.1 = kP p
    · obtain ⟨l, us, h1, h2, h3⟩ := a.2
      have := kP_inj (a.1.symm.trans e)
      subst this
      exact ⟨l, us, (valV_eq e).trans (congrArg some h1), h2, h3⟩
    · obtain ⟨l, us, h1, h2, h3⟩ := ih ((List.mem_cons.mp m).resolve_left fun z => e (by rw [a.1, z]))
      exact ⟨l, us, (valV_ne e).trans h1, h2, h3⟩
theorem AdjR.len (h : AdjR R f H kvs M) : kvs.length = M.length := Paired.length h
theorem AdjR.up (u : UpR R) (s : Same H H') (h : AdjR R f H kvs M) : AdjR R f H' kvs M := Paired.mapP h fun _ _ z => ⟨z.1, by
  obtain ⟨l, us, h1, h2, h3⟩ := z.2
  exact ⟨l, us, h1, s _ _ h2, AllR.up u s h3⟩⟩
theorem AdjR.snoc (h : AdjR R f H kvs M) {p : Pl} {l : Addr} {us : List V} (gl : H l = some (.lst us)) (ha : AllR R H us (f p)) : AdjR R f H (kvs ++ [(kP p, .ref l)]) (M ++ [p]) := by
  induction h with
  | nil => exact .cons ⟨rfl, l, us, rfl, gl, ha⟩ .nil
  | cons a _ ih => exact .cons a ih
theorem AdjR.key (h : AdjR R f H kvs M) {i : Nat} {k : List L2.Key} {v : V} (e : kvs[i]? = some (k, v)) : ∃ p, M[i]? = some p ∧ k = kP p := by
  have h1 : (kvs.map (·.1))[i]? = some k := by rw [List.getElem?_map, e]; rfl
  rw [h.keys, List.getElem?_map] at h1
  obtain ⟨p, e1, e2⟩ := Option.map_eq_some_iff.mp h1
  exact ⟨p, e1, e2.symm⟩
end
end EL
/-! tuple(zip(text, text)): the pairs' own tuples. -/
namespace EL
open PySem PySem.Spec PyProof.Rows L2
/-- a pair's own tuple -/
def PrR (H : Hp) (v : V) (p : Nat × Nat) : Prop := ∃ b, v = .ref b ∧ H b = some (.tup [.str ⟨#[p.1]⟩, .str ⟨#[p.2]⟩])
theorem prR_up : UpR PrR := fun _ _ _ _ s h => by
  obtain ⟨b, h1, h2⟩ := h
  exact ⟨b, h1, s _ _ h2⟩
theorem PrR.ts {H H' : Hp} {v : V} {p : Nat × Nat} (s : TupS H H') (h : PrR H v p) : PrR H' v p := by
  obtain ⟨b, h1, h2⟩ := h
  exact ⟨b, h1, s _ _ h2⟩
theorem PrR.dq {K : PySem.W.Frag} {H : Hp} {v : V} {p : Nat × Nat} (h : PrR H v p) : Dq K H v (.tuple [.str ⟨#[p.1]⟩, .str ⟨#[p.2]⟩]) := by
  obtain ⟨b, rfl, h⟩ := h
  exact .tup (stOf h) (.cons (.str _) (.cons (.str _) .nil))
theorem allR_of {α : Type} {R : Hp → V → α → Prop} {H : Hp} : ∀ {vs : List V} {xs : List α}, vs.length = xs.length → (∀ (i : Nat) (v : V), vs[i]? = some v → ∃ x, xs[i]? = some x ∧ R H v x) → AllR R H vs xs
  | [], [], _, _ => .nil
  | [], _ :: _, h, _ => by simp at h
  | _ :: _, [], h, _ => by simp at h
  | v :: vs, x :: xs, h, f => by
    obtain ⟨y, h1, h2⟩ := f 0 v rfl
    simp at h1; subst h1
    exact .cons h2 (allR_of (by simpa using h) fun i v' h1 => by
      obtain ⟨y, h3, h4⟩ := f (i + 1) v' (by simpa using h1)
      exact ⟨y, by simpa using h3, h4⟩)
def tTZR (K : PySem.W.Frag) (ta tb : TE) : TE := fun σ H Q => ta σ H fun x H1 => tb σ H1 fun y H2 => ∃ a b : Str, x = .str a ∧ y = .str b ∧ a.cps.size = b.cps.size ∧ a.cps.size ≤ 1000000 ∧
  ∀ p us H3, Same H2 H3 → H3 p = some (.tup us) → AllR PrR H3 us (a.cps.toList.zip b.cps.toList) → Q (.ref p) H3
section
variable {X : Cx} {pins : List (Addr × Obj)} {σ : L2.St} {H : Hp} {s : Shared}
theorem track_pairsR {a b : Str} {no : List Addr} {acc : Array Value} {h' : Heap} {tk : Nat} (I : Inv X pins σ H s) (hab : a.cps.size = b.cps.size) (hl : a.cps.size ≤ 1000000) (hacc : acc.size = a.cps.size) (pa : PairsAt a b acc no s.heap.objs.size h')
    (old : ∀ c o, s.heap.get? c = some o → h'.get? c = some o) (le : s.heap.objs.size ≤ h'.objs.size) :
    ∃ H3 vs, Same H H3 ∧ H3 h'.objs.size = some (.tup vs) ∧ AllR PrR H3 vs (a.cps.toList.zip b.cps.toList) ∧ Inv X pins σ H3 { s with heap := h'.push { cls := .type "tuple", data := .seq acc }, toks := tk } := by
  generalize hG : h'.push { cls := .type "tuple", data := .seq acc } = G
  have up : ∀ c o, h'.get? c = some o → G.get? c = some o := fun c o e => by rw [← hG]; exact Heap.get?_push_of_some _ e
  have gp : G.get? h'.objs.size = some { cls := .type "tuple", data := .seq acc } := by rw [← hG]; exact Heap.get?_push_size _ rfl
  have old2 : ∀ c o, s.heap.get? c = some o → G.get? c = some o := fun c o e => up c o (old c o e)
  have lenA : acc.size = (pairsD a.cps.toList b.cps.toList).length := by
    rw [pairsD_len _ _ (by rw [Array.length_toList, Array.length_toList]; exact hab), Array.length_toList]; exact hacc
  obtain ⟨vs, hv⟩ : ∃ vs : List V, Vals vs acc.toList := by
    have key : ∀ l : List Value, (∀ v ∈ l, ∃ T, v = Value.ref T) → ∃ vs : List V, Vals vs l := by
      intro l
      induction l with
      | nil => exact fun _ => ⟨[], .nil⟩
      | cons v l ih =>
        intro f
        obtain ⟨T, e⟩ := f v List.mem_cons_self
        obtain ⟨vs, q⟩ := ih fun v hv => f v (List.mem_cons_of_mem _ hv)
        exact ⟨.ref T :: vs, .cons e q⟩
    refine key _ fun v hm => ?_
    obtain ⟨j, hj⟩ := List.mem_iff_getElem?.mp hm
    obtain ⟨T, _, _, _, _, e, _⟩ := pa j v (by rw [← Array.getElem?_toList]; exact hj)
    exact ⟨T, e⟩
  have lenV : vs.length = acc.size := by rw [hv.length, Array.length_toList]
  let H3 : Hp := fun c => if c < s.heap.objs.size then H c else if c = h'.objs.size then some (.tup vs) else pairHO h' c
  have lo : ∀ c, c < s.heap.objs.size → H3 c = H c := fun c q => if_pos q
  have hp : H3 h'.objs.size = some (.tup vs) := by
    show (if _ then _ else _) = _
    rw [if_neg (Nat.not_lt.mpr le), if_pos rfl]
  have hpair : ∀ T c1 c2 t1 t2, s.heap.objs.size ≤ T → IsTupOf2 h' T (.str ⟨#[c1]⟩ t1) (.str ⟨#[c2]⟩ t2) → H3 T = some (.tup [.str ⟨#[c1]⟩, .str ⟨#[c2]⟩]) := fun T c1 c2 t1 t2 q e => by
    show (if _ then _ else _) = _
    rw [if_neg (Nat.not_lt.mpr q), if_neg (Nat.ne_of_lt (Heap.lt_size e))]
    exact pairHO_at e
  have sm : Same H H3 := fun c o e => by rw [lo c (I.hok.lt e)]; exact e
  have ok : HOk X.prog X.w H3 G := by
    intro c o e
    by_cases q : c < s.heap.objs.size
    · rw [lo c q] at e
      exact (I.hok c o e).stay (fun d u _ hd => old2 d u hd) (fun d hd => sm _ _ hd) fun d xs hd => sm _ _ hd
    · by_cases q2 : c = h'.objs.size
      · subst q2
        rw [hp] at e
        obtain rfl := Option.some.inj e
        exact ⟨len_sz (by rw [lenV, hacc]; exact hl), acc.toList, hv, ⟨_, gp, rfl, _, by simp; rfl⟩⟩
      · have e' : pairHO h' c = some o := by
          have z : H3 c = pairHO h' c := by
            show (if _ then _ else _) = _
            rw [if_neg q, if_neg q2]
          rw [← z]; exact e
        exact (pairHO_ok (P := X.prog) (w := X.w) (H := fun _ => none) e').stay (fun d u hd z => up d u z) (fun d hd => nomatch hd) fun d xs hd => nomatch hd
  have lz : (a.cps.toList.zip b.cps.toList).length = vs.length := by
    rw [List.length_zip, Array.length_toList, Array.length_toList, ← hab, Nat.min_self, lenV, hacc]
  refine ⟨H3, vs, sm, hp, allR_of lz.symm (fun i v hvi => ?_), I.un ?_ ok⟩
  · obtain ⟨u, hu, ru⟩ := hv.get hvi
    obtain ⟨T, c1, c2, t1, t2, e, _, q, e3, e4, e5⟩ := pa i u (by rw [← Array.getElem?_toList]; exact hu)
    subst e
    have ev : v = .ref T := by
      cases v <;> simp [L2.RelV] at ru
      rw [ru]
    subst ev
    refine ⟨(c1, c2), ?_, T, rfl, hpair T c1 c2 t1 t2 q e3⟩
    rw [List.getElem?_zip_eq_some]
    exact ⟨by rw [Array.getElem?_toList]; exact e4, by rw [Array.getElem?_toList]; exact e5⟩
  · have lt : ∀ {c o}, s.heap.get? c = some o → c < s.heap.objs.size := fun e => Heap.lt_size e
    exact ⟨fun c o e _ _ _ => old2 c o e, fun c o e _ _ _ => ⟨o.slots, old2 c o e⟩, fun c o e n _ => by rw [lo c (lt e)]; exact n, fun c o e _ => ⟨o, old2 c o e⟩, fun c xs e => sm _ _ e, fun c o u e => sm _ _ e, fun c ps e => ⟨#[], by rw [sm _ _ e]; simp⟩⟩
end
/-- what tuple(zip(..)) asks of its two values -/
def tzR (K : PySem.W.Frag) (Q : VK) : List V → Hp → Prop := fun vs H2 => match vs with
  | [x, y] => ∃ a b : Str, x = .str a ∧ y = .str b ∧ a.cps.size = b.cps.size ∧ a.cps.size ≤ 1000000 ∧ ∀ p us H3, Same H2 H3 → H3 p = some (.tup us) → AllR PrR H3 us (a.cps.toList.zip b.cps.toList) → Q (.ref p) H3
  | _ => False
theorem tzR_of {K : PySem.W.Frag} {Q : VK} {vs : List V} {H2 : Hp} (h : tzR K Q vs H2) : ∃ a b : Str, vs = [.str a, .str b] ∧ a.cps.size = b.cps.size ∧ a.cps.size ≤ 1000000 ∧ ∀ p us H3, Same H2 H3 → H3 p = some (.tup us) → AllR PrR H3 us (a.cps.toList.zip b.cps.toList) → Q (.ref p) H3 := by
  unfold tzR at h
  split at h
  · obtain ⟨a, b, rfl, rfl, r⟩ := h
    exact ⟨a, b, rfl, r⟩
  · exact h.elim
section
variable {X : Cx} {e1 e2 : Expr} {ta tb : TE} {p1 p2 pos1 pos2 : Pos}
/-- tuple(zip(e1, e2)) of two texts of one length -/
theorem pe_tupzipR (hc : X.calm = true) (nt : X.mg "tuple" = none) (nz : X.mg "zip" = none) (h1 : PE X e1 ta) (h2 : PE X e2 tb) (gt : Gl X "tuple" := by rfl) (gz : Gl X "zip" := by rfl)
    (he : starEach [e1, e2] X.env = (false, eval e1 X.env) :: starEach [e2] X.env := by rfl) (he2 : starEach [e2] X.env = (false, eval e2 X.env) :: starEach [] X.env := by rfl) (hpl : (backTo pos2 (starEach [e2] X.env)).any (·.1) = false := by rfl)
    (ho : starEach [(Expr.Call (.Name "zip" p2) [e1, e2] [] pos2)] X.env = (false, eval (.Call (.Name "zip" p2) [e1, e2] [] pos2) X.env) :: starEach [] X.env := by rfl) (hpo : (backTo pos1 (starEach [] X.env)).any (·.1) = false := by rfl) :
    PE X (.Call (.Name "tuple" p1) [.Call (.Name "zip" p2) [e1, e2] [] pos2] [] pos1) (tTZR X.K ta tb) := by
  refine ⟨fun pins s σ H Q I h => ?_⟩
  refine wpAny_Call_Name_kw (ld_blt I gt nt PyProof.Rows.boot_tuple ?_)
  refine PyProof.Rows.callWith_type1 ?_ ho hpo
  rw [ho]
  show wpAny _ _ (spliced ((false, _) :: backTo pos1 (starEach [] X.env))) _ _ s
  refine Calls.spliced_cons ?_
  refine wpAny_Call_Name_kw (ld_blt I gz nz PyProof.Rows.boot_zip ?_)
  refine PyProof.Rows.callWith_type1 (thn ((pa_cons h1 (pa_cons h2 pa_nil he2) he).run pos2 pins s σ H (tzR X.K Q) I h) fun us s1 hh => ?_) he hpl
  obtain ⟨vs, H1, I1, r1, q1⟩ := hh
  obtain ⟨a, b, rfl, hab, hl, q⟩ := tzR_of q1
  obtain ⟨ta1, tb1, rfl⟩ : ∃ t u, us = [.str a t, .str b u] := by
    cases r1 with
    | cons x1 r =>
      cases r with
      | cons x2 r =>
        cases r
        obtain ⟨t, rfl⟩ := x1
        obtain ⟨u, rfl⟩ := x2
        exact ⟨t, u, rfl⟩
  obtain ⟨hp, g, d, tk0, os⟩ := s1
  refine zip_begins2 (begins_text a ta1) (begins_text b tb1) trivial trivial fun h' z1 z2 z3 z4 z5 z6 z7 => ?_
  have sep : ZipSep2 (hp.objs.size + 4) (hp.objs.size + 2) (hp.objs.size + 3) hp.objs.size (hp.objs.size + 1) [hp.objs.size] [hp.objs.size + 1] := zip_sep2 (fun _ m => (List.not_mem_nil m).elim) fun _ m => (List.not_mem_nil m).elim
  have Z : ZNew (hp.objs.size + 4) (hp.objs.size + 2) (hp.objs.size + 3) hp.objs.size (hp.objs.size + 1) a b ta1 tb1 hp h' := ⟨z1, z2, z3, ⟨_, z4, rfl, rfl⟩, ⟨_, z5, rfl, rfl⟩, z7, fun c m => (by
    simp only [List.mem_cons, List.not_mem_nil, or_false] at m
    rcases m with m | m | m | m | m <;> rw [m] <;> first | exact Nat.le_refl _ | exact Nat.le_add_right _ _), (by rw [z6]; exact Nat.le_add_right _ _)⟩
  show wpAny _ _ (spliced (backTo pos1 (starEach [] X.env))) _ _ _
  refine Calls.spliced_nil ?_
  have hh : X.A.handled = none := I1.ok.hd hc
  refine call_tuple_zip (s := ⟨h', g, d, tk0, os⟩) (n := a.cps.size) hh rfl hab.symm (lt_sz hl) sep Z fun h2 tk acc y1 y2 y3 y4 => ?_
  obtain ⟨no, pa⟩ := y2
  obtain ⟨H3, us, sm, gp, ap, J⟩ := track_pairsR (tk := tk) I1 hab hl y1 pa y3 y4
  exact ⟨.ref h2.objs.size, H3, J, rfl, q _ us H3 sm gp ap⟩
end
end EL
/-! for x in o, where o's class has a def __iter__(self): return iter(self.field), the field a tuple. -/
namespace EL
open PySem PySem.Spec PyProof.Rows L2
/-- at it the iterator of the tuple at t, at its begin -/
def TitO (t it : Addr) : HO := .ext fun h => h.get? it = some ({ cls := .type "tuple_iterator", data := .fields #[.ref t, .int 0 0] } : Obj)
theorem titO_ok {P : Program} {w : World} {H : Hp} {h : Heap} {t it : Addr} (e : h.get? it = some ({ cls := .type "tuple_iterator", data := .fields #[.ref t, .int 0 0] } : Obj)) : ObjOk P w H h it (TitO t it) := ⟨e, ⟨_, e⟩, fun h1 h2 q k => k _ q⟩
section
variable {prog : Program} {w : World} {A : Around} {E : Value → Shared → Prop} {s : Shared} {t : Addr} {items : Array Value}
theorem call_iter_tup {Q : Value → Shared → Prop} (ht : s.heap.IsTuple t items) (h : Q (.ref s.heap.objs.size) { s with heap := s.heap.push { cls := .type "tuple_iterator", data := .fields #[.ref t, .int 0 0] } }) : wpAny (model prog w) A (call (.builtin "iter") [.ref t]) Q E s := by
  refine Calls.call_function_entry (by decide +kernel) (by decide +kernel) PySem.W.kdk_entry_iter (PySem.W.kdk_args_iter _) ?_
  unfold Builtin.«iter»
  refine wpAny_bind (m := someArgs "iter" 1 2 _) (wpAny_of_eq (a := [Value.ref t]) (by first | rfl | kernel_rfl!) ?_)
  show wpAny _ _ (pyIter (.ref t) >>= _) _ _ _
  exact wpAny_bind (wpAny_pyIter_tuple ht (wpAny_pure ⟨_, rfl, h⟩))
end
/-- iter(t), t a tuple; n: what was there before -/
def rIterT (K : PySem.W.Frag) (n : Nat) : List V → Hp → VK → Prop := fun xs H Q => ∃ (t : Addr) (zs : List V), xs = [.ref t] ∧ SqT K H t zs ∧ ∀ it, H it = none → n ≤ it → Q (.ref it) (L2.upd H it (TitO t it))
theorem call_iterT {X : Cx} : CallR X (.builtin "iter") (rIterT X.K X.s_0.heap.objs.size) := by
  intro pins s σ H xs us Q I r h
  obtain ⟨t, zs, rfl, hq, q⟩ := h
  obtain ⟨u, rfl, ru⟩ := vals1 r
  cases ru
  obtain ⟨its, rv, pl, hz⟩ := I.tuple hq
  refine call_iter_tup (show s.heap.IsTuple t its.toArray from pl) ?_
  exact ⟨.ref s.heap.objs.size, _, I.laid (t' := s.toks) (fun b u e => Heap.get?_push_of_some _ e) (Nat.le_refl _) (titO_ok (Heap.get?_push_size _ rfl)), rfl, q _ (I.hok.fresh (Nat.le_refl _)) I.sz⟩
/-- a def that gives the iterator of a tuple that its first argument holds -/
structure FnIt (P : Program) (w : World) (K : PySem.W.Frag) (mg : Str → Option Value) (base : Heap) (k : Nat) (f : Addr) (fd : FuncData) (C : Addr) (fld : Str) : Prop where
  run : ∀ (A : Around) (outer : List Env) (s : Shared) (H : Hp) (args : Args) (us : List Value) (x dx t : Addr) (fs : List (Str × V)) (zs : List V), Room k A → Env0 P w K mg base A outer s H → BindsTo s fd args ((["self"] : List Str).zip us) → Vals [.ref x] us →
    H x = some (.ins C dx fs) → fs.lookup fld = some (.ref t) → SqT K H t zs →
    codeAny (model P w) A (.call (.ref f) args) (CR CX0 outer P w H s (fun v H' => ∃ it, v = .ref it ∧ s.heap.objs.size ≤ it ∧ H it = none ∧ H' = L2.upd H it (TitO t it)) E0) s
theorem FnIt.of {P : Program} {w : World} {K : PySem.W.Frag} {mg : Str → Option Value} {base : Heap} {x q fld : Str} {st : Stmt} {f C : Addr} {fd : FuncData} {N : List Str} {k : Nat} (F : Fun K x q st f fd) (S : FnScope N ["self"] (defScope st))
    (hb : ∀ (cdv : Value) (A : Around) (outer : List Env) (s : Shared) (H : Hp) (a dx t : Addr) (fs : List (Str × V)) (zs : List V) (Q : VK), Room k (A.deeper (envOfC q (defScope st) s.heap.objs.size f cdv)) →
      H a = some (.ins C dx fs) → fs.lookup fld = some (.ref t) → SqT K H t zs → (∀ it, H it = none → s.heap.objs.size ≤ it → Q (.ref it) (L2.upd H it (TitO t it))) →
      ∃ tt, PSs (cxOf CX0 P w K mg base N q (defScope st) f cdv A outer s H E0).nox (defBody st) tt ∧ tt { nx := fun _ H' => Q .non H', rt := Q } (start N [.ref a]) H) : FnIt P w K mg base (k + 1) f fd C fld := by
  obtain ⟨oc, od, kV, doc, pm, an, cdv, ct, osl, rfl, lk, hcd⟩ := F.ex
  refine ⟨fun A outer s H args us a dx t fs zs hr e0 bd rv ha hf ht => ?_⟩
  have stands : ∀ b o, base.get? b = some o → s.heap.get? b = some o := fun b o e => (e0.bs b o e).1
  have KX := e0.mod.kin.keeps stands
  have named : ∀ y ∈ (["self"] : List Str).zip us, (defScope st).names.lookup y.1 = some .local ∨ ((defScope st).names.lookup y.1 = some .cell ∧ ((cellsFrom (s.heap.objs.size + 1) (defScope st).names []).lookup y.1).isSome = true) := by
    rintro ⟨n, v⟩ hy
    exact (S.par n (List.of_mem_zip hy).1).imp id fun q => ⟨q, PySem.W.cellsFrom_some _ _ _ (.inl q)⟩
  refine codeAny_call_function hr.depth (KX _ _ lk) rfl S.co S.gen rfl (PySem.W.codeRec_of KX hcd) (bd _ _ _ _ ?_)
  refine wpAny_newFunctionEnv_cells S.kind named fun env he s1 x1 => ?_
  subst he
  refine ⟨(e0.mod.nolimit.keeps stands).keeps x1.toInCall.keep, codeAny_func ?_⟩
  obtain ⟨tt, htt, hq⟩ := hb cdv A outer s H a dx t fs zs (fun v H' => ∃ it, v = .ref it ∧ s.heap.objs.size ≤ it ∧ H it = none ∧ H' = L2.upd H it (TitO t it)) (hr.deeper _) ha hf ht fun it n le => ⟨it, rfl, le, n, rfl⟩
  have I := inv_start (CX := CX0) (mg := mg) (base := base) (E := E0) (qual := q) (f := f) (cd := cdv) S hr.hd e0 rfl rv x1
  refine wpAny_mono (htt.nox.run [] s1 (start N [.ref a]) H _ I hq) (fun fl s2 end2 => ?_) fun _ _ z => z
  cases fl with
  | ret u =>
    obtain ⟨v, σ2, H2, J, r2, q2⟩ := end2
    exact ⟨v, H2, J.os, J.bare, J.base, J.hok, r2, q2⟩
  | next =>
    obtain ⟨σ2, H2, J, q2⟩ := end2
    obtain ⟨_, z, _⟩ := q2
    cases z
  | brk => exact end2.elim fun _ z => z.elim fun _ y => y.2.elim
  | cont => exact end2.elim fun _ z => z.elim fun _ y => y.2.elim
/-- the class's __iter__ -/
structure IterC (K : PySem.W.Frag) (C f : Addr) : Prop where
  it : PySem.W.findIn K (.ref C) "__iter__" = some (some (.ref f))
  fn : PySem.W.isFn K (.ref f) = true
structure CalI (P : Program) (w : World) (K : PySem.W.Frag) (mg : Str → Option Value) (base : Heap) (k : Nat) (C : Addr) (fld : Str) where
  f : Addr
  fd : FuncData
  c : IterC K C f
  ok : FnIt P w K mg base k f fd C fld
  b : Binds K fd ["self"] []
def iOwn (K : PySem.W.Frag) (C : Addr) (fld : Str) (te : TE) : TI := fun σ H R => te σ H fun v H1 => ∃ x dx fs t zs, v = .ref x ∧ H1 x = some (.ins C dx fs) ∧ fs.lookup fld = some (.ref t) ∧ SqT K H1 t zs ∧ R (Itt K t) H1
theorem pi_own {X : Cx} {tg e : Expr} {te : TE} {C : Addr} {fld : Str} {k : Nat} (CI : CalI X.prog X.w X.K X.mg X.base k C fld) (hr : Room k X.A) (hx : Passes CX0 X E0) (he : PE X e te) : PI X tg e (iOwn X.K C fld te) := by
  refine ⟨fun pins s σ H R I h => thn (he.run pins s σ H _ I h) fun v s1 h1 => ?_⟩
  obtain ⟨y, H1, I1, r1, x, dx, fs, t, zs, rfl, hx1, hf, ht, q⟩ := h1
  cases (show v = Value.ref x from r1)
  obtain ⟨mA, J, _⟩ := ins_get I1.hok hx1
  obtain ⟨od, J, _⟩ := J.look
  obtain ⟨m0, hF⟩ := I1.fr
  refine PySem.W.owit_iter hF I1.ok.mod.kin J CI.c.it CI.c.fn ?_
  have bd := CI.b s1 [.ref x] I1.kIn rfl
  rw [List.append_nil] at bd
  refine wpAny_call (codeAny_mono (CI.ok.run X.A X.stack s1 H1 ⟨[.ref x], []⟩ [.ref x] x dx t fs zs hr I1.env0 bd (.cons rfl .nil) hx1 hf ht) fun r s2 h2 => ?_)
  match r, h2 with
  | .error e, h2 => exact hx pins σ H1 s1 e s2 I1 h2
  | .ok .next, h2 => exact h2.elim
  | .ok .brk, h2 => exact h2.elim
  | .ok .cont, h2 => exact h2.elim
  | .ok (.ret u), h2 =>
    obtain ⟨v, H2, I2, r2, it, rfl, le, n, rfl⟩ := I1.after h2
    cases (show u = Value.ref it from r2)
    have g2 : L2.upd H1 it (TitO t it) it = some (TitO t it) := upd_same
    have ho : s2.heap.get? it = some ({ cls := .type "tuple_iterator", data := .fields #[.ref t, .int 0 0] } : Obj) := (I2.hok it _ g2).1
    have hT : s2.TypeIs (.ref it) "tuple_iterator" := ⟨_, ho, rfl⟩
    refine wpAny_specialOf (name := Str.ofString "__next__") hT PySem.F.slot_tuple_iterator_next.lookup ?_
    show PIE X pins σ tg R (.ref it) s2
    have I3 := ItX.inv_drop I2 g2
    have fp := ItX.inv_fp I2 g2 (Nat.le_trans I1.sz le)
    rw [ItX.dropH_upd n] at I3 fp
    refine ⟨it, [it], _, Itt X.K t, H1, rfl, I3, turn_tuple t it, ⟨_, ho, rfl, rfl⟩, fun b hb => ?_, q⟩
    rw [List.mem_singleton.mp hb]
    exact fp
end EL
/-! list(zip(text, text)). -/
namespace EL
open PySem PySem.Spec PyProof.Rows L2
section
variable {prog : Program} {w : World} {A : Around} {E : Value → Shared → Prop} {s : Shared} {z TI TO i1 i2 S : Addr} {a b : Str} {ta tb : Tok} {h0 : Heap} {n : Nat}
/-- what a step of the model asks of what it gives -/
abbrev FinQ (prog : Program) (w : World) (A : Around) (R : Result → Shared → Prop) (fin : Fin) (s' : Shared) : Prop := match fin with
  | .done f => R (.ok f) s'
  | .again c' => c'.quiet = true ∧ codeAny (model prog w) A c' R s'
theorem extend_zip {R : Result → Shared → Prop} {res : Value} {c0 : Nat} (hh : A.handled = none) (ha : a.cps.size = n) (hb : b.cps.size = n) (hn : n < sizeLine) (sep : ZipSep2 z TI TO i1 i2 [i1] [i2]) (Z : ZNew z TI TO i1 i2 a b ta tb h0 s.heap)
    (lS : s.heap.get? S = some { cls := .type "list", data := .seq #[] c0 }) (out : S ∉ [z, TI, TO, i1, i2]) (le : h0.objs.size ≤ S)
    (hR : ∀ acc' h' tk, acc'.size = n → (∃ no, PairsAt a b acc' no h0.objs.size h') → (∃ c, h'.get? S = some { cls := .type "list", dict := none, data := .seq acc' c, slots := #[] }) → (∀ c o, h0.get? c = some o → h'.get? c = some o) → R (.ok (.ret res)) { s with heap := h', toks := tk }) :
    wpAny (model prog w) A.in1 (Builtin.List.listExtendWith (.ref S) (.ref z) res) (FinQ prog w A R) (fun e s' => R (.error e) s') s := by
  obtain ⟨o1, ho1, r1⟩ := Z.s1
  obtain ⟨o2, ho2, r2⟩ := Z.s2
  have ty : s.TypeIs (.ref z) "zip" := ⟨_, Z.zip, rfl⟩
  have zS : S ≠ z := fun e => out (by simp [e])
  unfold Builtin.List.listExtendWith
  refine wpAny_bind (wpAny_typeOf ty ?_)
  have q1 : Builtin.List.listSameRef (.ref S) (.ref z) = false := by simp [Builtin.List.listSameRef, zS]
  have q2 : (Value.type "zip" == Value.type "list") = false := by decide
  have q3 : (Value.type "zip" == Value.type "tuple") = false := by decide
  simp only [q1, q2, q3, Bool.or_false, Bool.false_eq_true, if_false]
  unfold Builtin.List.listLengthHint
  refine wpAny_bind (wpAny_pyIter_zip Z.zip (wpAny_bind (wpAny_holding (wpAny_bind (wpAny_specialOf ty zip_len_none ?_)))))
  show wpAny _ A.in1 (specialOf (Value.ref z) (Str.ofString "__length_hint__") >>= _) _ _ s
  refine wpAny_bind (wpAny_specialOf ty zip_hint_none (wpAny_pure ?_))
  show wpAny _ A.in1 (rule "list.extend.makes-room" >>= fun _ => Builtin.List.listTouch (.ref S) >>= fun _ => again (.builtin "list.extend.loop" ⟨[.ref S, .ref z, res], []⟩)) _ _ s
  refine wpAny_bind (wpAny_rule (wpAny_bind ?_))
  show wpAny _ A.in1 (updateSeq S (·.push .none) >>= fun _ => updateSeq S (·.pop)) _ _ s
  have l2 := Heap.get?_update_self (Obj.mapSeq (·.push Value.none)) lS rfl
  have l3 := Heap.get?_update_self (Obj.mapSeq (·.pop)) l2 rfl
  refine wpAny_bind (wpAny_updateSeq lS rfl (wpAny_updateSeq l2 rfl ?_))
  generalize hK : (s.heap.update S (Obj.mapSeq (·.push Value.none))).update S (Obj.mapSeq (·.pop)) = L at l3
  have oth : ∀ c o, c ≠ S → s.heap.get? c = some o → L.get? c = some o := fun c o hc e => by
    rw [← hK]
    exact (Heap.get?_update_other _ _ (Ne.symm hc)).trans ((Heap.get?_update_other _ _ (Ne.symm hc)).trans e)
  have ne : ∀ c ∈ [z, TI, TO, i1, i2], c ≠ S := fun c hc e => out (e ▸ hc)
  have zs : ZS z TI TO i1 i2 S a b ta tb h0 0 #[] L := ⟨.inl ⟨rfl, oth _ _ (ne z (by simp)) Z.zip⟩, oth _ _ (ne TI (by simp)) Z.ti, ⟨_, _, oth _ _ (ne TO (by simp)) Z.tot⟩, ⟨o1, oth _ _ (ne i1 (by simp)) ho1, r1⟩, ⟨o2, oth _ _ (ne i2 (by simp)) ho2, r2⟩, ⟨_, l3⟩, rfl, fun j v e => by simp at e, fun c o e => oth c o (fun q => absurd (Heap.lt_size e) (Nat.not_lt.mpr (q ▸ le))) (Z.old c o e)⟩
  refine wpAny_pure ⟨plainId_quiet PySem.F.plain_extend_loop _, zip_loop hh ha hb hn sep out (fun c m => ?_) n 0 _ #[] rfl (Nat.zero_le _) zs fun acc h' tk y1 y2 y3 y4 => hR acc h' tk y1 ⟨_, y2⟩ y3 y4⟩
  simp only [List.mem_cons, List.not_mem_nil, or_false] at m
  rcases m with m | m | m | m | m | m
  · exact Z.new c (by simp [m])
  · exact Z.new c (by simp [m])
  · exact Z.new c (by simp [m])
  · exact Z.new c (by simp [m])
  · exact Z.new c (by simp [m])
  · rw [m]; exact le
theorem ZNew.push {h : Heap} {o : Obj} (Z : ZNew z TI TO i1 i2 a b ta tb h0 h) : ZNew z TI TO i1 i2 a b ta tb h0 (h.push o) := by
  have up : ∀ c u, h.get? c = some u → (h.push o).get? c = some u := fun c u e => Heap.get?_push_of_some _ e
  obtain ⟨o1, ho1, r1⟩ := Z.s1
  obtain ⟨o2, ho2, r2⟩ := Z.s2
  exact ⟨up _ _ Z.zip, up _ _ Z.ti, up _ _ Z.tot, ⟨o1, up _ _ ho1, r1⟩, ⟨o2, up _ _ ho2, r2⟩, fun c u e => up c u (Z.old c u e), Z.new, by rw [Heap.size_push]; exact Nat.le_succ_of_le Z.le⟩
theorem ZNew.upd {h : Heap} {f : Obj → Obj} (Z : ZNew z TI TO i1 i2 a b ta tb h0 h) (out : S ∉ [z, TI, TO, i1, i2]) (le : h0.objs.size ≤ S) : ZNew z TI TO i1 i2 a b ta tb h0 (h.update S f) := by
  have up : ∀ c u, c ≠ S → h.get? c = some u → (h.update S f).get? c = some u := fun c u hc e => (Heap.get?_update_other _ _ (Ne.symm hc)).trans e
  have ne : ∀ c ∈ [z, TI, TO, i1, i2], c ≠ S := fun c hc e => out (e ▸ hc)
  obtain ⟨o1, ho1, r1⟩ := Z.s1
  obtain ⟨o2, ho2, r2⟩ := Z.s2
  exact ⟨up _ _ (ne z (by simp)) Z.zip, up _ _ (ne TI (by simp)) Z.ti, up _ _ (ne TO (by simp)) Z.tot, ⟨o1, up _ _ (ne i1 (by simp)) ho1, r1⟩, ⟨o2, up _ _ (ne i2 (by simp)) ho2, r2⟩, fun c u e => up c u (fun q => absurd (Heap.lt_size e) (Nat.not_lt.mpr (q ▸ le))) (Z.old c u e), Z.new, by
    have := Z.le
    have e : (h.update S f).objs.size = h.objs.size := by cases h; simp [Heap.update]
    rw [e]; exact this⟩
theorem call_list_zip {Q : Value → Shared → Prop} (hh : A.handled = none) (ha : a.cps.size = n) (hb : b.cps.size = n) (hn : n < sizeLine) (sep : ZipSep2 z TI TO i1 i2 [i1] [i2]) (Z : ZNew z TI TO i1 i2 a b ta tb h0 s.heap)
    (hQ : ∀ (h' : Heap) (tk : Nat) (acc : Array Value), acc.size = n → (∃ no, PairsAt a b acc no h0.objs.size h') → (∃ c, h'.get? s.heap.objs.size = some { cls := .type "list", dict := none, data := .seq acc c, slots := #[] }) → (∀ c o, h0.get? c = some o → h'.get? c = some o) → Q (.ref s.heap.objs.size) { s with heap := h', toks := tk }) :
    wpAny (model prog w) A (call (.type "list") [.ref z]) Q E s := by
  obtain ⟨o1, ho1, r1⟩ := Z.s1
  obtain ⟨o2, ho2, r2⟩ := Z.s2
  have nS : ∀ {c o}, s.heap.get? c = some o → s.heap.objs.size ≠ c := fun e => Nat.ne_of_gt (Heap.lt_size e)
  have out : s.heap.objs.size ∉ [z, TI, TO, i1, i2] := by
    simp only [List.mem_cons, List.not_mem_nil, or_false, not_or]
    exact ⟨nS Z.zip, nS Z.ti, nS Z.tot, nS ho1, nS ho2⟩
  refine callType_codes (Q₁ := fun obj s₁ => obj = .ref s.heap.objs.size ∧ s₁ = { s with heap := s.heap.push { cls := .type "list", data := .seq #[] } }) PySem.F.called_list (PySem.F.typeCall_list_1 _) PySem.F.entry_list_init (code_list_new _ ⟨rfl, rfl⟩) fun obj s₁ h₁ => ?_
  obtain ⟨rfl, rfl⟩ := h₁
  have g0 : (s.heap.push { cls := .type "list", data := .seq #[] }).get? s.heap.objs.size = some { cls := .type "list", data := .seq #[] } := Heap.get?_push_size _ rfl
  have Z1 := Z.push (o := { cls := .type "list", data := .seq #[] })
  refine ⟨⟨_, g0, rfl⟩, PySem.F.args_list_init_2 _ _, ?_⟩
  show wpAny _ _ (do let old ← Builtin.List.listItems (.ref s.heap.objs.size); Builtin.List.listUpdate (.ref s.heap.objs.size) (fun _ => #[]); letGo old.toList.reverse; Builtin.List.listExtendWith (.ref s.heap.objs.size) (.ref z) .none) _ _ _
  unfold Builtin.List.listItems
  refine wpAny_bind (wpAny_bind (wpAny_seqItems g0 rfl (wpAny_pure ?_)))
  show wpAny _ _ (updateSeq s.heap.objs.size (fun _ => #[]) >>= fun _ => letGo (#[] : Array Value).toList.reverse >>= fun _ => Builtin.List.listExtendWith (.ref s.heap.objs.size) (.ref z) .none) _ _ _
  refine wpAny_bind (wpAny_updateSeq g0 rfl (wpAny_bind (wpAny_letGo ?_)))
  have g1 := Heap.get?_update_self (Obj.mapSeq (fun _ => (#[] : Array Value))) g0 rfl
  exact extend_zip (A := A.in1) (R := wants (fun r s₂ => r = .none ∧ Q (.ref s.heap.objs.size) s₂) E) hh ha hb hn sep (Z1.upd out Z.le) g1 out Z.le fun acc h' tk y1 y2 y3 y4 => ⟨rfl, hQ h' tk acc y1 y2 y3 y4⟩
end
section
variable {X : Cx} {pins : List (Addr × Obj)} {σ : L2.St} {H : Hp} {s : Shared}
theorem track_pairsL {a b : Str} {no : List Addr} {acc : Array Value} {h' : Heap} {tk S c0 : Nat} (I : Inv X pins σ H s) (hab : a.cps.size = b.cps.size) (hl : a.cps.size ≤ 1000000) (hacc : acc.size = a.cps.size) (pa : PairsAt a b acc no s.heap.objs.size h')
    (old : ∀ c o, s.heap.get? c = some o → h'.get? c = some o) (le : s.heap.objs.size ≤ S) (gS : h'.get? S = some { cls := .type "list", dict := none, data := .seq acc c0, slots := #[] }) :
    ∃ H3 vs, Same H H3 ∧ H3 S = some (.lst vs) ∧ AllR PrR H3 vs (a.cps.toList.zip b.cps.toList) ∧ Inv X pins σ H3 { s with heap := h', toks := tk } := by
  obtain ⟨vs, hv⟩ : ∃ vs : List V, Vals vs acc.toList := by
    have key : ∀ l : List Value, (∀ v ∈ l, ∃ T, v = Value.ref T) → ∃ vs : List V, Vals vs l := by
      intro l
      induction l with
      | nil => exact fun _ => ⟨[], .nil⟩
      | cons v l ih =>
        intro f
        obtain ⟨T, e⟩ := f v List.mem_cons_self
        obtain ⟨vs, q⟩ := ih fun v hv => f v (List.mem_cons_of_mem _ hv)
        exact ⟨.ref T :: vs, .cons e q⟩
    refine key _ fun v hm => ?_
    obtain ⟨j, hj⟩ := List.mem_iff_getElem?.mp hm
    obtain ⟨T, _, _, _, _, e, _⟩ := pa j v (by rw [← Array.getElem?_toList]; exact hj)
    exact ⟨T, e⟩
  have lenV : vs.length = acc.size := by rw [hv.length, Array.length_toList]
  let H3 : Hp := fun c => if c < s.heap.objs.size then H c else if c = S then some (.lst vs) else pairHO h' c
  have lo : ∀ c, c < s.heap.objs.size → H3 c = H c := fun c q => if_pos q
  have hp : H3 S = some (.lst vs) := by
    show (if _ then _ else _) = _
    rw [if_neg (Nat.not_lt.mpr le), if_pos rfl]
  have hpair : ∀ T c1 c2 t1 t2, s.heap.objs.size ≤ T → IsTupOf2 h' T (.str ⟨#[c1]⟩ t1) (.str ⟨#[c2]⟩ t2) → H3 T = some (.tup [.str ⟨#[c1]⟩, .str ⟨#[c2]⟩]) := fun T c1 c2 t1 t2 q e => by
    show (if _ then _ else _) = _
    have e' : h'.get? T = some _ := e
    rw [if_neg (Nat.not_lt.mpr q), if_neg (fun z => by
      rw [z, gS] at e'
      have q2 : Value.type "list" = Value.type "tuple" := congrArg Obj.cls (Option.some.inj e')
      injection q2 with q3
      exact absurd q3 (by decide))]
    exact pairHO_at e
  have sm : Same H H3 := fun c o e => by rw [lo c (I.hok.lt e)]; exact e
  have ok : HOk X.prog X.w H3 h' := by
    intro c o e
    by_cases q : c < s.heap.objs.size
    · rw [lo c q] at e
      exact (I.hok c o e).stay (fun d u _ hd => old d u hd) (fun d hd => sm _ _ hd) fun d xs hd => sm _ _ hd
    · by_cases q2 : c = S
      · subst q2
        rw [hp] at e
        obtain rfl := Option.some.inj e
        exact ⟨len_sz (by rw [lenV, hacc]; exact hl), acc.toList, _, hv, by rw [Array.toArray_toList]; exact gS⟩
      · have e' : pairHO h' c = some o := by
          have z : H3 c = pairHO h' c := by
            show (if _ then _ else _) = _
            rw [if_neg q, if_neg q2]
          rw [← z]; exact e
        exact (pairHO_ok (P := X.prog) (w := X.w) (H := fun _ => none) e').stay (fun d u hd z => z) (fun d hd => nomatch hd) fun d xs hd => nomatch hd
  have lz : (a.cps.toList.zip b.cps.toList).length = vs.length := by
    rw [List.length_zip, Array.length_toList, Array.length_toList, ← hab, Nat.min_self, lenV, hacc]
  refine ⟨H3, vs, sm, hp, allR_of lz.symm (fun i v hvi => ?_), I.un ?_ ok⟩
  · obtain ⟨u, hu, ru⟩ := hv.get hvi
    obtain ⟨T, c1, c2, t1, t2, e, _, q, e3, e4, e5⟩ := pa i u (by rw [← Array.getElem?_toList]; exact hu)
    subst e
    have ev : v = .ref T := by
      cases v <;> simp [L2.RelV] at ru
      rw [ru]
    subst ev
    refine ⟨(c1, c2), ?_, T, rfl, hpair T c1 c2 t1 t2 q e3⟩
    rw [List.getElem?_zip_eq_some]
    exact ⟨by rw [Array.getElem?_toList]; exact e4, by rw [Array.getElem?_toList]; exact e5⟩
  · have lt : ∀ {c o}, s.heap.get? c = some o → c < s.heap.objs.size := fun e => Heap.lt_size e
    exact ⟨fun c o e _ _ _ => old c o e, fun c o e _ _ _ => ⟨o.slots, old c o e⟩, fun c o e n _ => by rw [lo c (lt e)]; exact n, fun c o e _ => ⟨o, old c o e⟩, fun c xs e => sm _ _ e, fun c o u e => sm _ _ e, fun c ps e => ⟨#[], by rw [sm _ _ e]; simp⟩⟩
end
def tLZ (K : PySem.W.Frag) (ta tb : TE) : TE := fun σ H Q => ta σ H fun x H1 => tb σ H1 fun y H2 => ∃ a b : Str, x = .str a ∧ y = .str b ∧ a.cps.size = b.cps.size ∧ a.cps.size ≤ 1000000 ∧
  ∀ p us H3, Same H2 H3 → H2 p = none → H3 p = some (.lst us) → AllR PrR H3 us (a.cps.toList.zip b.cps.toList) → Q (.ref p) H3
/-- what list(zip(..)) asks of its two values -/
def lzR (K : PySem.W.Frag) (Q : VK) : List V → Hp → Prop := fun vs H2 => match vs with
  | [x, y] => ∃ a b : Str, x = .str a ∧ y = .str b ∧ a.cps.size = b.cps.size ∧ a.cps.size ≤ 1000000 ∧ ∀ p us H3, Same H2 H3 → H2 p = none → H3 p = some (.lst us) → AllR PrR H3 us (a.cps.toList.zip b.cps.toList) → Q (.ref p) H3
  | _ => False
theorem lzR_of {K : PySem.W.Frag} {Q : VK} {vs : List V} {H2 : Hp} (h : lzR K Q vs H2) : ∃ a b : Str, vs = [.str a, .str b] ∧ a.cps.size = b.cps.size ∧ a.cps.size ≤ 1000000 ∧ ∀ p us H3, Same H2 H3 → H2 p = none → H3 p = some (.lst us) → AllR PrR H3 us (a.cps.toList.zip b.cps.toList) → Q (.ref p) H3 := by
  unfold lzR at h
  split at h
  · obtain ⟨a, b, rfl, rfl, r⟩ := h
    exact ⟨a, b, rfl, r⟩
  · exact h.elim
section
variable {X : Cx} {e1 e2 : Expr} {ta tb : TE} {p1 p2 pos1 pos2 : Pos}
/-- list(zip(e1, e2)) of two texts of one length -/
theorem pe_lstzip (hc : X.calm = true) (nt : X.mg "list" = none) (nz : X.mg "zip" = none) (h1 : PE X e1 ta) (h2 : PE X e2 tb) (gt : Gl X "list" := by rfl) (gz : Gl X "zip" := by rfl)
    (he : starEach [e1, e2] X.env = (false, eval e1 X.env) :: starEach [e2] X.env := by rfl) (he2 : starEach [e2] X.env = (false, eval e2 X.env) :: starEach [] X.env := by rfl) (hpl : (backTo pos2 (starEach [e2] X.env)).any (·.1) = false := by rfl)
    (ho : starEach [(Expr.Call (.Name "zip" p2) [e1, e2] [] pos2)] X.env = (false, eval (.Call (.Name "zip" p2) [e1, e2] [] pos2) X.env) :: starEach [] X.env := by rfl) (hpo : (backTo pos1 (starEach [] X.env)).any (·.1) = false := by rfl) :
    PE X (.Call (.Name "list" p1) [.Call (.Name "zip" p2) [e1, e2] [] pos2] [] pos1) (tLZ X.K ta tb) := by
  refine ⟨fun pins s σ H Q I h => ?_⟩
  refine wpAny_Call_Name_kw (ld_blt I gt nt PyProof.Rows.boot_list ?_)
  refine PyProof.Rows.callWith_type1 ?_ ho hpo
  rw [ho]
  show wpAny _ _ (spliced ((false, _) :: backTo pos1 (starEach [] X.env))) _ _ s
  refine Calls.spliced_cons ?_
  refine wpAny_Call_Name_kw (ld_blt I gz nz PyProof.Rows.boot_zip ?_)
  refine PyProof.Rows.callWith_type1 (thn ((pa_cons h1 (pa_cons h2 pa_nil he2) he).run pos2 pins s σ H (lzR X.K Q) I h) fun us s1 hh => ?_) he hpl
  obtain ⟨vs, H1, I1, r1, q1⟩ := hh
  obtain ⟨a, b, rfl, hab, hl, q⟩ := lzR_of q1
  obtain ⟨ta1, tb1, rfl⟩ : ∃ t u, us = [.str a t, .str b u] := by
    cases r1 with
    | cons x1 r =>
      cases r with
      | cons x2 r =>
        cases r
        obtain ⟨t, rfl⟩ := x1
        obtain ⟨u, rfl⟩ := x2
        exact ⟨t, u, rfl⟩
  obtain ⟨hp, g, d, tk0, os⟩ := s1
  refine zip_begins2 (begins_text a ta1) (begins_text b tb1) trivial trivial fun h' z1 z2 z3 z4 z5 z6 z7 => ?_
  have sep : ZipSep2 (hp.objs.size + 4) (hp.objs.size + 2) (hp.objs.size + 3) hp.objs.size (hp.objs.size + 1) [hp.objs.size] [hp.objs.size + 1] := zip_sep2 (fun _ m => (List.not_mem_nil m).elim) fun _ m => (List.not_mem_nil m).elim
  have Z : ZNew (hp.objs.size + 4) (hp.objs.size + 2) (hp.objs.size + 3) hp.objs.size (hp.objs.size + 1) a b ta1 tb1 hp h' := ⟨z1, z2, z3, ⟨_, z4, rfl, rfl⟩, ⟨_, z5, rfl, rfl⟩, z7, fun c m => (by
    simp only [List.mem_cons, List.not_mem_nil, or_false] at m
    rcases m with m | m | m | m | m <;> rw [m] <;> first | exact Nat.le_refl _ | exact Nat.le_add_right _ _), (by rw [z6]; exact Nat.le_add_right _ _)⟩
  show wpAny _ _ (spliced (backTo pos1 (starEach [] X.env))) _ _ _
  refine Calls.spliced_nil ?_
  have hh : X.A.handled = none := I1.ok.hd hc
  refine call_list_zip (s := ⟨h', g, d, tk0, os⟩) (n := a.cps.size) hh rfl hab.symm (lt_sz hl) sep Z fun h2 tk acc y1 y2 y3 y4 => ?_
  obtain ⟨no, pa⟩ := y2
  obtain ⟨c0, gS⟩ := y3
  have leS : hp.objs.size ≤ h'.objs.size := by rw [z6]; exact Nat.le_add_right _ _
  obtain ⟨H3, us, sm, gp, ap, J⟩ := track_pairsL (tk := tk) I1 hab hl y1 pa y4 leS gS
  exact ⟨.ref h'.objs.size, H3, J, rfl, q _ us H3 sm (I1.hok.fresh leS) gp ap⟩
end
end EL
/-! sorted(xs) of data that can be compared. -/
namespace EL
open PySem PySem.Spec PyProof.Rows L2
def rSortedD {α : Type} (K : PySem.W.Frag) (enc : α → PyData) : List V → Hp → VK → Prop := fun xs H Q => ∃ (l : Addr) (vs : List V) (as : List α), xs = [.ref l] ∧ SqL K H l vs ∧ DqAll K H vs (as.map enc) ∧ PySem.W.AllAlike (as.map enc) ∧ PySem.W.Sortable (as.map enc) ∧ as.length ≤ 1000000 ∧ (∀ a ∈ as, (enc a).depth ≤ 5) ∧
  ∀ (p : Addr) (us : List V) (bs : List α), H p = none → bs.Perm as → bs.Pairwise (fun a b => PySem.W.dataLe false enc a b = true) → DqAll K H us (bs.map enc) → Q (.ref p) (L2.upd H p (.lst us))
theorem zip_dq {α : Type} {K : PySem.W.Frag} {H : Hp} {enc : α → PyData} : ∀ {vs : List V} {as : List α}, DqAll K H vs (as.map enc) → (∀ b ∈ vs.zip as, Dq K H b.1 (enc b.2)) ∧ (vs.zip as).map (·.2) = as ∧ (vs.zip as).length = as.length
  | [], [], _ => ⟨fun b h => (List.not_mem_nil h).elim, rfl, rfl⟩
  | [], _ :: _, h => by cases h
  | _ :: _, [], h => by cases h
  | v :: vs, a :: as, h => by
    cases h with
    | cons h1 h2 =>
      obtain ⟨q1, q2, q3⟩ := zip_dq h2
      refine ⟨fun b hb => ?_, by rw [List.zip_cons_cons, List.map_cons, q2], by rw [List.zip_cons_cons, List.length_cons, q3, List.length_cons]⟩
      rw [List.zip_cons_cons] at hb
      rcases List.mem_cons.mp hb with rfl | hb
      · exact h1
      · exact q1 b hb
theorem zip_each {α : Type} {R : Value → V × α → Prop} : ∀ {vs : List V} {us : List Value} {as : List α}, Vals vs us → vs.length = as.length → (∀ v u a, (v, a) ∈ vs.zip as → RelV v u → R u (v, a)) → PySem.W.EachIs R us (vs.zip as)
  | [], _, [], .nil, _, _ => .nil
  | [], _, _ :: _, _, h, _ => by simp at h
  | _ :: _, _, [], _, h, _ => by simp at h
  | v :: vs, _, a :: as, .cons r rr, h, f => by
    refine .cons (f v _ a (by rw [List.zip_cons_cons]; exact List.mem_cons_self) r) (zip_each rr (by simpa using h) fun v' u' a' hm => f v' u' a' (by rw [List.zip_cons_cons]; exact List.mem_cons_of_mem _ hm))
theorem each_vals {α : Type} : ∀ {out : List Value} {bs : List (V × α)}, PySem.W.EachIs (fun u b => RelV b.1 u) out bs → Vals (bs.map (·.1)) out
  | _, _, .nil => .nil
  | _, _, .cons h t => .cons h (each_vals t)
theorem dq_pairs {α : Type} {K : PySem.W.Frag} {H : Hp} {enc : α → PyData} : ∀ {bs : List (V × α)}, (∀ b ∈ bs, Dq K H b.1 (enc b.2)) → DqAll K H (bs.map (·.1)) ((bs.map (·.2)).map enc)
  | [], _ => .nil
  | b :: bs, h => .cons (h b List.mem_cons_self) (dq_pairs fun c hc => h c (List.mem_cons_of_mem _ hc))
theorem cr_sortedD {X : Cx} {α : Type} (enc : α → PyData) (hu : X.A.units + 64 < cLine) : CallR X (.builtin "sorted") (rSortedD X.K enc) := by
  intro pins s σ H xs us0 Q I r h
  obtain ⟨l, vs, as, rfl, hs, hd, hal, hk, hL, hdep, q⟩ := h
  obtain ⟨u, rfl, ru⟩ := vals1 r
  cases ru
  obtain ⟨its, rv, pl, _⟩ := I.list hs
  obtain ⟨z1, z2, z3⟩ := zip_dq hd
  have lv : vs.length = as.length := by rw [hd.len, List.length_map]
  have em : (vs.zip as).map (fun b => enc b.2) = as.map enc := by
    rw [← z2, List.map_map, z2]; rfl
  refine PySem.W.sorted_data (R := fun u (b : V × α) => RelV b.1 u) (enc := fun b : V × α => enc b.2) (bs := vs.zip as) (vs := its) pl.isList (zip_each rv lv fun _ _ _ _ h => h) (zip_each rv lv fun v u a hm hr => ?_) (by rw [em]; exact hal) (by rw [em]; exact hk) (by rw [z3, sizeLine_eq]; omega) (fun b hb => ?_) fun out ho eo => ?_
  · obtain ⟨A, hA, _⟩ := Dq.reads I _ _ _ (z1 (v, a) hm) hr
    exact ⟨A, hA⟩
  · have := hdep b.2 (by rw [← z2]; exact List.mem_map.mpr ⟨b, hb, rfl⟩)
    omega
  · have pm := List.mergeSort_perm (vs.zip as) (PySem.W.dataLe false fun b : V × α => enc b.2)
    have pw : ((vs.zip as).mergeSort (PySem.W.dataLe false fun b : V × α => enc b.2)).Pairwise (fun a b => PySem.W.dataLe false (fun b : V × α => enc b.2) a b = true) := PySem.W.sort_pairwise (PySem.W.sortLe_total _ _ _) _
    generalize (vs.zip as).mergeSort (PySem.W.dataLe false fun b : V × α => enc b.2) = bs at eo pm pw
    obtain ⟨ep, he'⟩ := PyProof.Rows.sortedAll_at s.heap its out.toArray
    have bl : bs.length = as.length := by rw [pm.length_eq, z3]
    have hlen : (bs.map (·.1)).length ≤ sizeLine := by rw [List.length_map, bl, sizeLine_eq]; omega
    refine ⟨.ref _, L2.upd H (s.heap.objs.size + 1) (.lst (bs.map (·.1))), I.laid (t' := s.toks) (fun _ _ => PyProof.Rows.sortedAll_old) (Nat.le_succ _) ⟨hlen, out, ep, each_vals eo, he'⟩, rfl, q _ _ (bs.map (·.2)) (I.hok.fresh (Nat.le_succ _)) ?_ ?_ (dq_pairs fun b hb => z1 b (pm.mem_iff.mp hb))⟩
    · have := pm.map (·.2)
      rwa [z2] at this
    · rw [List.pairwise_map]
      exact pw
end EL
/-! Dicts whose keys are tuples, any tuples: constants of the text too. Tracked by their own object alone; the keys by SqT beside. -/
namespace EL
open PySem PySem.Spec PyProof.Rows L2
/-- an entry: the key, the object that stands for it, the value -/
abbrev KA := List L2.Key × Addr × V
abbrev kvOf (xs : List KA) : List (List L2.Key × V) := xs.map fun x => (x.1, x.2.2)
abbrev RelA (p : KA) (q : List L2.Key × Addr × Value) : Prop := p.1 = q.1 ∧ p.2.1 = q.2.1 ∧ RelV p.2.2 q.2.2
def DXp (P : Program) (w : World) (d : Addr) (xs : List KA) (h : Heap) : Prop := xs.length ≤ sizeLine ∧ (d == sysModules) = false ∧
  ∃ (ys : List (List L2.Key × Addr × Value)) (o : Obj) (es : Array DictEntry) (ep : Nat), Paired RelA xs ys ∧ h.get? d = some o ∧ o.ExactDict ∧ o.data = .dict es ep ∧ es.toList = ys.map (entryOfKey (tupleKind (mixKind P w))) ∧ (ys.map (·.1)).Nodup
def DX (P : Program) (w : World) (d : Addr) (xs : List KA) : HO := .ext (DXp P w d xs)
/-- at d a dict with tuple keys -/
def TabT (P : Program) (w : World) (K : PySem.W.Frag) (H : Hp) (d : Addr) (kvs : List (List L2.Key × V)) : Prop := ∃ xs, H d = some (DX P w d xs) ∧ kvOf xs = kvs ∧ ∀ x ∈ xs, SqT K H x.2.1 (x.1.map kV)
theorem TabT.up {P : Program} {w : World} {K : PySem.W.Frag} {H H' : Hp} {d : Addr} {kvs : List (List L2.Key × V)} (t : TabT P w K H d kvs) (s : Same H H') : TabT P w K H' d kvs := by
  obtain ⟨xs, h1, h2, h3⟩ := t
  exact ⟨xs, s _ _ h1, h2, fun x hx => ex_t' s (h3 x hx)⟩
theorem dx_ok {P : Program} {w : World} {H : Hp} {h : Heap} {d : Addr} {xs : List KA} (x : DXp P w d xs h) : ObjOk P w H h d (DX P w d xs) := by
  refine ⟨x, ?_, fun h1 h2 y k => ?_⟩
  · obtain ⟨_, _, _, o, _, _, _, e, _⟩ := x
    exact ⟨o, e⟩
  · obtain ⟨z1, z2, ys, o, es, ep, z3, e, z4⟩ := y
    exact ⟨z1, z2, ys, o, es, ep, z3, k _ e, z4⟩
theorem relA_val {xs : List KA} {ys : List (List L2.Key × Addr × Value)} (r : Paired RelA xs ys) (k : List L2.Key) : RelO (valV (kvOf xs) k) ((atKey ys k).map (·.2)) := by
  induction r with
  | nil => exact True.intro
  | @cons p q ps qs h t ih =>
    by_cases e : p.1 = k
    · have a : atKey (q :: qs) k = some q.2 := by simp [atKey, List.find?_cons, h.1.symm.trans e]
      rw [a]
      show RelO (valV ((p.1, p.2.2) :: kvOf ps) k) _
      rw [valV_pos (show (p.1, p.2.2).1 = k from e)]
      exact h.2.2
    · have a : atKey (q :: qs) k = atKey qs k := by simp [atKey, List.find?_cons, show ¬ q.1 = k from fun z => e (h.1.trans z)]
      rw [a]
      show RelO (valV ((p.1, p.2.2) :: kvOf ps) k) _
      rw [valV_neg (show ¬ (p.1, p.2.2).1 = k from e)]
      exact ih
/-- the entries behind d[k] = v, k at b -/
def putA (xs : List KA) (k : List L2.Key) (b : Addr) (v : V) : List KA := if (valV (kvOf xs) k).isSome = true then xs.map (fun x => if x.1 = k then (x.1, x.2.1, v) else x) else xs ++ [(k, b, v)]
theorem kvOf_putA (xs : List KA) (k : List L2.Key) (b : Addr) (v : V) : kvOf (putA xs k b v) = putK (kvOf xs) k v := by
  unfold putA putK
  rw [valV_any]
  by_cases h : (valV (kvOf xs) k).isSome = true
  · rw [if_pos h, if_pos h]
    show List.map _ (List.map _ _) = List.map _ (List.map _ _)
    rw [List.map_map, List.map_map]
    refine List.map_congr_left fun x _ => ?_
    show ((if x.1 = k then (x.1, x.2.1, v) else x).1, (if x.1 = k then (x.1, x.2.1, v) else x).2.2) = if x.1 = k then (x.1, v) else (x.1, x.2.2)
    by_cases e : x.1 = k
    · rw [if_pos e, if_pos e]
    · rw [if_neg e, if_neg e]
  · rw [if_neg h, if_neg h]
    show List.map _ (_ ++ _) = _
    rw [List.map_append]; rfl
theorem relA_put {xs : List KA} {ys : List (List L2.Key × Addr × Value)} (r : Paired RelA xs ys) {k : List L2.Key} {b : Addr} {v : V} {u : Value} (rv : RelV v u) : Paired RelA (putA xs k b v) (storedH ys k b u) := by
  have e : (valV (kvOf xs) k).isSome = (atKey ys k).isSome := by
    have := (relA_val r k).isSome_eq
    rwa [Option.isSome_map] at this
  unfold putA storedH
  rw [e]
  by_cases h : (atKey ys k).isSome = true
  · rw [if_pos h, if_pos h]
    clear e h
    induction r with
    | nil => exact .nil
    | @cons p q ps qs z t ih =>
      refine .cons ?_ ih
      by_cases c : p.1 = k
      · show RelA (if p.1 = k then (p.1, p.2.1, v) else p) _
        rw [if_pos c, show putAt k u q = (q.1, q.2.1, u) from if_pos (z.1.symm.trans c)]
        exact ⟨z.1, z.2.1, rv⟩
      · show RelA (if p.1 = k then (p.1, p.2.1, v) else p) _
        rw [if_neg c, show putAt k u q = q from if_neg fun y => c (z.1.trans y)]
        exact z
  · rw [if_neg h, if_neg h]
    exact Paired.snoc r ⟨rfl, rfl, rv⟩
theorem putA_len (xs : List KA) (k : List L2.Key) (b : Addr) (v : V) : (putA xs k b v).length ≤ xs.length + 1 := by
  unfold putA
  split
  · rw [List.length_map]; omega
  · rw [List.length_append]; exact Nat.le_refl _
theorem putA_mem {xs : List KA} {k : List L2.Key} {b : Addr} {v : V} {x : KA} (h : x ∈ putA xs k b v) : (∃ y ∈ xs, x.1 = y.1 ∧ x.2.1 = y.2.1) ∨ (x.1 = k ∧ x.2.1 = b) := by
  unfold putA at h
  split at h
  · obtain ⟨y, hy, rfl⟩ := List.mem_map.mp h
    refine .inl ⟨y, hy, ?_⟩
    by_cases c : y.1 = k
    · rw [if_pos c]; exact ⟨rfl, rfl⟩
    · rw [if_neg c]; exact ⟨rfl, rfl⟩
  · rcases List.mem_append.mp h with h | h
    · exact .inl ⟨x, h, rfl, rfl⟩
    · rw [List.mem_singleton.mp h]; exact .inr ⟨rfl, rfl⟩
section
variable {X : Cx} {pins : List (Addr × Obj)} {σ : L2.St} {H : Hp} {s : Shared} {d b : Addr} {ks : List L2.Key} {kvs : List (List L2.Key × V)} {A : Around} {E : Value → Shared → Prop}
/-- a tuple that is known is a key -/
theorem key_sq (I : Inv X pins σ H s) (h : SqT X.K H b (ks.map kV)) : (tupleKind (mixKind X.prog X.w)).is s.heap ks b := by
  obtain ⟨its, r, ⟨o, h1, h2, n, h3⟩, _⟩ := I.tuple h
  exact ⟨o, its.toArray, n, h1, h2, h3, by simpa using items_are r⟩
theorem dx_rd {xs : List KA} (I : Inv X pins σ H s) (h : Rd H d (DX X.prog X.w d xs)) (hk : ∀ x ∈ xs, SqT X.K H x.2.1 (x.1.map kV)) : xs.length ≤ sizeLine ∧ (d == sysModules) = false ∧ ∃ ys, Paired RelA xs ys ∧ s.heap.DictOfH (tupleKind (mixKind X.prog X.w)) d ys := by
  obtain ⟨⟨z1, z2, ys, o, es, ep, r, e1, e2, e3, e4, e5⟩, zx⟩ := (show ObjOk X.prog X.w H s.heap d (.ext (DXp X.prog X.w d xs)) from rd_of I.hok h)
  refine ⟨z1, z2, ys, r, o, es, ep, e1, e2, e3, e4, ?_, e5⟩
  clear e4 e5 z1 h zx
  induction r with
  | nil => exact fun _ m => (List.not_mem_nil m).elim
  | @cons p q ps qs z t ih =>
    intro y hy
    rcases List.mem_cons.mp hy with rfl | hy
    · have := hk p List.mem_cons_self
      rw [z.1, z.2.1] at this
      exact key_sq I this
    · exact ih (fun x hx => hk x (List.mem_cons_of_mem _ hx)) y hy
/-! ### what is read and written -/
/-- a dict that may be locked -/
def TabG (P : Program) (w : World) (K : PySem.W.Frag) (H : Hp) (d : Addr) (kvs : List (List L2.Key × V)) : Prop := ∃ xs, Rd H d (DX P w d xs) ∧ kvOf xs = kvs ∧ ∀ x ∈ xs, SqT K H x.2.1 (x.1.map kV)
theorem TabT.g {P : Program} {w : World} {K : PySem.W.Frag} {H : Hp} {d : Addr} {kvs : List (List L2.Key × V)} (t : TabT P w K H d kvs) : TabG P w K H d kvs := by
  obtain ⟨xs, h1, h2, h3⟩ := t
  exact ⟨xs, .inl h1, h2, h3⟩
def XGet (P : Program) (w : World) (K : PySem.W.Frag) (H : Hp) (d : Addr) (y : V) (r : Option V) : Prop := ∃ kvs k b, TabG P w K H d kvs ∧ y = .ref b ∧ SqT K H b (k.map kV) ∧ r = valV kvs k
theorem x_get {y v : V} {u : Value} {Q : Value → Shared → Prop} (hu : A.units + 1 < cLine) (I : Inv X pins σ H s) (g : XGet X.prog X.w X.K H d y (some v)) (ry : RelV y u) (h : ∀ w' s', Inv X pins σ H s' → RelV v w' → Q w' s') :
    s.TypeIs (.ref d) "dict" ∧ wpAny (model X.prog X.w) A (getItem (.ref d) u) Q E s := by
  obtain ⟨kvs, k, b, ⟨xs, h1, rfl, h3⟩, rfl, hb, l⟩ := g
  cases (show u = Value.ref b from ry)
  obtain ⟨_, _, ys, r, dd⟩ := dx_rd I h1 h3
  refine ⟨dd.typeIs, ?_⟩
  obtain ⟨w', hw, rw'⟩ := RelO.some_of (v := v) (o := (atKey ys k).map (·.2)) (by rw [l]; exact relA_val r k)
  obtain ⟨p, hp, hp2⟩ := Option.map_eq_some_iff.mp hw
  refine wpAny_getItem_heap (tupleKind_room_in1 hu) (key_sq I hb) dd hp ?_
  rw [hp2]
  exact h w' _ (I.tok _) rw'
theorem x_in {y : V} {o : Option V} {u : Value} {Q : Value → Shared → Prop} (hu : A.units + 1 < cLine) (I : Inv X pins σ H s) (g : XGet X.prog X.w X.K H d y o) (ry : RelV y u) (h : ∀ s', Inv X pins σ H s' → Q (.bool o.isSome) s') :
    wpAny (model X.prog X.w) A (compareOp .In u (.ref d)) Q E s := by
  obtain ⟨kvs, k, b, ⟨xs, h1, rfl, h3⟩, rfl, hb, l⟩ := g
  cases (show u = Value.ref b from ry)
  obtain ⟨_, hd, ys, r, dd⟩ := dx_rd I h1 h3
  refine wpAny_in_heap (tupleKind_room_in1 hu) (key_sq I hb) hd dd ?_
  have e := (relA_val r k).isSome_eq
  rw [Option.isSome_map, ← l] at e
  rw [← e]
  exact h _ (I.tok _)
theorem x_notIn {y : V} {o : Option V} {u : Value} {Q : Value → Shared → Prop} (hu : A.units + 1 < cLine) (I : Inv X pins σ H s) (g : XGet X.prog X.w X.K H d y o) (ry : RelV y u) (h : ∀ s', Inv X pins σ H s' → Q (.bool (!o.isSome)) s') :
    wpAny (model X.prog X.w) A (compareOp .NotIn u (.ref d)) Q E s := by
  obtain ⟨kvs, k, b, ⟨xs, h1, rfl, h3⟩, rfl, hb, l⟩ := g
  cases (show u = Value.ref b from ry)
  obtain ⟨_, hd, ys, r, dd⟩ := dx_rd I h1 h3
  refine wpAny_notIn_heap (tupleKind_room_in1 hu) (key_sq I hb) hd dd ?_
  have e := (relA_val r k).isSome_eq
  rw [Option.isSome_map, ← l] at e
  rw [← e]
  exact h _ (I.tok _)
/-- SqT of a tuple stays where a dict's own object is replaced -/
theorem sqt_dx {P : Program} {w : World} {K : PySem.W.Frag} {H : Hp} {d c : Addr} {xs : List KA} {vs : List V} {o : HO} (h : H d = some (DX P w d xs)) (t : SqT K H c vs) : SqT K (upd H d o) c vs := by
  rcases t with (t | ⟨u, t⟩) | t
  · exact .inl (.inl (by rw [upd_ne (fun e => by rw [e, h] at t; cases t)]; exact t))
  · exact .inl (.inr ⟨u, by rw [upd_ne (fun e => by rw [e, h] at t; cases t)]; exact t⟩)
  · exact .inr t
theorem x_set {y v : V} {u r : Value} {Q : Unit → Shared → Prop} (hu : A.units + 1 < cLine) (I : Inv X pins σ H s) {k : List L2.Key} (t : TabT X.prog X.w X.K H d kvs) (ey : y = .ref b) (hb : SqT X.K H b (k.map kV)) (hl : kvs.length < sizeLine) (ry : RelV y u) (rv : RelV v r)
    (h : ∀ o s', TabT X.prog X.w X.K (upd H d o) d (putK kvs k v) → Inv X pins σ (upd H d o) s' → Q () s') : wpAny (model X.prog X.w) A (setItem (.ref d) u r) Q E s := by
  obtain ⟨xs, h1, rfl, h3⟩ := t
  subst ey
  cases (show u = Value.ref b from ry)
  obtain ⟨z, hd, ys, rel, dd⟩ := dx_rd I (.inl h1) h3
  have hz : ys.length ≤ sizeLine := by rw [← Paired.length rel]; exact z
  have hl' : (putA xs k b v).length ≤ sizeLine := by
    have := putA_len xs k b v
    rw [List.length_map] at hl; omega
  refine wpAny_setItem_heap (hsz := hz) (tupleKind_room_in1 hu) (key_sq I hb) dd fun h' dd' hs => ?_
  obtain ⟨q, es, ep, hq, h2, h4, h5, _, h6⟩ := dd'
  refine h (DX X.prog X.w d (putA xs k b v)) _ ⟨_, upd_same, kvOf_putA xs k b v, fun x hx => ?_⟩ (d_write I (by rw [h1]; exact True.intro) hs ⟨q, hq⟩ (dx_ok ⟨hl', hd, _, q, es, ep, relA_put rel rv, hq, h2, h4, h5, h6⟩))
  rcases putA_mem hx with ⟨y, hy, e1, e2⟩ | ⟨e1, e2⟩
  · rw [e1, e2]; exact sqt_dx h1 (h3 y hy)
  · rw [e1, e2]; exact sqt_dx h1 hb
end
section
variable {X : Cx} {o i value : Expr} {td ty tv : TE} {pos pos' : Pos}
def tXGet (P : Program) (w : World) (K : PySem.W.Frag) (td ty : TE) : TE := fun σ H Q => td σ H fun x H1 => ty σ H1 fun y H2 => ∃ a v, x = .ref a ∧ XGet P w K H2 a y (some v) ∧ Q v H2
def tXIn (P : Program) (w : World) (K : PySem.W.Frag) (ty td : TE) : TE := fun σ H Q => ty σ H fun y H1 => td σ H1 fun x H2 => ∃ a o, x = .ref a ∧ XGet P w K H2 a y o ∧ Q (.bl o.isSome) H2
def tXNotIn (P : Program) (w : World) (K : PySem.W.Frag) (ty td : TE) : TE := fun σ H Q => ty σ H fun y H1 => td σ H1 fun x H2 => ∃ a o, x = .ref a ∧ XGet P w K H2 a y o ∧ Q (.bl (!o.isSome)) H2
def sXPut (P : Program) (w : World) (K : PySem.W.Frag) (td ty tv : TE) : TS := fun D σ H => tv σ H fun v H1 => td σ H1 fun x H2 => ty σ H2 fun y H3 => ∃ a kvs k b, x = .ref a ∧ y = .ref b ∧ TabT P w K H3 a kvs ∧ SqT K H3 b (k.map kV) ∧ kvs.length < sizeLine ∧
  ∀ o, TabT P w K (upd H3 a o) a (putK kvs k v) → D.nx σ (upd H3 a o)
theorem pe_xget (hu : X.A.units + 1 < cLine) (ho : PE X o td) (hi : PE X i ty) (hs : NoSl i) : PE X (.Subscript o i pos) (tXGet X.prog X.w X.K td ty) := by
  refine ⟨fun pins s σ H Q I h => subD_of PySem.F.slot_dict_getitem.lookup hs (thn (ho.run pins s σ H _ I h) fun u s1 ⟨x, H1, I1, rx, q1⟩ => thn (hi.run pins s1 σ H1 _ I1 q1) fun iv s2 ⟨y, H2, I2, ry, a, v, ex, g, q2⟩ => ?_)⟩
  subst ex
  cases (show u = Value.ref a from rx)
  exact x_get hu I2 g ry fun w' s3 I3 rw' => ⟨v, H2, I3, rw', q2⟩
theorem pc_xin (hu : X.A.units + 1 < cLine) (hi : PE X i ty) (ho : PE X o td) : PC X .In i o (tXIn X.prog X.w X.K ty td) := by
  refine ⟨fun pins s σ H Q I h => thn (hi.run pins s σ H _ I h) fun iv s1 ⟨y, H1, I1, ry, q1⟩ => thn (ho.run pins s1 σ H1 _ I1 q1) fun u s2 ⟨x, H2, I2, rx, a, ov, ex, g, q2⟩ => ?_⟩
  subst ex
  cases (show u = Value.ref a from rx)
  exact x_in hu I2 g ry fun s3 I3 => ⟨.bl ov.isSome, H2, I3, rfl, q2⟩
theorem pc_xnotin (hu : X.A.units + 1 < cLine) (hi : PE X i ty) (ho : PE X o td) : PC X .NotIn i o (tXNotIn X.prog X.w X.K ty td) := by
  refine ⟨fun pins s σ H Q I h => thn (hi.run pins s σ H _ I h) fun iv s1 ⟨y, H1, I1, ry, q1⟩ => thn (ho.run pins s1 σ H1 _ I1 q1) fun u s2 ⟨x, H2, I2, rx, a, ov, ex, g, q2⟩ => ?_⟩
  subst ex
  cases (show u = Value.ref a from rx)
  exact x_notIn hu I2 g ry fun s3 I3 => ⟨.bl (!ov.isSome), H2, I3, rfl, q2⟩
theorem ps_xput (hu : X.A.units + 1 < cLine) (ho : PE X o td) (hi : PE X i ty) (hv : PE X value tv) (hs : swapsWith value (some (.Subscript o i pos')) pos.line X.env = pure false) :
    PS X (.Assign [.Subscript o i pos'] value pos) (sXPut X.prog X.w X.K td ty tv) := by
  refine ⟨fun pins s σ H D I h => wpAny_Assign_Subscript (thn (hv.run pins s σ H _ I h) fun r s1 ⟨v, H1, I1, rv, q1⟩ => thn (ho.run pins s1 σ H1 _ I1 q1) fun u s2 ⟨x, H2, I2, rx, q2⟩ => thn (hi.run pins s2 σ H2 _ I2 q2) fun iv s3 ⟨y, H3, I3, ry, a, kvs, k, b, ex, ey, t, hb, hl, q3⟩ => ?_) hs⟩
  subst ex
  cases (show u = Value.ref a from rx)
  exact x_set hu I3 t ey hb hl ry rv fun o s4 t4 I4 => ⟨σ, _, I4, q3 o t4⟩
/-- {} -/
def tXNew (P : Program) (w : World) (K : PySem.W.Frag) : TE := fun _ H Q => ∀ p o, H p = none → TabT P w K (upd H p o) p [] → Q (.ref p) (upd H p o)
theorem pe_xnew : PE X (.Dict [] [] pos) (tXNew X.prog X.w X.K) := ⟨fun pins s σ H Q I h =>
  wpAny_Dict_empty ⟨.ref s.heap.objs.size, upd H s.heap.objs.size (DX X.prog X.w s.heap.objs.size []), I.laid (t' := s.toks) (fun _ _ q => Heap.get?_push_of_some _ q) (Nat.le_refl _)
    (dx_ok ⟨Nat.zero_le _, beq_eq_false_iff_ne.mpr fun e => (Nat.ne_of_lt I.big) e.symm, [], _, #[], 0, .nil, Heap.get?_push_size _ rfl, ⟨rfl, rfl, rfl⟩, rfl, rfl, List.nodup_nil⟩), rfl, h _ _ (I.hok.fresh (Nat.le_refl _)) ⟨[], upd_same, rfl, fun _ m => (List.not_mem_nil m).elim⟩⟩⟩
end
end EL
/-! Going over a locked dict keyed by any tuples. -/
namespace EL
open PySem PySem.Spec PyProof.Rows L2
/-- its keys' own objects, in their order -/
def ItX (P : Program) (w : World) (d : Addr) (o : Obj) (xs : List KA) : It :=
  ⟨fun j G => H_at P w d o xs G ∧ j < xs.length, fun j G v G' => G' = G ∧ ∃ e, xs[j]? = some e ∧ v = .ref e.2.1, fun j G => H_at P w d o xs G ∧ xs.length ≤ j⟩
where H_at (P : Program) (w : World) (d : Addr) (o : Obj) (xs : List KA) (G : Hp) : Prop := G d = some (.frz o (DX P w d xs))
theorem walk_keysX {P : Program} {w : World} {d : Addr} {o : Obj} {xs : List KA} : Walk (ItX P w d o xs) xs.length (fun G => G d = some (.frz o (DX P w d xs))) (fun j G v G' => G' = G ∧ ∃ e, xs[j]? = some e ∧ v = .ref e.2.1) :=
  ⟨fun _ _ lt g => ⟨g, lt⟩, fun _ g => ⟨g, Nat.le_refl _⟩, fun _ _ _ _ _ _ z => z⟩
theorem pair_at {xs : List KA} {ys : List (List L2.Key × Addr × Value)} (r : Paired RelA xs ys) : ∀ {j : Nat} {e : KA}, xs[j]? = some e → ∃ y, ys[j]? = some y ∧ e.2.1 = y.2.1 := by
  induction r with
  | nil => intro j e h; simp at h
  | cons z t ih =>
    intro j e h
    cases j with
    | zero =>
      rw [List.getElem?_cons_zero] at h
      cases h
      exact ⟨_, rfl, z.2.1⟩
    | succ j => rw [List.getElem?_cons_succ] at h ⊢; exact ih h
theorem frzX {X : Cx} {pins : List (Addr × Obj)} {σ : L2.St} {H : Hp} {s : Shared} {d : Addr} {o : Obj} {xs : List KA} (I : Inv X pins σ H s) (h : H d = some (.frz o (DX X.prog X.w d xs))) :
    (d == sysModules) = false ∧ s.heap.get? d = some o ∧ o.ExactDict ∧ ∃ (es : Array DictEntry) (ep : Nat), o.data = .dict es ep ∧ es.size = xs.length ∧ ∀ (j : Nat) (e : KA), xs[j]? = some e → ∃ en, es[j]? = some en ∧ en.key = .ref e.2.1 := by
  have z : s.heap.get? d = some o ∧ ObjOk X.prog X.w H s.heap d (.ext (DXp X.prog X.w d xs)) := I.hok d _ h
  obtain ⟨g, ⟨_, lo, ys, o', es, ep, r, g', c1, c2, c3, _⟩, _⟩ := z
  rw [g] at g'
  cases g'
  refine ⟨lo, g, c1, es, ep, c2, ?_, fun j e he => ?_⟩
  · rw [size_of_entries c3, Paired.length r]
  · obtain ⟨y, hy, ey⟩ := pair_at r he
    refine ⟨_, by rw [entry_at c3, hy]; rfl, ?_⟩
    rw [ey]; rfl
theorem turn_keysX {P : Program} {w : World} {K : PySem.W.Frag} {tg : Expr} {d it : Addr} {o : Obj} {xs : List KA} {es : Array DictEntry} {ep : Nat} (od : o.data = .dict es ep) : Turn P w K tg (ItX P w d o xs) [it] it (fun j h => h.IsKeyIter it d j xs.length ep) := by
  refine ⟨List.mem_singleton.mpr rfl, fun j h st b hb => ?_, fun j h h' st k => st.at fun oi e => k it (List.mem_singleton.mpr rfl) oi e, ?_, ?_, fun A j s Q E st h => wpAny_pyIter_keyiter st h⟩
  · rw [List.mem_singleton.mp hb]
    obtain ⟨oi, e, _, dd⟩ := st
    exact ⟨oi, e, fun v z => by rw [dd] at z; cases z⟩
  · rintro X rfl rfl rfl hc j pins s σ H E I hf st ⟨g, lt⟩
    obtain ⟨f0, f1, f2, f3, f4, f5⟩ := hf it (List.mem_singleton.mpr rfl)
    obtain ⟨_, g0, _, es', ep', c2, sz, ent⟩ := frzX I g
    obtain ⟨rfl, rfl⟩ := dict_ep od c2
    obtain ⟨e, he⟩ : ∃ e, xs[j]? = some e := ⟨_, List.getElem?_eq_getElem lt⟩
    obtain ⟨en, hen, hkey⟩ := ent j e he
    refine next_key_item st g0 c2 sz hen fun h2 st2 same => ?_
    have I2 : Inv X pins σ H { s with heap := h2 } := I.turned (t' := s.toks) (fun b ob n q => (same.2 b n).trans q) f0 f1 f3 f4 f5
    have st3 := st2
    obtain ⟨oi, q1, q2, q3⟩ := st3
    exact ⟨en.key, rfl, go_of (s := { s with heap := h2 }) q1 q2 q3 (by decide) ⟨.ref e.2.1, H, I2, hkey, ⟨rfl, e, he, rfl⟩, st2, fun b hb => (hf b hb).1⟩⟩
  · rintro X rfl rfl rfl hc j pins s σ H E I hf st ⟨g, le⟩
    obtain ⟨f0, f1, f2, f3, f4, f5⟩ := hf it (List.mem_singleton.mpr rfl)
    obtain ⟨_, g0, _, es', ep', c2, sz, _⟩ := frzX I g
    obtain ⟨rfl, rfl⟩ := dict_ep od c2
    exact next_key_end (I.ok.hd hc) st g0 c2 sz le fun h2 eb => ⟨rfl, I.turned (t' := s.toks) (fun b ob n q => eb b ob n q) f0 f1 f3 f4 f5⟩
def iKeysX (P : Program) (w : World) (td : TE) : TI := fun σ H R => td σ H fun x H1 => ∃ d o xs, x = .ref d ∧ H1 d = some (.frz o (DX P w d xs)) ∧ R (ItX P w d o xs) H1
theorem pi_keysX {X : Cx} {tg e : Expr} {td : TE} (he : PE X e td) : PI X tg e (iKeysX X.prog X.w td) := by
  refine ⟨fun pins s σ H R I h => thn (he.run pins s σ H _ I h) fun u s1 ⟨x, H1, I1, rx, d, o, xs, ex, g, q⟩ => ?_⟩
  subst ex
  cases (show u = Value.ref d from rx)
  obtain ⟨lo, g0, c1, es, ep, c2, sz, _⟩ := frzX I1 g
  refine iter_keys lo g0 c1 c2 (pi_one (tk := s1.toks) I1 _ (turn_keysX c2) ⟨_, Heap.get?_push_size _ rfl, rfl, ?_⟩ q)
  rw [sz]; rfl
/-- a dict known by its table, locked -/
def TabF (P : Program) (w : World) (K : PySem.W.Frag) (H : Hp) (d : Addr) (o : Obj) (xs : List KA) (kvs : List (List L2.Key × V)) : Prop := H d = some (.frz o (DX P w d xs)) ∧ kvOf xs = kvs ∧ ∀ x ∈ xs, SqT K H x.2.1 (x.1.map kV)
end EL
/-! Comprehensions of dicts keyed by any tuples. -/
namespace EL
open PySem PySem.Spec PyProof.Rows L2
theorem dictSetX {X : Cx} {pins : List (Addr × Obj)} {σ : L2.St} {H : Hp} {s : Shared} {E : Value → Shared → Prop} {dc b : Addr} {ts : List (List L2.Key × V)} {k : List L2.Key} {z : V} {r : Value} {Q : Unit → Shared → Prop} (hu : X.A.units < cLine) (J : Inv X pins σ H s) (t : TabT X.prog X.w X.K H dc ts) (room : ts.length < sizeLine)
    (hb : SqT X.K H b (k.map kV)) (rz : RelV z r) (next : ∀ o s', TabT X.prog X.w X.K (L2.upd H dc o) dc (putK ts k z) → Inv X pins σ (L2.upd H dc o) s' → Q () s') : wpAny (model X.prog X.w) X.A (dictSet dc (.ref b) r) Q E s := by
  obtain ⟨xs, h1, rfl, h3⟩ := t
  obtain ⟨zz, hd, ys, rel, dd⟩ := dx_rd J (.inl h1) h3
  have fit : ys.length ≤ sizeLine := by rw [← Paired.length rel]; exact zz
  have grow : (putA xs k b z).length ≤ sizeLine := by
    have := putA_len xs k b z
    rw [List.length_map] at room; omega
  refine wpAny_dictSet_heap (hsz := fit) hu (key_sq J hb) dd fun h4 dd' same => ?_
  obtain ⟨q4, es, ep, hq, y2, y3, y4, _, y5⟩ := dd'
  refine next (DX X.prog X.w dc (putA xs k b z)) _ ⟨_, upd_same, kvOf_putA xs k b z, fun x hx => ?_⟩ (d_write J (by rw [h1]; exact True.intro) same ⟨q4, hq⟩ (dx_ok ⟨grow, hd, _, q4, es, ep, relA_put rel rz, hq, y2, y3, y4, y5⟩))
  rcases putA_mem hx with ⟨y, hy, e1, e2⟩ | ⟨e1, e2⟩
  · rw [e1, e2]; exact sqt_dx h1 (h3 y hy)
  · rw [e1, e2]; exact sqt_dx h1 hb
theorem dx_new {X : Cx} {pins : List (Addr × Obj)} {σ : L2.St} {G : Hp} {s : Shared} {H : Hp} (I : Inv X pins σ G s) : ObjOk X.prog X.w H (s.heap.push { cls := .type "dict", data := .dict #[] }) s.heap.objs.size (DX X.prog X.w s.heap.objs.size []) :=
  dx_ok ⟨Nat.zero_le _, beq_eq_false_iff_ne.mpr fun e => (Nat.ne_of_lt I.big) e.symm, [], _, #[], 0, .nil, Heap.get?_push_size _ rfl, ⟨rfl, rfl, rfl⟩, rfl, rfl, List.nodup_nil⟩
/-- {k: v for ..} -/
def tDcX (P : Program) (w : World) (K : PySem.W.Frag) (wi : TI) (g : TG) (tt : TT) (tk tv : TE) (bs : List Nat) : TE := fun σ H Q => wi σ H fun J H1 => ∀ dc o0, H1 dc = none → TabT P w K (L2.upd H1 dc o0) dc [] → ∃ Wk : Nat → Nat → Hp → Prop, (∃ m, Wk 0 m (L2.upd H1 dc o0)) ∧
  ∀ i m H, Wk i m H → (J.stop i H ∧ Q (.ref dc) H) ∨ (J.go i H ∧ ∃ Go : Hp → Prop, (∀ H', Go H' → ∃ m', m' < m ∧ Wk (i + 1) m' H') ∧
    ∀ x H', J.yld i H x H' → g x (wipe σ bs) H' fun τ H2 => wipe τ bs = wipe σ bs ∧ tt τ H2 fun c H3 => if c = true then tk τ H3 fun y H4 => tv τ H4 fun z H5 =>
      ∃ ts k b, y = .ref b ∧ SqT K H5 b (k.map kV) ∧ TabT P w K H5 dc ts ∧ ts.length < sizeLine ∧ ∀ o, TabT P w K (L2.upd H5 dc o) dc (putK ts k z) → Go (L2.upd H5 dc o) else Go H3)
section
variable {X : Cx} {kx vx tg src : Expr} {ifs : List Expr} {scope : Scope} {own : List (Str × Nat)} {wi : TI} {g : TG} {tt : TT} {tk tv : TE}
theorem dcX_core {pins : List (Addr × Obj)} {s : Shared} {σ : L2.St} {H : Hp} {Q : VK} {pos pos' : Pos} {use : Option (Value → Sem Unit)} {Qf : Value → Shared → Prop} (hu : X.A.units < cLine)
    (calm : X.calm = true) (nd : X.N.Nodup) (I : Inv X pins σ H s) (pi : PI X tg src wi) (ok : BlkOk X.N X.env.scope scope own) (B : BlkParts X scope tg kx vx ifs g tt tk tv) (fold : ∀ x, foldedSetIterable src X.env x = pure x)
    (h : tDcX X.prog X.w X.K wi g tt tk tv (own.map (·.2)) σ H Q)
    (out : ∀ dc C s' m H', Inv X pins σ H' s' → Q (.ref dc) H' → s'.heap.Ns C m → FpOk X pins H' C → compPost (model X.prog X.w) X.A X.xe use Qf (.ref dc) C (.ok .next) s') :
    wpAny (model X.prog X.w) X.A (comprehension (.DictComp kx vx [⟨tg, src, ifs, 0⟩] scope pos) scope X.env pos' newDict false (eval src X.env) use) Qf X.xe s := by
  have free : ∀ y ∈ scope.names, y.2 = .free → ∃ c, X.env.cells.lookup y.1 = some c := fun y hy e => (ok.free y hy e).elim (fun z => I.ok.has _ (.inl z)) fun z => I.ok.has _ (.inr z)
  refine wpAny_comprehension_free (use := use) rfl fold (closure_ok free) ok.kind (fun y hy e => by rw [ok.uniq y hy, e]) ?_
  refine thn (pi.run pins s σ H _ I h) fun _ s1 h1 => thn h1 fun _ s2 h2 => ?_
  obtain ⟨it, fp, tn, J, G0, rfl, I2, T, st2, f2, q⟩ := h2
  refine wpAny_newObj_type (newEnv_comp ?_)
  generalize hdc : s2.heap.objs.size = dc
  have ndc : G0 dc = none := I2.hok.fresh (Nat.le_of_eq hdc)
  obtain ⟨Wk, ⟨m0, w0⟩, turn⟩ := q dc (DX X.prog X.w dc []) ndc ⟨[], upd_same, rfl, fun _ m => (List.not_mem_nil m).elim⟩
  generalize es3 : ({ s2 with heap := s2.heap.push { cls := .type "dict", data := .dict #[] } } : Shared) = s3
  have eh3 : s3.heap = s2.heap.push { cls := .type "dict", data := .dict #[] } := by rw [← es3]
  have kept3 : ∀ b o, s2.heap.get? b = some o → s3.heap.get? b = some o := fun b o e => by rw [eh3]; exact Heap.get?_push_of_some _ e
  have I3 : Inv X pins σ (L2.upd G0 dc (DX X.prog X.w dc [])) s3 := by
    rw [← es3]
    exact I2.laid (t' := s2.toks) (fun b o e => Heap.get?_push_of_some _ e) (Nat.le_of_eq hdc) (by rw [← hdc]; exact dx_new I2)
  have fpOld : ∀ b ∈ fp, b < s2.heap.objs.size := fun b hb => (T.obj _ _ st2 b hb).elim fun o e => Heap.lt_size e.1
  have f3 : ∀ b ∈ fp, FpOk X pins (L2.upd G0 dc (DX X.prog X.w dc [])) b ∧ b < s3.heap.objs.size := fun b hb => by
    have lt := fpOld b hb
    have ne : b ≠ dc := by rw [← hdc]; exact Nat.ne_of_lt lt
    refine ⟨⟨by rw [upd_ne ne]; exact (f2 b hb).1, (f2 b hb).2⟩, ?_⟩
    rw [eh3, Heap.size_push]
    exact Nat.lt_succ_of_lt lt
  have st3 : tn 0 s3.heap := T.keep _ _ _ st2 fun b _ o e => kept3 b o e
  have I4 := block_start I3 ok nd f3
  have pg := B.g s3 (L2.upd G0 dc (DX X.prog X.w dc [])) s3.heap.objs.size (cellsFrom (s3.heap.objs.size + 1) scope.names (cloFrom X.env.cells scope.names [])) fp
  have pt := B.t s3 (L2.upd G0 dc (DX X.prog X.w dc [])) s3.heap.objs.size (cellsFrom (s3.heap.objs.size + 1) scope.names (cloFrom X.env.cells scope.names [])) fp
  have pk := B.k s3 (L2.upd G0 dc (DX X.prog X.w dc [])) s3.heap.objs.size (cellsFrom (s3.heap.objs.size + 1) scope.names (cloFrom X.env.cells scope.names [])) fp
  have pv := B.v s3 (L2.upd G0 dc (DX X.prog X.w dc [])) s3.heap.objs.size (cellsFrom (s3.heap.objs.size + 1) scope.names (cloFrom X.env.cells scope.names [])) fp
  show codeAny _ _ (.compStart (.DictComp kx vx [⟨tg, src, ifs, 0⟩] scope pos) 0 (.ref it) (.ref dc) (compEnvC scope (cellsFrom (s3.heap.objs.size + 1) scope.names (cloFrom X.env.cells scope.names [])) s3.heap.objs.size X.env)) (compPost (model X.prog X.w) X.A X.xe use Qf (.ref dc) s3.heap.objs.size) { s3 with heap := pushCells (s3.heap.push { cls := .type "dict", data := .dict #[] }) scope.names }
  have fpNone : ∀ b ∈ fp, (L2.upd G0 dc (DX X.prog X.w dc [])) b = none := fun b hb => (f3 b hb).1.1
  generalize ece : compEnvC scope (cellsFrom (s3.heap.objs.size + 1) scope.names (cloFrom X.env.cells scope.names [])) s3.heap.objs.size X.env = ce at I4 pg pt pk pv ⊢
  have cl : ce.locals = s3.heap.objs.size := by subst ece; rfl
  generalize L2.upd G0 dc (DX X.prog X.w dc []) = G3 at I3 I4 pg pt pk pv w0 fpNone f3
  generalize es4 : ({ s3 with heap := pushCells (s3.heap.push { cls := .type "dict", data := .dict #[] }) scope.names } : Shared) = s4 at I4 ⊢
  have st4 : tn 0 s4.heap := T.keep _ _ _ st3 fun b _ o e => by rw [← es4]; exact pushCells_keeps _ _ _ _ (Heap.get?_push_of_some _ e)
  let Y := X.blk s3 G3 scope ce fp
  have foot : ∀ {τ : L2.St} {G : Hp} {s' : Shared}, Inv (X.blk s3 G3 scope ce fp) [] τ G s' → (∀ b ∈ fp, G b = none) → ∀ b ∈ fp, FpOk (X.blk s3 G3 scope ce fp) [] G b := fun K0 none' b hb =>
    ⟨none' b hb, (K0.ok.exf b hb).1, K0.ok.exfs b hb, .inl hb, fun x c e => (K0.ok.exf b hb).2 x c e, fun p hp => by rcases List.mem_append.mp hp with z | z <;> cases z⟩
  have loop : codeAny (model X.prog X.w) X.A (.compLoop (.DictComp kx vx [⟨tg, src, ifs, 0⟩] scope pos) 0 (.ref it) (.ref dc) ce) (compPost (model X.prog X.w) X.A X.xe use Qf (.ref dc) s3.heap.objs.size) s4 := by
    refine compLoop_anyD (fun n s' => ∃ i G, Inv (X.blk s3 G3 scope ce fp) [] (wipe σ (own.map (·.2))) G s' ∧ tn i s'.heap ∧ (∀ b ∈ fp, G b = none) ∧ Wk i n G) ?_ m0 ⟨0, G3, I4, st4, fpNone, w0⟩
    rintro n s5 ⟨i, G5, I5, st5, n5, w5⟩
    rcases turn i n G5 w5 with ⟨stop, fin⟩ | ⟨go, Go, less, step⟩
    · refine thnF (T.done (X.blk s3 G3 scope ce fp) rfl rfl rfl calm i [] s5 _ G5 (fun _ _ => False) I5 (foot I5 n5) st5 stop) fun r s6 hr => ?_
      obtain ⟨rfl, I6⟩ := hr
      have nC : G5 s3.heap.objs.size = none := by
        have z : G5 ce.locals = none := I6.free
        rw [cl] at z
        exact z
      obtain ⟨m, ns, _⟩ := I6.loc
      have ns : s6.heap.Ns ce.locals m := ns
      rw [cl] at ns
      refine out dc s3.heap.objs.size s6 m G5 ?_ fin ns (I3.fpOk (Nat.le_refl _) nC)
      exact I3.call' (ch := fp) I6.os I6.base I6.hok I6.bare fun b hb => ⟨(f3 b hb).1.2.2.2.1, (f3 b hb).1.2.1, (f3 b hb).1.2.2.2.2.1, (f3 b hb).1.2.2.2.2.2⟩
    · refine thnF (T.item (X.blk s3 G3 scope ce fp) rfl rfl rfl calm i [] s5 _ G5 (fun _ _ => False) I5 (foot I5 n5) st5 go) fun r s6 h6 => ?_
      obtain ⟨u, rfl, h6⟩ := h6
      refine thnF h6 fun _ s7 h7 => ?_
      obtain ⟨x, G7, I7, r7, y7, st7, n7⟩ := h7
      refine thnF (pg.run _ s7 _ G7 x u _ (I7.pinned (foot I7 n7) (T.obj _ _ st7)) r7 (step x G7 y7)) fun _ s8 h8 => ?_
      obtain ⟨τ, G8, I8, hw, q8⟩ := h8
      have back : ∀ {s' : Shared} {G : Hp}, Inv (X.blk s3 G3 scope ce fp) ([] ++ pinsAt fp s7.heap) τ G s' → Go G → ∃ m, m < n ∧ ∃ i G, Inv (X.blk s3 G3 scope ce fp) [] (wipe σ (own.map (·.2))) G s' ∧ tn i s'.heap ∧ (∀ b ∈ fp, G b = none) ∧ Wk i m G := by
        intro s' G K1 gg
        obtain ⟨m', hm, w'⟩ := less G gg
        have held : ∀ b ∈ fp, ∀ o, s7.heap.get? b = some o → s'.heap.get? b = some o ∧ G b = none := fun b hb o e => by
          have z := K1.pin (b, o) (List.mem_append_right _ (List.mem_append_right _ (mem_pinsAt hb e)))
          exact ⟨z.1, z.2.1⟩
        have ln : (wipe σ (own.map (·.2))).length = τ.length := by rw [← hw, wipe_length]
        refine ⟨m', hm, i + 1, G, (K1.unpinned (pins := [])).weak ln (fun j v e => ?_), T.keep _ _ _ st7 fun b hb o e => (held b hb o e).1, fun b hb => ?_, w'⟩
        · rw [← hw] at e; exact (wipe_some e).1
        · exact (T.obj _ _ st7 b hb).elim fun o e => (held b hb o e.1).2
      refine thnF (pt.run _ s8 τ G8 _ I8 q8) fun c s9 h9 => ?_
      obtain ⟨G9, I9, q9⟩ := h9
      cases c with
      | false => rw [if_neg Bool.false_ne_true] at q9 ⊢; exact back I9 q9
      | true =>
        rw [if_pos rfl] at q9 ⊢
        refine thnF (pk.run _ s9 τ G9 _ I9 q9) fun a s10 h10 => ?_
        obtain ⟨yk, GA, IA, ra, qa⟩ := h10
        refine thnF (pv.run _ s10 τ GA _ IA qa) fun a2 s11 h11 => ?_
        obtain ⟨yv, GB, IB, rb, ts, k, b, rfl, hb, hdT, lts, nx⟩ := h11
        cases ra
        exact dictSetX (X := X.blk s3 G3 scope ce fp) hu IB hdT lts hb rb fun o s12 t12 I12 => back I12 (nx o t12)
  exact codeAny_compStart_dict loop (T.self X.A 0 _ _ _ st4 loop)
/-- y = {(..): v for ..} -/
theorem ps_setDcX {i : Nat} {y : Str} {py spos pos : Pos} (hc : X.calm = true) (hu : X.A.units < cLine) (hN : X.N.Nodup) (hy : X.N[i]? = some y) (hyl : X.env.scope.names.lookup y = some .local)
    (hsw : swapsWith (.DictComp kx vx [⟨tg, src, ifs, 0⟩] scope pos) (some (.Name y py)) spos.line X.env = pure true) (pi : PI X tg src wi) (ok : BlkOk X.N X.env.scope scope own) (B : BlkParts X scope tg kx vx ifs g tt tk tv)
    (hs : ∀ x, foldedSetIterable src X.env x = pure x := by intro _; rfl) :
    PS X (.Assign [.Name y py] (.DictComp kx vx [⟨tg, src, ifs, 0⟩] scope pos) spos) (tAsg (tDcX X.prog X.w X.K wi g tt tk tv (own.map (·.2))) (gName i)) := by
  refine ⟨fun pins s σ H D I q0 => ?_⟩
  have q : tDcX X.prog X.w X.K wi g tt tk tv (own.map (·.2)) σ H (fun v H1 => gName i v σ H1 D.nx) := q0
  rw [exec_Assign_Name_used _ _ _ _ hsw]
  refine wpAny_bind (wpAny_standAt (wpAny_bind (wpAny_bind ?_)))
  refine wpAny_mono (dcX_core (use := some (assign (.Name y py) X.env)) (Qf := fun _ s' => SP X pins D .next s') hu hc hN I pi ok B hs q fun L C s' m H' J1 q1 hn f => ?_) (fun _ s' hq => wpAny_pure (wpAny_pure hq)) fun _ _ z => z
  show wpAny _ _ (assign (.Name y py) X.env (.ref L)) _ _ _
  refine wpAny_assign_Name (store_ok2 (v := V.ref L) J1 hN hy (.inl hyl) rfl (fun s2 J2 hst => ?_) (.inr hyl))
  obtain ⟨a, sb, ha⟩ := hst
  obtain ⟨f0, f1, f2, f3, f4, f5⟩ := f
  have far : C ≠ a := ha.elim (fun z => z ▸ f1) fun z e => f4 y a z e.symm
  exact ⟨m, hn.sameBut sb far, fun h3 sb3 => ⟨_, _, J2.turned (t' := s2.toks) (fun b o hb e => (sb3.2 b hb).trans e) f0 f1 f3 f4 f5, q1⟩⟩
end
section
variable {X : Cx} {kx vx tg src : Expr} {ifs : List Expr} {scope : Scope} {own : List (Str × Nat)} {wi : TI} {g : TG} {tt : TT} {tk tv : TE} {pos : Pos}
theorem pe_dcX (calm : X.calm = true) (hu : X.A.units < cLine) (nd : X.N.Nodup) (pi : PI X tg src wi) (ok : BlkOk X.N X.env.scope scope own) (B : BlkParts X scope tg kx vx ifs g tt tk tv) (fold : ∀ x, foldedSetIterable src X.env x = pure x := by intro _; rfl) :
    PE X (.DictComp kx vx [⟨tg, src, ifs, 0⟩] scope pos) (tDcX X.prog X.w X.K wi g tt tk tv (own.map (·.2))) := by
  refine ⟨fun pins s σ H Q I h => ?_⟩
  rw [arm_eval_DictComp]
  exact dcX_core hu calm nd I pi ok B fold h fun D C s2 m H2 J q hn f => ⟨m, hn, fun h3 sb => ⟨.ref D, H2, J.turned (t' := s2.toks) (fun b o hb e => (sb.2 b hb).trans e) f.1 f.2.1 f.2.2.2.1 f.2.2.2.2.1 f.2.2.2.2.2, rfl, q⟩⟩
end
end EL
/-! Dicts keyed by any tuples: setdefault, list. -/
namespace EL
open PySem PySem.Spec PyProof.Rows L2
section
variable {X : Cx} {pins : List (Addr × Obj)} {σ : L2.St} {H : Hp} {s : Shared} {a b : Addr} {r : Value} {d : V} {k : List L2.Key} {kvs : List (List L2.Key × V)} {A : Around} {E : Value → Shared → Prop}
theorem x_setd {Q : Value → Shared → Prop} (hu : A.units + 1 < cLine) (I : Inv X pins σ H s) (t : TabT X.prog X.w X.K H a kvs) (eb : SqT X.K H b (k.map kV)) (rd : RelV d r) (hl : kvs.length < sizeLine)
    (h1 : ∀ v, valV kvs k = some v → ∀ (w' : Value) (s' : Shared), Inv X pins σ H s' → RelV v w' → Q w' s') (h2 : valV kvs k = none → ∀ (o : HO) (w' : Value) (s' : Shared), TabT X.prog X.w X.K (upd H a o) a (putK kvs k d) → Inv X pins σ (upd H a o) s' → RelV d w' → Q w' s') :
    wpAny (model X.prog X.w) A (call (.builtin "dict.setdefault") [.ref a, .ref b, r]) Q E s := by
  obtain ⟨xs, g1, rfl, g3⟩ := t
  obtain ⟨z, hd, ys, rel, dd⟩ := dx_rd I (.inl g1) g3
  have fit : ys.length ≤ sizeLine := Paired.length rel ▸ z
  have rk := relA_val rel k
  refine call_meetsIn PySem.F.slot_dict_setdefault dd.typeIs PySem.F.entry_dict_setdefault (PySem.F.args_dict_setdefault_3 _ _ _) (meetsH_dsetDef (knd := tupleKind (mixKind X.prog X.w)) a b hd r)
    ⟨tupleKind_room_in1 hu, k, ys, key_sq I eb, dd, fit, fun p hp => ?_, fun no h' dd' same => ?_⟩
  · rw [hp] at rk
    match q : valV (kvOf xs) k, rk with
    | none, rk => exact rk.elim
    | some v0, rk => exact h1 v0 q _ _ (I.tok _) rk
  · rw [no] at rk
    match q : valV (kvOf xs) k, rk with
    | some v0, rk => exact rk.elim
    | none, rk =>
      have grow : (putA xs k b d).length ≤ sizeLine := by
        have := putA_len xs k b d
        rw [List.length_map] at hl; omega
      obtain ⟨q4, es, ep, hq, y2, y3, y4, _, y5⟩ := dd'
      refine h2 q (DX X.prog X.w a (putA xs k b d)) _ _ ⟨_, upd_same, kvOf_putA xs k b d, fun x hx => ?_⟩ (d_write I (by rw [g1]; exact True.intro) same ⟨q4, hq⟩ (dx_ok ⟨grow, hd, _, q4, es, ep, relA_put rel rd, hq, y2, y3, y4, y5⟩)) rd
      rcases putA_mem hx with ⟨y, hy, e1, e2⟩ | ⟨e1, e2⟩
      · rw [e1, e2]; exact sqt_dx g1 (g3 y hy)
      · rw [e1, e2]; exact sqt_dx g1 eb
theorem x_type (I : Inv X pins σ H s) (t : TabT X.prog X.w X.K H a kvs) : s.TypeIs (.ref a) "dict" ∧ ∀ c, Value.ref a = .ref c → ∃ ob, s.heap.get? c = some ob ∧ ob.dict = none := by
  obtain ⟨xs, g1, rfl, g3⟩ := t
  obtain ⟨_, _, ys, _, dd⟩ := dx_rd I (.inl g1) g3
  refine ⟨dd.typeIs, fun c e => ?_⟩
  cases e
  obtain ⟨ob, _, _, e1, e2, _⟩ := dd
  exact ⟨ob, e1, e2.2.1⟩
end
def tDSetdX (P : Program) (w : World) (K : PySem.W.Frag) (td ty tx : TE) : TE := fun σ H Q => td σ H fun x H1 => ∃ a kv0, x = .ref a ∧ TabT P w K H1 a kv0 ∧ ty σ H1 fun y H2 => tx σ H2 fun z H3 => ∃ kvs k b, TabT P w K H3 a kvs ∧ y = .ref b ∧ SqT K H3 b (k.map kV) ∧ kvs.length < sizeLine ∧
  (∀ v, valV kvs k = some v → Q v H3) ∧ (valV kvs k = none → ∀ o, TabT P w K (upd H3 a o) a (putK kvs k z) → Q z (upd H3 a o))
section
variable {X : Cx} {o e f : Expr} {td ty tx : TE} {apos cpos : Pos}
theorem pe_dsetdX (hu : X.A.units + 1 < cLine) (ho : PE X o td) (he : PE X e ty) (hf : PE X f tx) (m : M2 X o "setdefault" apos e f cpos) : PE X (.Call (.Attribute o "setdefault" apos) [e, f] [] cpos) (tDSetdX X.prog X.w X.K td ty tx) := by
  refine ⟨fun pins s σ H Q I h => wpAny_Call_method m.base m.few m.line PySem.F.plainAttrs_dict PySem.F.slot_dict_setdefault PySem.F.type_dict_setdefault (thn (ho.run pins s σ H _ I h) fun u s1 h1 => ?_)⟩
  obtain ⟨x, H1, I1, rx, a, kv0, rfl, t0, q1⟩ := h1
  cases (show u = Value.ref a from rx)
  obtain ⟨z1, z2⟩ := x_type I1 t0
  refine ⟨z1, z2, ?_⟩
  rw [m.trees]
  refine Calls.callWith_builtin rfl (Calls.evalArgs_plain (Calls.spliced_cons (thn (he.run pins s1 σ H1 _ I1 q1) fun iv s2 h2 => ?_)))
  obtain ⟨y, H2, I2, ry, q2⟩ := h2
  refine Calls.spliced_cons (thn (hf.run pins s2 σ H2 _ I2 q2) fun fv s3 h3 => ?_)
  obtain ⟨z, H3, I3, rz, kvs, k, b, t3, rfl, eb, hl, q3, q4⟩ := h3
  cases (show iv = Value.ref b from ry)
  exact Calls.spliced_nil (x_setd hu I3 t3 eb rz hl (fun v hv w' s4 I4 rw' => ⟨v, _, I4, rw', q3 v hv⟩) fun hn o w' s4 t4 I4 rw' => ⟨z, _, I4, rw', q4 hn o t4⟩)
theorem keys_of {K : PySem.W.Frag} {H : Hp} : ∀ {xs : List KA}, (∀ x ∈ xs, SqT K H x.2.1 (x.1.map kV)) → Paired (fun (kv : List L2.Key × V) b => SqT K H b (kv.1.map kV)) (kvOf xs) (xs.map fun x => x.2.1)
  | [], _ => .nil
  | x :: r, h => .cons (h x List.mem_cons_self) (keys_of fun y hy => h y (List.mem_cons_of_mem _ hy))
/-- list(d) -/
theorem call_listX (hc : X.calm = true) : CallR X (.type "list") (fun xs H Q => ∃ d kvs, xs = [V.ref d] ∧ TabT X.prog X.w X.K H d kvs ∧ ∀ p bs, H p = none → Paired (fun kv b => SqT X.K H b (kv.1.map kV)) kvs bs → Q (.ref p) (upd H p (.lst (bs.map V.ref)))) := by
  intro pins s σ H vs us Q I r h
  obtain ⟨d, kvs, rfl, ⟨xs, g1, rfl, g3⟩, q⟩ := h
  obtain ⟨u, rfl, rx⟩ := r.one
  cases rx
  have z : ObjOk X.prog X.w H s.heap d (.ext (DXp X.prog X.w d xs)) := I.hok d _ g1
  obtain ⟨⟨z1, hs, ys, o, es, ep, pr, ho, hx, hdt, he, _⟩, _⟩ := z
  have l1 : es.size = ys.length := size_of_entries he
  have l2 : xs.length = ys.length := Paired.length pr
  refine PySem.W.kdl_call (kdl_raw hs hx hdt) (I.ok.hd hc) ho (by omega) fun h' tk acc' c' kp e it => ?_
  have ea : acc'.toList = (xs.map fun x => x.2.1).map Value.ref := by
    have hl : acc'.toList.length = ys.length := by rw [Array.length_toList, it.1]; exact l1
    refine List.ext_getElem? fun j => ?_
    rw [List.getElem?_map, List.getElem?_map]
    cases hj : acc'.toList[j]? with
    | none =>
      have h1 := List.getElem?_eq_none_iff.mp hj
      rw [List.getElem?_eq_none (show xs.length ≤ j by omega)]; rfl
    | some v =>
      obtain ⟨en, hen, hv⟩ := it.2 j v (by rw [← Array.getElem?_toList]; exact hj)
      have lt : j < xs.length := by
        have := (List.getElem?_eq_some_iff.mp hj).1
        omega
      obtain ⟨x, hxj⟩ : ∃ x, xs[j]? = some x := ⟨_, List.getElem?_eq_getElem lt⟩
      obtain ⟨y, hy, ey⟩ := pair_at pr hxj
      have qe := entry_at he j
      rw [hen, hy] at qe
      have e2 : en = entryOfKey (tupleKind (mixKind X.prog X.w)) y := Option.some.inj qe
      rw [hxj, hv, e2]
      show some (Value.ref y.2.1) = some (Value.ref x.2.1)
      rw [ey]
  have rv : Vals ((xs.map fun x => x.2.1).map V.ref) acc'.toList := by rw [ea]; exact vals_refs _
  have pk : Paired (fun (kv : List L2.Key × V) b => SqT X.K H b (kv.1.map kV)) (kvOf xs) (xs.map fun x => x.2.1) := keys_of g3
  refine ⟨.ref s.heap.objs.size, _, I.laid (t' := tk) (o := .lst ((xs.map fun x => x.2.1).map V.ref)) kp (Nat.le_refl _) ?_, rfl, q _ _ (I.hok.fresh (Nat.le_refl _)) pk⟩
  exact ⟨by rw [List.length_map, List.length_map]; exact z1, acc'.toList, c', rv, by rw [Array.toArray_toList]; exact e⟩
end
end EL
/-! Places as keys, the text's own constant tuples among them. -/
namespace EL
open PySem PySem.Spec PyProof.Rows L2
/-- a place, by any tuple -/
def PlS (K : PySem.W.Frag) (H : Hp) (v : V) (p : Pl) : Prop := ∃ b, v = .ref b ∧ SqT K H b (vP p)
theorem plS_up {K : PySem.W.Frag} : UpR (PlS K) := fun _ _ _ _ s h => by
  obtain ⟨b, e, h⟩ := h
  exact ⟨b, e, ex_t' s h⟩
theorem PlS.kp {K : PySem.W.Frag} {H H' : Hp} {v : V} {p : Pl} (k : KpT H H') (h : PlS K H v p) : PlS K H' v p := by
  obtain ⟨b, e, h⟩ := h
  exact ⟨b, e, sqT_kpt k h⟩
theorem allS_kp {K : PySem.W.Frag} {H H' : Hp} {vs : List V} {ps : List Pl} (k : KpT H H') (h : AllR (PlS K) H vs ps) : AllR (PlS K) H' vs ps := Paired.mapP h fun _ _ => PlS.kp k
theorem PlR.s {K : PySem.W.Frag} {H : Hp} {v : V} {p : Pl} (h : PlR H v p) : PlS K H v p := by
  obtain ⟨b, e, h⟩ := h
  exact ⟨b, e, stOf h⟩
theorem kpT_tups {H H' : Hp} (k : KpT H H') : TupS H H' := fun b xs h => (k b xs).1 h
theorem KpT.ext {H : Hp} {p : Addr} {φ : Heap → Prop} {o : HO} (h : H p = some (.ext φ)) : KpT H (upd H p o) := fun b xs => ⟨fun e => by rw [upd_ne (fun q => by rw [q, h] at e; cases e)]; exact e, fun u e => by rw [upd_ne (fun q => by rw [q, h] at e; cases e)]; exact e⟩
section
variable {P : Program} {w : World} {K : PySem.W.Frag} {H H' : Hp} {d L : Addr} {kvs : List (List L2.Key × V)}
theorem TabT.at' (t : TabT P w K H d kvs) : ∃ xs, H d = some (DX P w d xs) := by
  obtain ⟨xs, h, _⟩ := t
  exact ⟨xs, h⟩
theorem TabT.neL {us : List V} (t : TabT P w K H d kvs) (h : H L = some (.lst us)) : d ≠ L := fun e => by
  obtain ⟨xs, g⟩ := t.at'
  rw [e, h] at g; cases g
theorem TabT.neN (t : TabT P w K H d kvs) (h : H L = none) : L ≠ d := fun e => by
  obtain ⟨xs, g⟩ := t.at'
  rw [← e, h] at g; cases g
/-- it stands where another object changes -/
theorem TabT.kp (t : TabT P w K H d kvs) (k : KpT H H') (e : H' d = H d) : TabT P w K H' d kvs := by
  obtain ⟨xs, h1, h2, h3⟩ := t
  exact ⟨xs, e.trans h1, h2, fun x hx => sqT_kpt k (h3 x hx)⟩
theorem TabT.updL {us : List V} {o : HO} (t : TabT P w K H d kvs) (h : H L = some (.lst us)) : TabT P w K (upd H L o) d kvs := t.kp (.lst h) (upd_ne (t.neL h))
theorem TabT.get {b : Addr} {k : List L2.Key} (t : TabT P w K H d kvs) (hb : SqT K H b (k.map kV)) : XGet P w K H d (.ref b) (valV kvs k) := ⟨kvs, k, b, t.g, rfl, hb, rfl⟩
theorem kpT_wo {φ : Heap → Prop} (h : H d = some (.ext φ)) : KpT H (wo d H) := fun b xs => ⟨fun e => by rw [wo_ne (fun q => by rw [q, h] at e; cases e)]; exact e, fun u e => by rw [wo_ne (fun q => by rw [q, h] at e; cases e)]; exact e⟩
theorem TabT.put {o : HO} (t : TabT P w K H d kvs) : KpT H (upd H d o) := by
  obtain ⟨xs, h⟩ := t.at'
  exact KpT.ext h
theorem TabT.wo2 {us : List V} (t : TabT P w K H d kvs) (h : H L = some (.lst us)) : KpT H (wo2 d L H) := by
  obtain ⟨xs, g⟩ := t.at'
  intro b ys
  refine ⟨fun e => ?_, fun u e => ?_⟩
  · rw [wo2_ne (fun q => by rw [q, g] at e; cases e) (fun q => by rw [q, h] at e; cases e)]; exact e
  · rw [wo2_ne (fun q => by rw [q, g] at e; cases e) (fun q => by rw [q, h] at e; cases e)]; exact e
end
theorem keysS_all {K : PySem.W.Frag} {v : Pl → V} {H : Hp} : ∀ {M : List Pl} {bs : List Addr}, Paired (fun (kv : List L2.Key × V) b => SqT K H b (kv.1.map kV)) (valT v M) bs → AllR (PlS K) H (bs.map V.ref) M
  | [], [], _ => .nil
  | [], _ :: _, h => by cases h
  | _ :: _, [], h => by cases h
  | _ :: _, b :: _, h => by
    cases h with
    | cons a t => exact .cons ⟨b, rfl, a⟩ (keysS_all t)
/-- d.get(y, z) -/
def tXGet2 (P : Program) (w : World) (K : PySem.W.Frag) (td ty tx : TE) : TE := fun σ H Q => td σ H fun x H1 => ∃ a kv0, x = .ref a ∧ TabT P w K H1 a kv0 ∧ ty σ H1 fun y H2 => tx σ H2 fun z H3 => ∃ o, XGet P w K H3 a y o ∧ Q (o.getD z) H3
section
variable {X : Cx} {o e f : Expr} {td ty tx : TE} {apos cpos : Pos}
theorem pe_xget2 (hu : X.A.units + 1 < cLine) (ho : PE X o td) (he : PE X e ty) (hf : PE X f tx) (m : M2 X o "get" apos e f cpos) : PE X (.Call (.Attribute o "get" apos) [e, f] [] cpos) (tXGet2 X.prog X.w X.K td ty tx) := by
  refine ⟨fun pins s σ H Q I h => wpAny_Call_method m.base m.few m.line PySem.F.plainAttrs_dict PySem.F.slot_dict_get PySem.F.type_dict_get (thn (ho.run pins s σ H _ I h) fun u s1 h1 => ?_)⟩
  obtain ⟨x, H1, I1, rx, a, kv0, rfl, t0, q1⟩ := h1
  cases (show u = Value.ref a from rx)
  obtain ⟨z1, z2⟩ := x_type I1 t0
  refine ⟨z1, z2, ?_⟩
  rw [m.trees]
  refine Calls.callWith_builtin rfl (Calls.evalArgs_plain (Calls.spliced_cons (thn (he.run pins s1 σ H1 _ I1 q1) fun iv s2 h2 => ?_)))
  obtain ⟨y, H2, I2, ry, q2⟩ := h2
  refine Calls.spliced_cons (thn (hf.run pins s2 σ H2 _ I2 q2) fun fv s3 h3 => ?_)
  obtain ⟨z, H3, I3, rz, ov, ⟨kvs, k, b, ⟨xs, g1, rfl, g3⟩, rfl, hb, l⟩, q3⟩ := h3
  cases (show iv = Value.ref b from ry)
  obtain ⟨_, hd, ys, rel, dd⟩ := dx_rd I3 g1 g3
  refine Calls.spliced_nil (call_meetsIn PySem.F.slot_dict_get dd.typeIs PySem.F.entry_dict_get (PySem.F.args_dict_get_3 _ _ _) (meetsH_dict_get_default (tupleKind (mixKind X.prog X.w)) a b hd fv)
    ⟨tupleKind_room_in1 hu, k, ys, key_sq I3 hb, dd, _, H3, I3.tok _, ?_, q3⟩)
  rw [l]
  exact (relA_val rel k).getD rz
end
/-- d[y] op= v -/
def sXAug (P : Program) (w : World) (K : PySem.W.Frag) (td ty tv : TE) (rd : V → V → Hp → VK → Prop) : TS := fun D σ H => td σ H fun x H1 => ty σ H1 fun y H2 => ∃ a v, x = .ref a ∧ XGet P w K H2 a y (some v) ∧
  tv σ H2 fun y2 H3 => rd v y2 H3 fun z H4 => ∃ kvs k b, y = .ref b ∧ TabT P w K H4 a kvs ∧ SqT K H4 b (k.map kV) ∧ kvs.length < sizeLine ∧ ∀ o, TabT P w K (upd H4 a o) a (putK kvs k z) → D.nx σ (upd H4 a o)
section
variable {X : Cx} {o i value : Expr} {td ty tv : TE} {pos tpos : Pos}
theorem ps_xaug {op : Operator} {rd : V → V → Hp → VK → Prop} (hu : X.A.units + 1 < cLine) (ho : PE X o td) (hi : PE X i ty) (hv : PE X value tv) (hop : InOp X op rd)
    (ha : ∀ ov iv new, augStore i ov iv new = (do holding [new, ov, iv] (setItem ov iv new); release [new, ov, iv] []; pure .next)) : PS X (.AugAssign (.Subscript o i tpos) op value pos) (sXAug X.prog X.w X.K td ty tv rd) := by
  refine ⟨fun pins s σ H D I h => wpAny_AugAssign_SubscriptAny (thn (ho.run pins s σ H _ I h) fun u s1 h1 => ?_) ha⟩
  obtain ⟨x, H1, I1, rx, q1⟩ := h1
  refine thn (hi.run pins s1 σ H1 _ I1 q1) fun iv s2 h2 => ?_
  obtain ⟨y, H2, I2, ry, a, v, rfl, g, q2⟩ := h2
  cases (show u = Value.ref a from rx)
  refine (x_get hu I2 g ry fun w' s3 I3 rw' => thn (hv.run pins s3 σ H2 _ I3 q2) fun w2 s4 h4 => ?_).2
  obtain ⟨y2, H3, I4, ry2, q3⟩ := h4
  refine thn (hop pins s4 σ H3 v y2 w' w2 _ I4 rw' ry2 q3) fun w3 s5 h5 => ?_
  obtain ⟨z, H4, I5, rz, kvs, k, b, rfl, t, hb, hl, q4⟩ := h5
  exact x_set hu I5 t rfl hb hl ry rz fun o s6 t6 I6 => ⟨σ, _, I6, q4 o t6⟩
/-- len(d) -/
theorem call_lenX : CallR X (.builtin "len") (fun xs H Q => ∃ d kvs, xs = [V.ref d] ∧ TabT X.prog X.w X.K H d kvs ∧ Q (.int kvs.length) H) := by
  intro pins s σ H vs us Q I r h
  obtain ⟨d, kvs, rfl, ⟨xs, g1, rfl, g3⟩, q⟩ := h
  obtain ⟨u, rfl, rx⟩ := r.one
  cases rx
  obtain ⟨z, hd, ys, rel, dd⟩ := dx_rd I (.inl g1) g3
  have hl : xs.length = ys.length := Paired.length rel
  have zn : (ys.length : Int) < 2 ^ 63 := by rw [← hl]; rw [sizeLine_eq] at z; omega
  have e : (kvOf xs).length = ys.length := by rw [List.length_map, hl]
  rw [e] at q
  exact call_len_dictH hd dd zn ⟨.int ((ys.length : Nat) : Int), H, I.tok _, ⟨_, rfl⟩, q⟩
end
end EL
namespace KP
open PySem PySem.Spec PyProof.Rows L2 EL LamX NdefX
open Evl (pss_cut)
abbrev sExplored : Stmt := topS 10
theorem scExplored : FnScope ["starts", "steps_from", "steps", "waiting", "place", "_", "further"] ["starts", "steps_from"] (defScope sExplored) := ⟨rfl, rfl, rfl, by decide +kernel, rfl, by decide +kernel, by decide +kernel⟩
/-- where a step leads -/
abbrev tgt (t : Stp) : Pl := (t.2.toNat, sdN t)
abbrev outP (f : Pl → List Stp) (p : Pl) : List Pl := (f p).map tgt
def spExplored (P : Program) (w : World) (K : PySem.W.Frag) : SpL := fun _ spL ws F lf vs H Q E => ∃ (a : Addr) (ss : List Pl) (us0 : List V) (U : List Pl) (B : Nat) (f : Pl → List Stp), vs = [.ref a, .ref lf] ∧ H a = some (.lst us0) ∧ AllR (PlS K) H us0 ss ∧ ss.length ≤ 1000 ∧ U.length ≤ 5000 ∧ B ≤ 1000 ∧
  (∀ p, Rch (outP f) ss p → p ∈ U) ∧ (∀ p ∈ U, (f p).length ≤ B ∧ ∀ t ∈ f p, 0 ≤ t.2) ∧ H F.c = some (CodeO F.c F.qual) ∧
  (∀ p, Rch (outP f) ss p → ∀ (b : Addr) (H1 : Hp) (Q1 : VK), Same H H1 → SqT K H1 b (vP p) → (∀ l us H', Same H1 H' → H1 l = none → H' l = some (.lst us) → AllR StqR H' us (f p) → Q1 (.ref l) H') → spL ws [.ref b] H1 Q1 E) ∧
  ∀ d kvs M H', Same H H' → H d = none → TabT P w K H' d kvs → AdjR StqR f H' kvs M → M.Nodup → (∀ p, p ∈ M ↔ Rch (outP f) ss p) → Q (.ref d) H'
/-- what was met, and what waits -/
structure Expl (f : Pl → List Stp) (ss M W : List Pl) : Prop where
  nd : M.Nodup
  re : ∀ p, p ∈ M ∨ p ∈ W → Rch (outP f) ss p
  st : ∀ s ∈ ss, s ∈ M ∨ s ∈ W
  cl : ∀ p ∈ M, ∀ q ∈ outP f p, q ∈ M ∨ q ∈ W
section
variable {P : Program} {w : World} {K : PySem.W.Frag} {mg : Str → Option Value} {base : Heap}
theorem ok_Explored {f : Addr} {fd : FuncData} {k j : Nat} (hjk : j ≤ k) (F : Fun K "explored" "explored" sExplored f fd) (nlist : mg "list" = none) : FnL P w K mg base (k + 1) f fd ["starts", "steps_from"] j ["place"] (spExplored P w K) := by
  refine FnL.of F scExplored (fun fr spL ws F lf vs H Q E h => ?_) (fun cdv A outer s H vs F lf fr ws spL Q E hr L0 oL h => ?_)
  · obtain ⟨a, ss, us0, U, B, g, rfl, _⟩ := h; rfl
  · obtain ⟨a, ss, us0, U, B, g, rfl, ha, hp0, hsl, hUl, hB, hU, hstp, hcode, hlam, kQ⟩ := h
    have hu := hr.units
    have hu1 : (A.deeper (envOfC "explored" (defScope sExplored) s.heap.objs.size f cdv)).units + 1 < cLine := by omega
    refine ⟨_, (pss_cons (ps_set (i := 2) scExplored.nd rfl (by first | exact Or.inl rfl | exact Or.inr rfl) pe_xnew)
      (pss_cons (ps_set (i := 3) scExplored.nd rfl (by first | exact Or.inl rfl | exact Or.inr rfl) (pe_callTy call_list_of (by rfl) nlist boot_list (pa_cons (pv 0) pa_nil)))
      (pss_cons (ps_while PassesOwn.never (pt_truth (pv 3) (by intro _; rfl)) (pss_cons (ps_set (i := 4) scExplored.nd rfl (by first | exact Or.inl rfl | exact Or.inr rfl) (pe_bm0 PySem.F.plainAttrs_list PySem.F.slot_list_pop PySem.F.type_list_pop mt_pop (pv 3)))
      (pss_one (ps_if (pt_cmp (pc_xnotin hu1 (pv 4) (pv 2))) (pss_cons (ps_xput hu1 (pv 2) (pv 4) (pe_callL (i := 1) (E := E) L0 rfl oL hr hjk pass0 rfl (Or.inl rfl) (pa_cons (pv 4) pa_nil)) rfl)
      (pss_one (ps_expr (pe_bm PySem.F.plainAttrs_list PySem.F.slot_list_extend PySem.F.type_list_extend mt_extend (pv 3) (pa_cons (pe_lc (own := [("_", 5), ("further", 6)]) (g := (gTup K 2 (gCons (gName 5) (gCons (gName 6) gNil)))) (by rfl) scExplored.nd (pi_list (pe_xget hu1 (pv 2) (pv 4) (fun _ _ => rfl))) (blkOk_by (own := [("_", 5), ("further", 6)]) (N := ["starts", "steps_from", "steps", "waiting", "place", "_", "further"]) (sc := defScope sExplored) (by decide +kernel)) (fun _ _ _ _ _ => (pg_tup (by rfl) (pgs_cons (pg_name (i := 5) scExplored.nd rfl (by first | exact Or.inl rfl | exact Or.inr rfl)) (pgs_cons (pg_name (i := 6) scExplored.nd rfl (by first | exact Or.inl rfl | exact Or.inr rfl)) pgs_nil)))) (fun _ _ _ _ _ => pts_nil) (fun _ _ _ _ _ => (pv 6))) pa_nil))))) pss_nil))))
      (pss_one (ps_ret (pv 2)))))), ?_⟩
    intro d o0 nd gd1
    have s1 := same_upd (o := o0) nd
    have ndH := nd
    generalize upd H d o0 = H1 at s1 gd1 ⊢
    refine ⟨.ref a, rfl, a, us0, rfl, .inl (sqOf (s1 _ _ ha)), fun L nL => ?_⟩
    have s2 := same_upd (o := .lst us0) nL
    have gL2 : upd H1 L (.lst us0) L = some (.lst us0) := upd_same
    generalize upd H1 L (.lst us0) = H2 at s2 gL2 ⊢
    have gd2 := gd1.up s2
    have nLH : H L = none := s1.free nL
    have dL : d ≠ L := (gd1.neN nL).symm
    have T2 : ∀ {G : Hp} {kvs : List (List L2.Key × V)} {us : List V}, TabT P w K G d kvs → G L = some (.lst us) → KpT G (wo2 d L G) := fun g1 g2 => g1.wo2 g2
    have sH : Same H (wo2 d L H2) := wo2_of ndH nLH (s1.trans s2)
    refine ⟨fun t σ H' => ∃ (kvs : List (List L2.Key × V)) (M W : List Pl) (us : List V) (y4 y5 y6 : Option V), σ = [some (.ref a), some (.ref lf), some (.ref d), some (.ref L), y4, y5, y6] ∧ TabT P w K H' d kvs ∧ H' L = some (.lst us) ∧ AdjR StqR g (wo2 d L H') kvs M ∧ AllR (PlS K) (wo2 d L H') us W ∧ Expl g ss M W ∧ W.length ≤ 1000 + M.length * B ∧ Same H (wo2 d L H') ∧ t = (U.length - M.length) * (B + 1) + W.length,
      ⟨_, [], [], ss, us0, _, _, _, rfl, gd2, gL2, .nil, AllR.up plS_up sH hp0, ⟨List.nodup_nil, fun p h => .base (h.resolve_left (List.not_mem_nil)), fun s h => .inr h, fun p h => (List.not_mem_nil h).elim⟩, by omega, sH, rfl⟩, ?_⟩
    rintro t σ H3 ⟨kvs, M, W, us, y4, y5, y6, rfl, gd3, gL3, hA, hW, hE, hWl, sm, ht⟩
    have hML : M.length ≤ U.length := nodup_sub U M hE.nd fun p hp => hU p (hE.re p (.inl hp))
    refine ⟨.ref L, rfl, !us.isEmpty, .inl ⟨_, sqOf gL3, rfl⟩, ?_⟩
    rcases List.eq_nil_or_concat W with rfl | ⟨W', q, rfl⟩
    · cases hW
      refine ⟨_, rfl, kQ d kvs M H3 (sm.trans wo2_sub) ndH gd3 (AdjR.up stqR_up wo2_sub hA) hE.nd fun p => ⟨fun hp => hE.re p (.inl hp), fun hp => ?_⟩⟩
      exact hp.least (C := fun p => p ∈ M) (fun s hs => (hE.st s hs).resolve_right List.not_mem_nil) fun p hp q hq => (hE.cl p hp q hq).resolve_right List.not_mem_nil
    rw [List.concat_eq_append] at *
    obtain ⟨us', v, rfl, hW', b, rfl, hb⟩ := AllR.last hW
    have hve : (!(us' ++ [V.ref b]).isEmpty) = true := by simp
    rw [hve]
    have hqR : Rch (outP g) ss q := hE.re q (.inr (by simp))
    have hqU := hU q hqR
    refine ⟨fun σ' H' => ∃ t' < t, ∃ (kvs : List (List L2.Key × V)) (M W : List Pl) (us : List V) (y4 y5 y6 : Option V), σ' = [some (.ref a), some (.ref lf), some (.ref d), some (.ref L), y4, y5, y6] ∧ TabT P w K H' d kvs ∧ H' L = some (.lst us) ∧ AdjR StqR g (wo2 d L H') kvs M ∧ AllR (PlS K) (wo2 d L H') us W ∧ Expl g ss M W ∧ W.length ≤ 1000 + M.length * B ∧ Same H (wo2 d L H') ∧ t' = (U.length - M.length) * (B + 1) + W.length, fun σ' H' hN => by obtain ⟨t', h1, h2⟩ := hN; exact ⟨t', h1, h2⟩, ?_⟩
    refine ⟨.ref L, rfl, .inl ⟨rfl, _, sqOf gL3⟩, L, _, .ref b, rfl, rfl, gL3, by simp, ?_⟩
    have eD : (us' ++ [V.ref b]).dropLast = us' := by simp
    rw [eD]
    have gL4 : upd H3 L (.lst us') L = some (.lst us') := upd_same
    have gd4 : TabT P w K (upd H3 L (.lst us')) d kvs := gd3.updL gL3
    have e4 : wo2 d L (upd H3 L (.lst us')) = wo2 d L H3 := wo2_L
    generalize upd H3 L (.lst us') = H4 at gL4 gd4 e4 ⊢
    rw [← e4] at hA hW' hb sm
    have hb4 : SqT K H4 b (vP q) := ex_t' wo2_sub hb
    have hlW : (W' ++ [q]).length = W'.length + 1 := by simp
    refine ⟨_, rfl, .ref d, rfl, d, valV kvs (kP q), rfl, gd4.get (k := kP q) hb4, _, rfl, ?_⟩
    by_cases hin : q ∈ M
    · obtain ⟨l, ul, h1, _⟩ := hA.get hin
      rw [h1]
      refine iteF ⟨_, ?_, kvs, M, W', us', _, _, _, rfl, gd4, gL4, hA, hW', ⟨hE.nd, fun p hp => hE.re p (hp.imp id fun z => List.mem_append_left _ z), fun s hs => ?_, fun p hp r hr => ?_⟩, by omega, sm, rfl⟩
      · rw [ht, hlW]; omega
      · rcases hE.st s hs with h | h
        · exact .inl h
        · rcases List.mem_append.mp h with h | h
          · exact .inr h
          · rw [List.mem_singleton.mp h]; exact .inl hin
      · rcases hE.cl p hp r hr with h | h
        · exact .inl h
        · rcases List.mem_append.mp h with h | h
          · exact .inr h
          · rw [List.mem_singleton.mp h]; exact .inl hin
    rw [hA.no hin]
    refine iteT ⟨rfl, _, rfl, (sm.trans wo2_sub) _ _ hcode, hlam q hqR b H4 _ (sm.trans wo2_sub) hb4 fun l ul G sG nl gl hul => ?_⟩
    have hkl : kvs.length = M.length := hA.len
    have hM1 : (M ++ [q]).Nodup := by
      rw [List.nodup_append]
      exact ⟨hE.nd, by simp, fun x hx y hy e => hin (by rw [List.mem_singleton.mp hy] at e; exact e ▸ hx)⟩
    have hM2 : (M ++ [q]).length ≤ U.length := nodup_sub U _ hM1 fun p hp => by
      rcases List.mem_append.mp hp with hp | hp
      · exact hU p (hE.re p (.inl hp))
      · rw [List.mem_singleton.mp hp]; exact hqU
    rw [List.length_append] at hM2
    have hM3 : M.length + 1 ≤ U.length := hM2
    obtain ⟨hgl, hgt⟩ := hstp q hqU
    have ld : l ≠ d := gd4.neN nl
    have lL : l ≠ L := fun e => by rw [e, gL4] at nl; cases nl
    have gdG := gd4.up sG
    have gLG := sG _ _ gL4
    refine ⟨.ref d, rfl, .ref b, rfl, d, kvs, kP q, b, rfl, rfl, gdG, ex_t' sG hb4, lt_sz (by omega), fun o5 gd5 => ?_⟩
    have hv5 : valV (putK kvs (kP q) (.ref l)) (kP q) = some (.ref l) := by rw [valV_put, if_pos rfl]
    rw [putK_new _ (hA.no hin)] at hv5 gd5
    have tG : KpT G (upd G d o5) := gdG.put
    have gL5 : upd G d o5 L = some (.lst us') := by rw [upd_ne dL.symm]; exact gLG
    have gl5 : upd G d o5 l = some (.lst ul) := by rw [upd_ne ld]; exact gl
    have e5 : wo2 d L (upd G d o5) = wo2 d L G := wo2_d
    have hul2 : AllR StqR (wo2 d L G) ul (g q) := Paired.mapP hul fun _ _ z => z.ts (kpT_tups (T2 gdG gLG))
    generalize upd G d o5 = G1 at tG gd5 gL5 gl5 e5 ⊢
    have hb5 := sqT_kpt tG (ex_t' sG hb4)
    have hul5 : AllR StqR G1 ul (g q) := Paired.mapP hul fun _ _ z => z.ts (kpT_tups tG)
    refine ⟨.ref L, rfl, .inl ⟨rfl, us', sqOf gL5⟩, ?_⟩
    refine ⟨.ref d, rfl, .ref b, rfl, d, .ref l, rfl, (by rw [← hv5]; exact gd5.get (k := kP q) hb5), l, rfl, ⟨ul, sqOf gl5⟩, fun Z nZ => ?_⟩
    refine lc_it walk_list (LcR (PlS K) Z G1 fun i => (outP g q).take i) (LcR.start nZ rfl) (fun i H' _ Lr => sqOf (Lr.sm _ _ gl5)) ?_ ?_
    · rintro i v H9 H6 hi Lr ⟨rfl, hv⟩
      obtain ⟨t1, ht1, e, p', r, rfl, hab, hp', hr'⟩ := AllR.at hul5 hv
      have hi2 : i < (g q).length := (List.getElem?_eq_some_iff.mp ht1).1
      refine ⟨e, _, rfl, stOf (Lr.sm _ _ hab), rfl, _, _, rfl, _, _, rfl, rfl, rfl, ?_⟩
      dsimp only [tYes]
      refine iteT ⟨_, rfl, lcr_some plS_up Lr (Same.refl _) (d := tgt t1) (take_snoc (by rw [List.getElem?_map, ht1]; rfl)) ⟨r, rfl, ?_⟩ (by omega)⟩
      have h0 := hgt t1 (List.mem_of_getElem? ht1)
      have e0 : vP (tgt t1) = [.int t1.2, .int (sdN t1)] := by
        show [V.int ((t1.2.toNat : Nat) : Int), V.int (sdN t1)] = _
        rw [Int.toNat_of_nonneg h0]
      rw [e0]
      exact stOf (Lr.sw _ _ hr')
    rintro H7 Lr
    have s7 := Lr.sm
    obtain ⟨zs, gZ, hzs, _⟩ := Lr.done
    have hull : ul.length = (g q).length := hul.len
    rw [hull, List.take_of_length_le (by rw [List.length_map]; exact Nat.le_refl _)] at hzs
    have hzl : zs.length = (g q).length := by rw [hzs.len, List.length_map]
    have hWl' : us'.length = W'.length := hW'.len
    have hMB : (M.length + 1) * B = M.length * B + B := Nat.succ_mul _ _
    have hMU : M.length * B ≤ 5000 * 1000 := Nat.mul_le_mul (by omega) hB
    refine ⟨L, Z, us', zs, rfl, rfl, s7 _ _ gL5, gZ, (by rw [sizeLine_eq]; omega), ?_⟩
    have s47 : Same (wo2 d L H4) (wo2 d L H7) := (wo2_same sG).trans (by rw [← e5]; exact wo2_same s7)
    have sG7 : Same (wo2 d L G) (wo2 d L H7) := by rw [← e5]; exact wo2_same s7
    have e7 : wo2 d L (upd H7 L (.lst (us' ++ zs))) = wo2 d L H7 := wo2_L
    obtain ⟨c, hc⟩ : ∃ c, U.length - M.length = c + 1 := ⟨U.length - M.length - 1, by omega⟩
    have hc2 : U.length - (M.length + 1) = c := by omega
    have hc3 : (c + 1) * (B + 1) = c * (B + 1) + (B + 1) := Nat.succ_mul _ _
    refine ⟨(U.length - (M ++ [q]).length) * (B + 1) + (W' ++ outP g q).length, ?_, kvs ++ [(kP q, .ref l)], M ++ [q], W' ++ outP g q, us' ++ zs, _, _, _, rfl, ?_, upd_same, ?_, ?_, ⟨hM1, fun p hp => ?_, fun s hs => ?_, fun p hp r hr => ?_⟩, ?_, ?_, rfl⟩
    · rw [ht, hlW, List.length_append, List.length_append, List.length_map, hc, hc3]
      show (U.length - (M.length + 1)) * (B + 1) + _ < _
      rw [hc2]
      omega
    · exact (gd5.up s7).updL (s7 _ _ gL5)
    · rw [e7]
      refine AdjR.snoc (AdjR.up stqR_up s47 hA) (us := ul) ?_ (AllR.up stqR_up sG7 hul2)
      rw [wo2_ne ld lL]; exact s7 _ _ gl5
    · rw [e7]
      exact AllR.app (AllR.up plS_up s47 hW') (allS_kp (T2 (gd5.up s7) (s7 _ _ gL5)) (AllR.up plS_up wo_sub hzs))
    · rcases hp with hp | hp
      · rcases List.mem_append.mp hp with hp | hp
        · exact hE.re p (.inl hp)
        · rw [List.mem_singleton.mp hp]; exact hqR
      · rcases List.mem_append.mp hp with hp | hp
        · exact hE.re p (.inr (List.mem_append_left _ hp))
        · exact hqR.step hp
    · rcases hE.st s hs with h | h
      · exact .inl (List.mem_append_left _ h)
      · rcases List.mem_append.mp h with h | h
        · exact .inr (List.mem_append_left _ h)
        · exact .inl (List.mem_append_right _ h)
    · rcases List.mem_append.mp hp with hp | hp
      · rcases hE.cl p hp r hr with h | h
        · exact .inl (List.mem_append_left _ h)
        · rcases List.mem_append.mp h with h | h
          · exact .inr (List.mem_append_left _ h)
          · exact .inl (List.mem_append_right _ h)
      · rw [List.mem_singleton.mp hp] at hr
        exact .inr (List.mem_append_right _ hr)
    · rw [List.length_append, List.length_append, List.length_map]
      show _ ≤ 1000 + (M.length + 1) * B
      omega
    · rw [e7]; exact sm.trans s47
end
end KP
namespace KP
open PySem PySem.Spec PyProof.Rows L2 EL LamX NdefX
open Evl (pss_cut)
abbrev sStepsInRows : Stmt := topS 45
theorem scStepsInRows : FnScope ["rows"] ["rows"] (defScope sStepsInRows) := ⟨rfl, rfl, rfl, by decide +kernel, rfl, by decide +kernel, by decide +kernel⟩
/-- the steps that can be taken at a place -/
abbrev stF (rows : List (List Stp)) (p : Pl) : List Stp := (rows.getD p.1 []).filter (keepD p.2)
structure RowsOk (rows : List (List Stp)) : Prop where
  pos : 0 < rows.length
  len : rows.length ≤ 1600
  each : ∀ ts ∈ rows, ts.length ≤ 1000 ∧ ∀ t ∈ ts, 0 ≤ t.2 ∧ t.2.toNat < rows.length
theorem sdN_three (t : Stp) : sdN t = 0 ∨ sdN t = 1 ∨ sdN t = 2 := by
  unfold sdN sideN
  split
  · exact .inr (.inl rfl)
  · split
    · exact .inr (.inr rfl)
    · exact .inl rfl
/-- all places -/
def places (n : Nat) : List Pl := (List.range n).flatMap fun i => [((i, 0) : Pl), (i, 1), (i, 2)]
theorem mem_places {n : Nat} {p : Pl} : p ∈ places n ↔ p.1 < n ∧ (p.2 = 0 ∨ p.2 = 1 ∨ p.2 = 2) := by
  obtain ⟨i, s⟩ := p
  unfold places
  simp only [List.mem_flatMap, List.mem_range, List.mem_cons, List.not_mem_nil, or_false, Prod.mk.injEq]
  constructor
  · rintro ⟨j, hj, h⟩
    rcases h with ⟨rfl, h⟩ | ⟨rfl, h⟩ | ⟨rfl, h⟩
    · exact ⟨hj, .inl h⟩
    · exact ⟨hj, .inr (.inl h)⟩
    · exact ⟨hj, .inr (.inr h)⟩
  · rintro ⟨h1, h⟩
    exact ⟨i, h1, by rcases h with h | h | h <;> simp [h]⟩
theorem places_len (n : Nat) : (places n).length = 3 * n := by
  unfold places
  rw [List.length_flatMap]
  induction n with
  | zero => rfl
  | succ n ih => rw [List.range_succ, List.map_append, List.sum_append, ih]; simp; omega
theorem stF_mem {rows : List (List Stp)} {p : Pl} {t : Stp} (h : t ∈ stF rows p) : ∃ ts ∈ rows, t ∈ ts := by
  have h1 := (List.mem_filter.mp h).1
  rw [List.getD_eq_getElem?_getD] at h1
  cases e : rows[p.1]? with
  | none => rw [e] at h1; exact (List.not_mem_nil h1).elim
  | some ts => rw [e] at h1; exact ⟨ts, List.mem_of_getElem? e, h1⟩
theorem RowsOk.tgt {rows : List (List Stp)} (R : RowsOk rows) {p : Pl} {t : Stp} (h : t ∈ stF rows p) : 0 ≤ t.2 ∧ KP.tgt t ∈ places rows.length := by
  obtain ⟨ts, h1, h2⟩ := stF_mem h
  obtain ⟨h3, h4⟩ := (R.each ts h1).2 t h2
  exact ⟨h3, mem_places.mpr ⟨h4, sdN_three t⟩⟩
theorem RowsOk.flen {rows : List (List Stp)} (R : RowsOk rows) (p : Pl) : (stF rows p).length ≤ 1000 := by
  refine Nat.le_trans (List.length_filter_le _ _) ?_
  rw [List.getD_eq_getElem?_getD]
  cases e : rows[p.1]? with
  | none => simp
  | some ts => exact (R.each ts (List.mem_of_getElem? e)).1
theorem RowsOk.rch {rows : List (List Stp)} (R : RowsOk rows) {p : Pl} (h : Rch (outP (stF rows)) [(0, 0)] p) : p ∈ places rows.length := by
  refine h.least (C := fun p => p ∈ places rows.length) (fun s hs => ?_) fun p _ q hq => ?_
  · rw [List.mem_singleton.mp hs]
    exact mem_places.mpr ⟨R.pos, .inl rfl⟩
  · obtain ⟨t, ht, rfl⟩ := List.mem_map.mp hq
    exact (R.tgt ht).2
/-- the promise of the lambda: rows is what its cell holds -/
def spStp (K : PySem.W.Frag) : List (Option V) → Sp := fun ws vs H Q _ => ∃ (a b : Addr) (rows : List (List Stp)) (p : Pl), ws = [some (.ref a)] ∧ vs = [.ref b] ∧ SqT K H b (vP p) ∧ Dq K H (.ref a) (.tuple (rows.map rowPD)) ∧ RowsOk rows ∧ p.1 < rows.length ∧
  ∀ l us H', Same H H' → H l = none → H' l = some (.lst us) → AllR StqR H' us (stF rows p) → Q (.ref l) H'
def spStepsInRows (P : Program) (w : World) (K : PySem.W.Frag) (T : List (Addr × Str)) (b0 : Addr) : Sp := fun vs H Q _ => ∃ (a : Addr) (rows : List (List Stp)), vs = [.ref a] ∧ Dq K H (.ref a) (.tuple (rows.map rowPD)) ∧ RowsOk rows ∧ Grd T b0 H ∧
  ∀ d kvs M H', ExtN H H' → Tabs T H' → noT H d = none → TabT P w K H' d kvs → AdjR StqR (stF rows) H' kvs M → M.Nodup → (∀ p, p ∈ M ↔ Rch (outP (stF rows)) [(0, 0)] p) → Q (.ref d) H'
abbrev lamQ : Str := ("steps_in_rows" : Str) ++ (".<locals>." : Str) ++ ("<lambda>" : Str)
abbrev lamSc : Scope := { kind := .function, names := [("place", .local), ("rows", .free), ("steps_at", .globalImplicit)], isGenerator := false, isCoroutine := false }
theorem lamN : NScope ["place", "rows"] ["place"] ["rows"] lamSc := nscope_by (by decide +kernel)
theorem lamF : ∀ y ∈ lamSc.names, y.2 = .free → (defScope sStepsInRows).names.lookup y.1 = some .cell ∨ (defScope sStepsInRows).names.lookup y.1 = some .free := by decide +kernel
section
variable {P : Program} {w : World} {K : PySem.W.Frag} {mg : Str → Option Value} {base : Heap}
theorem ok_StepsInRows {f c Pt b0 : Addr} {fd : FuncData} {k n : Nat} (F : FunC K "steps_in_rows" sStepsInRows f fd c) (TB : TabB base mg c Pt) (m_START : mg "START" = some (.ref b0)) (hST : ∀ H : Hp, SqT K H b0 [.int 0, .int 0]) (CExplored : CalL P w K mg base k "explored" ["starts", "steps_from"] (n + 1) ["place"] (spExplored P w K)) (CStepsAt : Cal P w K mg base n "steps_at" ["row", "side"] (spStepsAtT K)) :
    FnOk P w K mg base CX0 (k + 1) f fd ["rows"] (spStepsInRows P w K [(Pt, lamQ)] b0) := by
  refine F.ok scStepsInRows (fun vs H Q E h => ?_) (fun A outer s H vs Q E hr h => ?_)
  · obtain ⟨a, rows, rfl, _⟩ := h; rfl
  · obtain ⟨a, rows, rfl, hv, R, hG, kQ⟩ := h
    have hu := hr.units
    refine ⟨_, (pss_one (ps_ret (pe_give (E := E0) (c := c) (P := Pt) (T := [(Pt, lamQ)]) (fr := ["rows"]) (js := [0]) (spL := spStp K) CExplored (by rfl) TB rfl (List.mem_singleton.mpr rfl) (fun p hp _ => (congrArg Prod.snd (List.mem_singleton.mp hp)).trans rfl) hr pass0 rfl lamF (by decide +kernel) rfl
      (fun lf c' => lok_of (N := ["place", "rows"]) lamN (fun pm ctv us hl => match us, hl with | [_], _ => rfl) (fun ws vs H Q E h => by obtain ⟨_, _, _, _, _, rfl, _⟩ := h; rfl) (fun A2 outer2 s2 H2 vs2 ws2 Q2 E2 hr2 hl2 h2 =>
        ⟨_, (pe_cal CStepsAt hr2 (by rfl) pass0 (pa_cons (pe_ix (show IxR _ (rIxT K) from ix_tup) (pv 1) (pe_ix (show IxR _ (rIxT K) from ix_tup) (pv 0) pe_int (fun _ _ => rfl)) (fun _ _ => rfl)) (pa_cons (pe_ix (show IxR _ (rIxT K) from ix_tup) (pv 0) pe_int (fun _ _ => rfl)) pa_nil))), ?lam⟩))
      (pe_lst (pa_cons (pe_glob (v := .ref b0) rfl m_START rfl) pa_nil))))), ?_⟩
    case lam =>
      obtain ⟨a2, b, rows2, p, rfl, rfl, hb, hd, R2, hp, k2⟩ := h2
      obtain ⟨xa, xs, e, hxs, hxa⟩ := dq_tup hd
      cases e
      have hlx : xs.length = rows2.length := by rw [hxa.len, List.length_map]
      obtain ⟨ts, hts⟩ : ∃ ts, rows2[p.1]? = some ts := ⟨_, List.getElem?_eq_getElem hp⟩
      obtain ⟨v, hvx⟩ : ∃ v, xs[p.1]? = some v := ⟨_, List.getElem?_eq_getElem (by omega)⟩
      obtain ⟨d, hd1, hd2⟩ := hxa.at hvx
      obtain ⟨ts', hts', rfl⟩ := mv_get hd1
      rw [hts] at hts'; cases hts'
      refine ⟨.ref a2, rfl, .ref b, rfl, b, _, _, .int (p.1 : Int), rfl, rfl, hb, (by rfl), a2, _, _, v, rfl, rfl, hxs, atI_nat hvx, .ref b, rfl, b, _, _, .int p.2, rfl, rfl, hb, (by rfl), ?_⟩
      refine ⟨v, p.2, ts, rfl, hd2, Nat.le_trans (R2.each ts (List.mem_of_getElem? hts)).1 (by omega), fun l us H' sm n g ha => k2 l us H' sm n g ?_⟩
      have e : stF rows2 p = ts.filter (keepD p.2) := by
        show (rows2.getD p.1 []).filter _ = _
        rw [List.getD_eq_getElem?_getD, hts]; rfl
      rw [e]; exact ha
    refine ⟨(by decide : 1 ≤ sizeLine), fun l nl => ⟨hG.tab.ext (same_upd nl), fun lf c' H2 eN T2 hc => ?_⟩⟩
    have s1 := same_upd (o := .lst [V.ref b0]) nl
    have hv2 := (hv.up s1).ext eN
    have gl2 : H2 l = some (.lst [V.ref b0]) := eN _ _ upd_same fun _ z => nomatch z
    have gb2 : SqT K H2 b0 [.int 0, .int 0] := hST H2
    refine ⟨l, [(0, 0)], [.ref b0], places rows.length, 1000, stF rows, rfl, gl2, .cons ⟨b0, rfl, gb2⟩ .nil, by decide, by rw [places_len]; have := R.len; omega, Nat.le_refl _, fun p hp => R.rch hp, fun p _ => ⟨R.flen p, fun t ht => (R.tgt ht).1⟩, hc, fun p hp b H1 Q1 sm hb kq => ?_, fun d kvs M H' sm n g ha nd hM => ?_⟩
    · exact ⟨a, b, rows, p, rfl, rfl, hb, hv2.up sm, R, (mem_places.mp (R.rch hp)).1, kq⟩
    · refine kQ d kvs M H' (((ExtN.of s1).trans eN).trans (ExtN.of sm)) (T2.ext sm) ?_ g ha nd hM
      cases e : noT H d with
      | none => rfl
      | some o =>
        obtain ⟨e1, e2⟩ := noT_some e
        rw [eN _ _ (s1 _ _ e1) e2] at n; cases n
end
end KP
namespace KP
open PySem PySem.Spec PyProof.Rows L2 EL LamX NdefX
open Evl (pss_cut)
abbrev sReached : Stmt := topS 5
theorem scReached : FnScope ["starts", "following", "met", "waiting", "place", "further"] ["starts", "following"] (defScope sReached) := ⟨rfl, rfl, rfl, by decide +kernel, rfl, by decide +kernel, by decide +kernel⟩
def spReachedP (P : Program) (w : World) (K : PySem.W.Frag) : Sp := fun vs H Q _ => ∃ (a d : Addr) (us0 : List V) (ss U M : List Pl) (kvs : List (List L2.Key × V)) (g : Pl → List Pl), vs = [.ref a, .ref d] ∧ H a = some (.lst us0) ∧ AllR (PlS K) H us0 ss ∧ TabT P w K H d kvs ∧ AdjR (PlS K) g H kvs M ∧ (∀ p, p ∉ M → g p = []) ∧
  U.length ≤ 5000 ∧ ss.length ≤ 900000 ∧ (∀ s ∈ ss, s ∈ U) ∧ (∀ p q, q ∈ g p → q ∈ U) ∧
  ∀ m H' N, Same H H' → H m = none → TabT P w K H' m (oneT N) → N.Nodup → (∀ p, p ∈ N ↔ Rch g ss p) → Q (.ref m) H'
/-- what was met, and what of it waits -/
structure GoesP (g : Pl → List Pl) (ss M W : List Pl) : Prop where
  nd : M.Nodup
  re : ∀ p ∈ M, Rch g ss p
  st : ∀ s ∈ ss, s ∈ M
  su : ∀ p ∈ W, p ∈ M
  cl : ∀ p ∈ M, p ∉ W → ∀ q ∈ g p, q ∈ M
theorem GoesP.done {g : Pl → List Pl} {ss M : List Pl} (h : GoesP g ss M []) (p : Pl) : p ∈ M ↔ Rch g ss p :=
  ⟨h.re p, fun r => r.least (C := fun p => p ∈ M) h.st fun p hp q hq => h.cl p hp List.not_mem_nil q hq⟩
/-- the places that follow one, some of them met by now -/
structure InnerP (g : Pl → List Pl) (M : List Pl) (q : Pl) (xs : List Pl) (N : List Pl) : Prop where
  nd : (M ++ N).Nodup
  re : ∀ p ∈ N, p ∈ g q
  cl : ∀ p ∈ xs, p ∈ M ++ N
section
variable {P : Program} {w : World} {K : PySem.W.Frag} {mg : Str → Option Value} {base : Heap}
theorem ok_ReachedP {f : Addr} {fd : FuncData} {k : Nat} (F : Fun K "reached" "reached" sReached f fd) (nlist : mg "list" = none) : FnOk P w K mg base CX0 (k + 1) f fd ["starts", "following"] (spReachedP P w K) := by
  refine F.ok scReached (fun vs H Q E h => ?_) (fun cdv A outer s H vs Q E hr h => ?_)
  · obtain ⟨a, d, us0, ss, U, M, kvs, g, rfl, _⟩ := h; rfl
  · obtain ⟨a, d, us0, ss, U, Mf, kvs, g, rfl, ga, hss0, gd, hF, hg0, hUl, hsl, hsU, hgU, kQ⟩ := h
    have hu := hr.units
    have hu1 : (A.deeper (envOfC "reached" (defScope sReached) s.heap.objs.size f cdv)).units + 1 < cLine := by omega
    refine ⟨_, (pss_cons (ps_setDcX (i := 2) (own := [("place", 4)]) (g := (gName 4)) (by rfl) (Nat.lt_of_succ_lt hu1) scReached.nd rfl rfl (swd_true rfl rfl rfl (by decide +kernel)) (pi_list (pv 0)) (blkOk_by (own := [("place", 4)]) (N := ["starts", "following", "met", "waiting", "place", "further"]) (sc := defScope sReached) (by decide +kernel)) ⟨(fun _ _ _ _ _ => (pg_name (i := 4) scReached.nd rfl (by first | exact Or.inl rfl | exact Or.inr rfl))), (fun _ _ _ _ _ => pts_nil), (fun _ _ _ _ _ => (pv 4)), (fun _ _ _ _ _ => pe_bl)⟩)
      (pss_cons (ps_set (i := 3) scReached.nd rfl (by first | exact Or.inl rfl | exact Or.inr rfl) (pe_callTy (call_listX rfl) (by rfl) nlist boot_list (pa_cons (pv 2) pa_nil)))
      (pss_cons (ps_while PassesOwn.never (pt_truth (pv 3) (by intro _; rfl)) (pss_cons (ps_set (i := 4) scReached.nd rfl (by first | exact Or.inl rfl | exact Or.inr rfl) (pe_bm0 PySem.F.plainAttrs_list PySem.F.slot_list_pop PySem.F.type_list_pop mt_pop (pv 3)))
      (pss_one (ps_for PassesOwn.never rfl (pi_list (pe_xget2 hu1 (pv 1) (pv 4) (pe_lst pa_nil) ⟨by rfl, by rfl, by rfl, by rfl⟩)) (pg_name (i := 5) scReached.nd rfl (by first | exact Or.inl rfl | exact Or.inr rfl)) (pss_one (ps_if (pt_cmp (pc_xnotin hu1 (pv 5) (pv 2))) (pss_cons (ps_xput hu1 (pv 2) (pv 5) pe_bl rfl)
      (pss_one (ps_expr (pe_bm PySem.F.plainAttrs_list PySem.F.slot_list_append PySem.F.type_list_append mt_append (pv 3) (pa_cons (pv 5) pa_nil))))) pss_nil))))))
      (pss_one (ps_ret (pv 2)))))), ?_⟩
    refine ⟨_, rfl, a, rfl, ⟨_, sqOf ga⟩, fun m o0 nm tm => ?_⟩
    have hl0 : us0.length = ss.length := hss0.len
    refine it_gen (walk_list (K := K) (a := a) (xs := us0)) (fun i H' => ∃ M, TabT P w K H' m (oneT M) ∧ M.Nodup ∧ (∀ p, p ∈ M ↔ p ∈ ss.take i) ∧ Same H H') ⟨[], tm, List.nodup_nil, fun p => by simp, same_upd nm⟩ (fun i H' _ z => by obtain ⟨_, _, _, _, sm⟩ := z; exact sqOf (sm _ _ ga)) ?_ ?_
    · rintro i v H9 H1 hi ⟨M, gm, nd, hM, sm⟩ ⟨rfl, hv⟩
      obtain ⟨s0, hs0, b, rfl, hb⟩ := AllR.at hss0 hv
      refine ⟨rfl, ?_⟩
      dsimp only [tYes]
      have bM : M.length ≤ U.length := nodup_sub U M nd fun p hp => hsU p (List.mem_of_mem_take ((hM p).mp hp))
      refine iteT ⟨_, rfl, oneT M, kP s0, b, rfl, ex_t' sm hb, gm, lt_sz (by rw [List.length_map]; omega), fun o6 g6 => ?_⟩
      have sU : ∀ o, Same H (upd H1 m o) := fun o b x e => by rw [upd_ne (ne_of_none e nm)]; exact sm b x e
      by_cases hin : s0 ∈ M
      · rw [oneT_put' hin] at g6
        refine ⟨M, g6, nd, fun p => ?_, sU _⟩
        rw [take_snoc hs0, List.mem_append, hM p]
        constructor
        · exact .inl
        · rintro (h | h)
          · exact h
          · rw [List.mem_singleton.mp h]; exact (hM s0).mp hin
      · rw [valT_put (v := fun _ => V.bl true) hin] at g6
        refine ⟨M ++ [s0], g6, ?_, fun p => ?_, sU _⟩
        · rw [List.nodup_append]
          exact ⟨nd, by simp, fun x hx y hy e => hin (by rw [List.mem_singleton.mp hy] at e; exact e ▸ hx)⟩
        · rw [take_snoc hs0, List.mem_append, List.mem_append, hM p]
    rintro H1 ⟨M0, gm, nd0, hM0, s1⟩
    rw [hl0, List.take_length] at hM0
    refine ⟨_, rfl, m, oneT M0, rfl, gm, fun L bs nL hks => ?_⟩
    have hL0 := keysS_all hks
    have s2 := same_upd (o := .lst (bs.map V.ref)) nL
    have gL : upd H1 L (.lst (bs.map V.ref)) L = some (.lst (bs.map V.ref)) := upd_same
    generalize upd H1 L (.lst (bs.map V.ref)) = H2 at s2 gL ⊢
    have gm2 := gm.up s2
    have mL : m ≠ L := (gm.neN nL).symm
    have nLH : H L = none := s1.free nL
    have sH2 : Same H (wo2 m L H2) := wo2_of nm nLH (s1.trans s2)
    have T2 : ∀ {G : Hp} {kvs : List (List L2.Key × V)} {us : List V}, TabT P w K G m kvs → G L = some (.lst us) → KpT G (wo2 m L G) := fun g1 g2 => g1.wo2 g2
    have hL1 : AllR (PlS K) (wo2 m L H2) (bs.map V.ref) M0 := allS_kp (T2 gm2 gL) (AllR.up plS_up s2 hL0)
    have g0 : GoesP g ss M0 M0 := ⟨nd0, fun p hp => .base ((hM0 p).mp hp), fun p hp => (hM0 p).mpr hp, fun p hp => hp, fun p hp np => absurd hp np⟩
    have rU : ∀ {p : Pl}, Rch g ss p → p ∈ U := fun {p} r => by
      cases r with
      | base h => exact hsU _ h
      | step _ h => exact hgU _ _ h
    have bnd : ∀ {M W : List Pl}, GoesP g ss M W → M.length ≤ U.length := fun h => nodup_sub U _ h.nd fun p hp => rU (h.re p hp)
    refine ⟨fun t σ H' => ∃ (M W : List Pl) (us : List V) (y4 y5 : Option V), σ = [some (.ref a), some (.ref d), some (.ref m), some (.ref L), y4, y5] ∧ TabT P w K H' m (oneT M) ∧ H' L = some (.lst us) ∧ AllR (PlS K) (wo2 m L H') us W ∧ GoesP g ss M W ∧ W.length ≤ M.length ∧ Same H (wo2 m L H') ∧ t = (U.length - M.length) * 2 + W.length, ⟨_, M0, M0, _, _, _, rfl, gm2, gL, hL1, g0, Nat.le_refl _, sH2, rfl⟩, ?_⟩
    rintro t σ H3 ⟨M, W, us, y4, y5, rfl, gm3, gL3, hW, g3, hWM, sm3, ht⟩
    have bM := bnd g3
    refine ⟨.ref L, rfl, !us.isEmpty, .inl ⟨_, sqOf gL3, rfl⟩, ?_⟩
    rcases List.eq_nil_or_concat W with rfl | ⟨W', q, rfl⟩
    · cases hW
      exact ⟨_, rfl, kQ m H3 M (sm3.trans wo2_sub) nm gm3 g3.nd g3.done⟩
    rw [List.concat_eq_append] at *
    obtain ⟨us', v, rfl, hW', b, rfl, hb⟩ := AllR.last hW
    have hve : (!(us' ++ [V.ref b]).isEmpty) = true := by simp
    rw [hve]
    have hqM : q ∈ M := g3.su q (by simp)
    have hlW : (W' ++ [q]).length = W'.length + 1 := by simp
    refine ⟨fun σ' H' => ∃ t' < t, ∃ (M W : List Pl) (us : List V) (y4 y5 : Option V), σ' = [some (.ref a), some (.ref d), some (.ref m), some (.ref L), y4, y5] ∧ TabT P w K H' m (oneT M) ∧ H' L = some (.lst us) ∧ AllR (PlS K) (wo2 m L H') us W ∧ GoesP g ss M W ∧ W.length ≤ M.length ∧ Same H (wo2 m L H') ∧ t' = (U.length - M.length) * 2 + W.length, fun σ' H' hN => by obtain ⟨t', h1, h2⟩ := hN; exact ⟨t', h1, h2⟩, ?_⟩
    refine ⟨.ref L, rfl, .inl ⟨rfl, _, sqOf gL3⟩, L, _, .ref b, rfl, rfl, gL3, by simp, ?_⟩
    have eD : (us' ++ [V.ref b]).dropLast = us' := by simp
    rw [eD]
    have gL4 : upd H3 L (.lst us') L = some (.lst us') := upd_same
    have gm4 : TabT P w K (upd H3 L (.lst us')) m (oneT M) := gm3.updL gL3
    have e4 : wo2 m L (upd H3 L (.lst us')) = wo2 m L H3 := wo2_L
    generalize upd H3 L (.lst us') = H4 at gL4 gm4 e4 ⊢
    rw [← e4] at hW' hb sm3
    have gd4 : TabT P w K H4 d kvs := (gd.up sm3).up wo2_sub
    refine ⟨_, rfl, d, kvs, rfl, gd4, _, rfl, Nat.zero_le _, fun z nz => ?_⟩
    have s5 := same_upd (o := .lst []) nz
    have gz : upd H4 z (.lst []) z = some (.lst []) := upd_same
    generalize upd H4 z (.lst []) = H5 at s5 gz ⊢
    have sw5 : Same (wo2 m L H4) (wo2 m L H5) := wo2_same s5
    have gm5 := gm4.up s5
    have gL5 := s5 _ _ gL4
    have hb5 : SqT K H5 b (vP q) := ex_t' (sw5.trans wo2_sub) hb
    refine ⟨valV kvs (kP q), (gd4.up s5).get (k := kP q) hb5, ?_⟩
    obtain ⟨l, gus, el, lm, lL, gl, hgus⟩ : ∃ l gus, (valV kvs (kP q)).getD (.ref z) = .ref l ∧ l ≠ m ∧ l ≠ L ∧ (wo2 m L H5) l = some (.lst gus) ∧ AllR (PlS K) (wo2 m L H5) gus (g q) := by
      by_cases hq : q ∈ Mf
      · obtain ⟨l, gus, q1, q2, q3⟩ := hF.get hq
        rw [q1]
        have lm : l ≠ m := ne_of_none q2 nm
        have lL : l ≠ L := ne_of_none q2 nLH
        exact ⟨l, gus, rfl, lm, lL, sw5 _ _ (sm3 _ _ q2), AllR.up plS_up (sm3.trans sw5) q3⟩
      · rw [hF.no hq, hg0 q hq]
        have zm : z ≠ m := gm4.neN nz
        have zL : z ≠ L := fun e => by rw [e, gL4] at nz; cases nz
        exact ⟨z, [], rfl, zm, zL, by rw [wo2_ne zm zL]; exact gz, .nil⟩
    rw [el]
    have hgl : gus.length = (g q).length := hgus.len
    refine ⟨l, rfl, ⟨_, sqOf (wo2_sub _ _ gl)⟩, ?_⟩
    refine for_it walk_list (fun j σ H' => ∃ (N : List Pl) (ns : List V) (y5 : Option V), σ = [some (.ref a), some (.ref d), some (.ref m), some (.ref L), some (.ref b), y5] ∧ TabT P w K H' m (oneT (M ++ N)) ∧ H' L = some (.lst (us' ++ ns)) ∧ AllR (PlS K) (wo2 m L H') ns N ∧ InnerP g M q ((g q).take j) N ∧ Same (wo2 m L H5) (wo2 m L H'))
      ⟨[], [], y5, rfl, by rw [List.append_nil]; exact gm5, by rw [List.append_nil]; exact gL5, .nil, ⟨by rw [List.append_nil]; exact g3.nd, fun p h => (List.not_mem_nil h).elim, fun p h => by rw [List.take_zero] at h; exact (List.not_mem_nil h).elim⟩, Same.refl _⟩ (fun j σ H' _ z => by obtain ⟨_, _, _, _, _, _, _, _, sw⟩ := z; exact sqOf (wo2_sub _ _ (sw _ _ gl))) ?_ ?_
    · rintro j v σ H9 H6 hj ⟨N, ns, y5, rfl, gm6, gL6, hns, hI, sw6⟩ ⟨rfl, hv⟩
      obtain ⟨p, hp, c, rfl, hc⟩ := AllR.at hgus hv
      have hpq : p ∈ g q := List.mem_of_getElem? hp
      have tk := take_snoc hp
      have bN : (M ++ N).length ≤ U.length := nodup_sub U _ hI.nd fun r hr => by
        rcases List.mem_append.mp hr with hr | hr
        · exact rU (g3.re r hr)
        · exact hgU _ _ (hI.re r hr)
      have hc6 : SqT K H6 c (vP p) := ex_t' (sw6.trans wo2_sub) hc
      rw [List.length_append] at bN
      have lns : (us' ++ ns).length = W'.length + N.length := by rw [List.length_append, AllR.len hW', hns.len]
      refine ⟨_, rfl, .ref m, rfl, m, _, rfl, gm6.get (k := kP p) hc6, _, rfl, ?_⟩
      rw [valT_get (v := fun _ => V.bl true)]
      by_cases hin : p ∈ M ++ N
      · rw [if_pos hin]
        refine iteF ⟨N, ns, _, rfl, gm6, gL6, hns, ⟨hI.nd, hI.re, fun r hr => ?_⟩, sw6⟩
        rw [tk] at hr
        rcases List.mem_append.mp hr with hr | hr
        · exact hI.cl r hr
        · rw [List.mem_singleton.mp hr]; exact hin
      · rw [if_neg hin]
        refine iteT ⟨.ref m, rfl, _, rfl, m, _, kP p, c, rfl, rfl, gm6, hc6, lt_sz (by rw [List.length_map, List.length_append]; omega), fun o7 g7 => ?_⟩
        rw [valT_put (v := fun _ => V.bl true) hin] at g7
        have gL7 : upd H6 m o7 L = some (.lst (us' ++ ns)) := by rw [upd_ne mL.symm]; exact gL6
        have e7 : wo2 m L (upd (upd H6 m o7) L (.lst (us' ++ ns ++ [V.ref c]))) = wo2 m L H6 := wo2_L.trans wo2_d
        refine ⟨.ref L, rfl, .inl ⟨rfl, _, sqOf gL7⟩, _, rfl, L, _, _, rfl, rfl, gL7, lt_sz (by rw [lns]; omega), ?_⟩
        refine ⟨N ++ [p], ns ++ [V.ref c], _, rfl, by rw [← List.append_assoc]; exact g7.updL gL7, by rw [upd_same, ← List.append_assoc], by rw [e7]; exact AllR.snoc hns ⟨c, rfl, ex_t' sw6 hc⟩, ⟨?_, fun r hr => ?_, fun r hr => ?_⟩, by rw [e7]; exact sw6⟩
        · rw [← List.append_assoc, List.nodup_append]
          exact ⟨hI.nd, by simp, fun x hx y hy e => hin (by rw [List.mem_singleton.mp hy] at e; exact e ▸ hx)⟩
        · rcases List.mem_append.mp hr with hr | hr
          · exact hI.re r hr
          · rw [List.mem_singleton.mp hr]; exact hpq
        · rw [← List.append_assoc]
          rw [tk] at hr
          rcases List.mem_append.mp hr with hr | hr
          · exact List.mem_append_left _ (hI.cl r hr)
          · exact List.mem_append_right _ hr
    · rintro σ H6 ⟨N, ns, y5, rfl, gm6, gL6, hns, hI, sw6⟩
      rw [hgl, List.take_length] at hI
      have lN : (M ++ N).length = M.length + N.length := List.length_append
      have bN : (M ++ N).length ≤ U.length := nodup_sub U _ hI.nd fun r hr => by
        rcases List.mem_append.mp hr with hr | hr
        · exact rU (g3.re r hr)
        · exact hgU _ _ (hI.re r hr)
      rw [hlW] at hWM ht
      refine ⟨(U.length - (M ++ N).length) * 2 + (W' ++ N).length, ?_, M ++ N, W' ++ N, us' ++ ns, _, _, rfl, gm6, gL6, AllR.app (AllR.up plS_up (sw5.trans sw6) hW') hns, ⟨hI.nd, fun p hp => ?_, fun s0 hs0 => List.mem_append_left _ (g3.st s0 hs0), fun p hp => ?_, fun p hp np r hr => ?_⟩, by rw [lN, List.length_append]; omega, (sm3.trans sw5).trans sw6, rfl⟩
      · rw [ht, lN, List.length_append]
        omega
      · rcases List.mem_append.mp hp with hp | hp
        · exact g3.re p hp
        · exact .step (g3.re q hqM) (hI.re p hp)
      · rcases List.mem_append.mp hp with hp | hp
        · exact List.mem_append_left _ (g3.su p (List.mem_append_left _ hp))
        · exact List.mem_append_right _ hp
      · rcases List.mem_append.mp hp with hp | hp
        · by_cases e : p = q
          · subst e; exact hI.cl r hr
          · refine List.mem_append_left _ (g3.cl p hp (fun z => ?_) r hr)
            rcases List.mem_append.mp z with z | z
            · exact np (List.mem_append_left _ z)
            · exact e (List.mem_singleton.mp z)
        · exact absurd (List.mem_append_right _ hp) np
end
end KP
namespace KP
open PySem PySem.Spec PyProof.Rows L2 EL LamX NdefX
open Evl (pss_cut)
abbrev sTurnedAbout : Stmt := topS 6
theorem scTurnedAbout : FnScope ["following", "ahead", "place", "further"] ["following"] (defScope sTurnedAbout) := ⟨rfl, rfl, rfl, by decide +kernel, rfl, by decide +kernel, by decide +kernel⟩
/-- what stands ahead of a place -/
def befP (es : List (Pl × Pl)) (q : Pl) : List Pl := (es.filter fun e => decide (e.1 = q)).map (·.2)
theorem befP_snoc (es : List (Pl × Pl)) (f p q : Pl) : befP (es ++ [(f, p)]) q = befP es q ++ (if f = q then [p] else []) := by
  unfold befP
  rw [List.filter_append, List.map_append]
  congr 1
  by_cases h : f = q
  · rw [if_pos h, List.filter_cons_of_pos (by simpa using h)]; rfl
  · rw [if_neg h, List.filter_cons_of_neg (by simpa using h)]; rfl
theorem befP_len (es : List (Pl × Pl)) (q : Pl) : (befP es q).length ≤ es.length := by
  unfold befP
  rw [List.length_map]
  exact List.length_filter_le _ _
theorem mem_befP {es : List (Pl × Pl)} {p q : Pl} : p ∈ befP es q ↔ (q, p) ∈ es := by
  unfold befP
  simp only [List.mem_map, List.mem_filter, decide_eq_true_eq]
  constructor
  · rintro ⟨⟨a, b⟩, ⟨h, rfl⟩, rfl⟩; exact h
  · intro h; exact ⟨(q, p), ⟨h, rfl⟩, rfl⟩
/-- the dict at ad holds a list for each place that has something ahead -/
structure AheadAt (P : Program) (w : World) (K : PySem.W.Frag) (B H : Hp) (ad : Addr) (es : List (Pl × Pl)) (la : Pl → Addr) (Ma : List Pl) : Prop where
  at_ : TabT P w K H ad (valT (fun p => .ref (la p)) Ma)
  nd : Ma.Nodup
  mem : ∀ p, p ∈ Ma ↔ ∃ x, (p, x) ∈ es
  lst : ∀ p ∈ Ma, B (la p) = none ∧ la p ≠ ad ∧ ∃ us, H (la p) = some (.lst us) ∧ AllR (PlS K) H us (befP es p)
  inj : ∀ p ∈ Ma, ∀ q ∈ Ma, la p = la q → p = q
  no : B ad = none
  sm : Same B H
theorem nodup_firsts : ∀ (es : List (Pl × Pl)) (Ma : List Pl), Ma.Nodup → (∀ p ∈ Ma, ∃ x, (p, x) ∈ es) → Ma.length ≤ es.length := fun es Ma nd h => by
  have := nodup_sub (es.map (·.1)) Ma nd fun p hp => by
    obtain ⟨x, hx⟩ := h p hp
    exact List.mem_map.mpr ⟨_, hx, rfl⟩
  rwa [List.length_map] at this
section
variable {P : Program} {w : World} {K : PySem.W.Frag} {B H H' : Hp} {ad : Addr} {es : List (Pl × Pl)} {la : Pl → Addr} {Ma : List Pl}
theorem AheadAt.len (g : AheadAt P w K B H ad es la Ma) : Ma.length ≤ es.length := nodup_firsts es Ma g.nd fun p hp => (g.mem p).mp hp
theorem AheadAt.up (g : AheadAt P w K B H ad es la Ma) (s : Same H H') : AheadAt P w K B H' ad es la Ma := ⟨g.at_.up s, g.nd, g.mem, fun p hp => by
  obtain ⟨h1, h2, us, h3, h4⟩ := g.lst p hp
  exact ⟨h1, h2, us, s _ _ h3, AllR.up plS_up s h4⟩, g.inj, g.no, g.sm.trans s⟩
/-- one more in a list that is there -/
theorem AheadAt.more (g : AheadAt P w K B H ad es la Ma) {f p : Pl} (m : f ∈ Ma) {us : List V} {b : Addr} (gl : H (la f) = some (.lst us)) (hb : SqT K H b (vP p)) : AheadAt P w K B (upd H (la f) (.lst (us ++ [.ref b]))) ad (es ++ [(f, p)]) la Ma := by
  obtain ⟨n1, n2, us', g1, a1⟩ := g.lst f m
  rw [gl] at g1; cases g1
  have ts : KpT H (upd H (la f) (.lst (us ++ [.ref b]))) := KpT.lst gl
  refine ⟨g.at_.updL gl, g.nd, fun q => ?_, fun q hq => ?_, g.inj, g.no, fun c o h => by rw [upd_ne (ne_of_none h n1)]; exact g.sm _ _ h⟩
  · rw [g.mem q]
    constructor
    · rintro ⟨x, hx⟩; exact ⟨x, List.mem_append_left _ hx⟩
    · rintro ⟨x, hx⟩
      rcases List.mem_append.mp hx with hx | hx
      · exact ⟨x, hx⟩
      · rw [(Prod.mk.inj (List.mem_singleton.mp hx)).1]; exact (g.mem f).mp m
  · obtain ⟨h1, h2, ws, h3, h4⟩ := g.lst q hq
    by_cases e : f = q
    · subst e
      rw [gl] at h3; cases h3
      refine ⟨h1, h2, us ++ [.ref b], upd_same, ?_⟩
      rw [befP_snoc, if_pos rfl]
      exact AllR.snoc (allS_kp ts a1) ⟨b, rfl, sqT_kpt ts hb⟩
    · refine ⟨h1, h2, ws, by rw [upd_ne (fun z => e (g.inj f m q hq z.symm))]; exact h3, ?_⟩
      rw [befP_snoc, if_neg e, List.append_nil]
      exact allS_kp ts h4
/-- a new list -/
theorem AheadAt.new (g : AheadAt P w K B H ad es la Ma) {f p : Pl} (m : f ∉ Ma) {z b : Addr} (nz : H z = none) (hb : SqT K H b (vP p)) {o : HO} (t : TabT P w K (upd (upd H z (.lst [])) ad o) ad (putK (valT (fun p => .ref (la p)) Ma) (kP f) (.ref z))) :
    AheadAt P w K B (upd (upd (upd H z (.lst [])) ad o) z (.lst [.ref b])) ad (es ++ [(f, p)]) (fun q => if q = f then z else la q) (Ma ++ [f]) := by
  have za : z ≠ ad := g.at_.neN nz
  have bz : B z = none := g.sm.free nz
  have hp : putK (valT (fun p => .ref (la p)) Ma) (kP f) (.ref z) = valT (fun q => .ref (if q = f then z else la q)) (Ma ++ [f]) := by
    rw [putK_new _ (by rw [valT_get (v := fun p => V.ref (la p)), if_neg m])]
    show _ = List.map _ (Ma ++ [f])
    rw [List.map_append]
    congr 1
    · exact List.map_congr_left fun q hq => by dsimp only; rw [if_neg (fun e : q = f => m (e ▸ hq))]
    · simp
  rw [hp] at t
  have at1 : ∀ c, c ≠ z → c ≠ ad → (upd (upd (upd H z (.lst [])) ad o) z (.lst [.ref b])) c = H c := fun c h1 h2 => by rw [upd_ne h1, upd_ne h2, upd_ne h1]
  have g1z : upd (upd H z (.lst [])) ad o z = some (.lst []) := by rw [upd_ne za, upd_same]
  have ts : KpT H (upd (upd (upd H z (.lst [])) ad o) z (.lst [.ref b])) := ((KpT.of (same_upd nz)).trans (g.at_.up (same_upd nz)).put).trans (KpT.lst g1z)
  have az : (upd (upd (upd H z (.lst [])) ad o) z (.lst [.ref b])) z = some (.lst [.ref b]) := upd_same
  have aa : TabT P w K (upd (upd (upd H z (.lst [])) ad o) z (.lst [.ref b])) ad (valT (fun q => .ref (if q = f then z else la q)) (Ma ++ [f])) := t.updL g1z
  generalize upd (upd (upd H z (.lst [])) ad o) z (.lst [.ref b]) = G at at1 ts az aa ⊢
  have laz : ∀ q ∈ Ma, la q ≠ z := fun q hq => by
    obtain ⟨_, _, us, h3, _⟩ := g.lst q hq
    exact ne_of_none h3 nz
  refine ⟨aa, ?_, fun q => ?_, fun q hq => ?_, fun q hq r hr e => ?_, g.no, fun c o h => by rw [at1 c (ne_of_none h bz) (ne_of_none h g.no)]; exact g.sm _ _ h⟩
  · rw [List.nodup_append]
    exact ⟨g.nd, by simp, fun x hx y hy e => m (by rw [List.mem_singleton.mp hy] at e; exact e ▸ hx)⟩
  · rw [List.mem_append, g.mem q]
    constructor
    · rintro (⟨x, hx⟩ | h)
      · exact ⟨x, List.mem_append_left _ hx⟩
      · exact ⟨p, List.mem_append_right _ (by rw [List.mem_singleton.mp h]; simp)⟩
    · rintro ⟨x, hx⟩
      rcases List.mem_append.mp hx with hx | hx
      · exact .inl ⟨x, hx⟩
      · exact .inr (by rw [(Prod.mk.inj (List.mem_singleton.mp hx)).1]; simp)
  · by_cases e : q = f
    · subst e
      rw [if_pos rfl]
      refine ⟨bz, za, _, az, ?_⟩
      have h0 : befP es q = [] := by
        rw [List.eq_nil_iff_forall_not_mem]
        exact fun x hx => m ((g.mem q).mpr ⟨x, mem_befP.mp hx⟩)
      rw [befP_snoc, if_pos rfl, h0]
      exact .cons ⟨b, rfl, sqT_kpt ts hb⟩ .nil
    · rw [if_neg e]
      have hq2 : q ∈ Ma := (List.mem_append.mp hq).resolve_right fun h => e (List.mem_singleton.mp h)
      obtain ⟨h1, h2, us, h3, h4⟩ := g.lst q hq2
      refine ⟨h1, h2, us, by rw [at1 _ (laz q hq2) h2]; exact h3, ?_⟩
      rw [befP_snoc, if_neg (fun z => e z.symm), List.append_nil]
      exact allS_kp ts h4
  · have cs : ∀ t, t ∈ Ma ++ [f] → t = f ∨ (t ≠ f ∧ t ∈ Ma) := fun t ht => by
      by_cases z : t = f
      · exact .inl z
      · exact .inr ⟨z, (List.mem_append.mp ht).resolve_right fun h => z (List.mem_singleton.mp h)⟩
    rcases cs q hq with rfl | ⟨q1, q2⟩
    · rcases cs r hr with rfl | ⟨r1, r2⟩
      · rfl
      · rw [if_pos rfl, if_neg r1] at e; exact absurd e.symm (laz r r2)
    · rcases cs r hr with rfl | ⟨r1, r2⟩
      · rw [if_pos rfl, if_neg q1] at e; exact absurd e (laz q q2)
      · rw [if_neg q1, if_neg r1] at e; exact g.inj q q2 r r2 e
theorem AheadAt.adj (g : AheadAt P w K B H ad es la Ma) : AdjR (PlS K) (befP es) H (valT (fun p => .ref (la p)) Ma) Ma := by
  have key : ∀ l : List Pl, (∀ p ∈ l, p ∈ Ma) → AdjR (PlS K) (befP es) H (valT (fun p => .ref (la p)) l) l := by
    intro l
    induction l with
    | nil => exact fun _ => .nil
    | cons p r ih =>
      intro h
      obtain ⟨_, _, us, h3, h4⟩ := g.lst p (h p List.mem_cons_self)
      exact .cons ⟨rfl, la p, us, rfl, h3, h4⟩ (ih fun q hq => h q (List.mem_cons_of_mem _ hq))
  exact key Ma fun _ h => h
end
/-- .. where the dict itself is put aside -/
theorem adj_wo {P : Program} {w : World} {K : PySem.W.Frag} {H : Hp} {d : Addr} {kvs kv0 : List (List L2.Key × V)} {M : List Pl} {g : Pl → List Pl} (gd : TabT P w K H d kv0) (h : AdjR (PlS K) g H kvs M) : AdjR (PlS K) g (wo d H) kvs M := Paired.mapP h fun _ _ z => ⟨z.1, by
  obtain ⟨l, us, h1, h2, h3⟩ := z.2
  obtain ⟨xs, gx⟩ := gd.at'
  exact ⟨l, us, h1, by rw [wo_ne (gd.neL h2).symm]; exact h2, allS_kp (kpT_wo gx) h3⟩⟩
/-- all pairs of a place and one ahead of it -/
def esOf (g : Pl → List Pl) (M : List Pl) : List (Pl × Pl) := M.flatMap fun p => (g p).map fun q => (q, p)
theorem esOf_snoc (g : Pl → List Pl) (M : List Pl) (p : Pl) : esOf g (M ++ [p]) = esOf g M ++ (g p).map fun q => (q, p) := by
  unfold esOf
  rw [List.flatMap_append]; simp
theorem esOf_len {g : Pl → List Pl} {C : Nat} : ∀ {M : List Pl}, (∀ p ∈ M, (g p).length ≤ C) → (esOf g M).length ≤ M.length * C
  | [], _ => Nat.zero_le _
  | p :: r, h => by
    have ih := esOf_len (M := r) fun q hq => h q (List.mem_cons_of_mem _ hq)
    have := h p List.mem_cons_self
    unfold esOf at ih ⊢
    rw [List.flatMap_cons, List.length_append, List.length_map, List.length_cons, Nat.succ_mul]
    omega
theorem mem_esOf {g : Pl → List Pl} {M : List Pl} {p q : Pl} : (q, p) ∈ esOf g M ↔ p ∈ M ∧ q ∈ g p := by
  unfold esOf
  simp only [List.mem_flatMap, List.mem_map, Prod.mk.injEq]
  constructor
  · rintro ⟨x, h1, y, h2, rfl, rfl⟩; exact ⟨h1, h2⟩
  · rintro ⟨h1, h2⟩; exact ⟨p, h1, q, h2, rfl, rfl⟩
def spTurnedP (P : Program) (w : World) (K : PySem.W.Frag) : Sp := fun vs H Q _ => ∃ (d : Addr) (M : List Pl) (kvs : List (List L2.Key × V)) (g : Pl → List Pl), vs = [.ref d] ∧ TabT P w K H d kvs ∧ AdjR (PlS K) g H kvs M ∧ M.length ≤ 5000 ∧ (∀ p ∈ M, (g p).length ≤ 1000) ∧
  ∀ a kva Ma ga H', Same H H' → H a = none → TabT P w K H' a kva → AdjR (PlS K) ga H' kva Ma → (∀ p, p ∉ Ma → ga p = []) → (∀ p q, p ∈ ga q ↔ p ∈ M ∧ q ∈ g p) → Q (.ref a) H'
section
variable {P : Program} {w : World} {K : PySem.W.Frag} {mg : Str → Option Value} {base : Heap}
theorem ok_TurnedP {f : Addr} {fd : FuncData} {k : Nat} (F : Fun K "turned_about" "turned_about" sTurnedAbout f fd) : FnOk P w K mg base CX0 (k + 1) f fd ["following"] (spTurnedP P w K) := by
  refine F.ok scTurnedAbout (fun vs H Q E h => ?_) (fun cdv A outer s H vs Q E hr h => ?_)
  · obtain ⟨d, M, kvs, g, rfl, _⟩ := h; rfl
  · obtain ⟨d, M, kvs, g, rfl, gd, hF, hMl, hgl, kQ⟩ := h
    have hu := hr.units
    have hu1 : (A.deeper (envOfC "turned_about" (defScope sTurnedAbout) s.heap.objs.size f cdv)).units + 1 < cLine := by omega
    refine ⟨_, (pss_cons (ps_set (i := 1) scTurnedAbout.nd rfl (by first | exact Or.inl rfl | exact Or.inr rfl) pe_xnew)
      (pss_cons (ps_lock (ps_for PassesOwn.never rfl (pi_keysX (pv 0)) (pg_name (i := 2) scTurnedAbout.nd rfl (by first | exact Or.inl rfl | exact Or.inr rfl)) (pss_one (ps_for PassesOwn.never rfl (pi_list (pe_xget hu1 (pv 0) (pv 2) (fun _ _ => rfl))) (pg_name (i := 3) scTurnedAbout.nd rfl (by first | exact Or.inl rfl | exact Or.inr rfl)) (pss_one (ps_expr (pe_bm PySem.F.plainAttrs_list PySem.F.slot_list_append PySem.F.type_list_append mt_append (pe_dsetdX hu1 (pv 1) (pv 3) (pe_lst pa_nil) ⟨by rfl, by rfl, by rfl, by rfl⟩) (pa_cons (pv 2) pa_nil))))))))
      (pss_one (ps_ret (pv 1))))), ?_⟩
    refine fun a o0 na ga1 => ?_
    have s1 := same_upd (o := o0) na
    generalize upd H a o0 = H1 at s1 ga1 ⊢
    have gd0 := gd
    have da : d ≠ a := (gd.neN na).symm
    obtain ⟨xs, gx, ex, hxs⟩ := gd
    have kw := kpT_wo gx
    refine ⟨d, DX P w d xs, s1 _ _ gx, trivial, fun od => ?_⟩
    have hB := adj_wo gd0 hF
    have gf : upd H1 d (.frz od (DX P w d xs)) d = some (.frz od (DX P w d xs)) := upd_same
    have ga2 : TabT P w K (upd H1 d (.frz od (DX P w d xs))) a [] := ga1.kp (KpT.ext (s1 _ _ gx)) (upd_ne da.symm)
    have sB : Same (wo d H) (upd H1 d (.frz od (DX P w d xs))) := fun b o e => by
      obtain ⟨e1, e2⟩ := wo_some e
      rw [upd_ne e1]; exact s1 _ _ e2
    have nBa : wo d H a = none := by rw [wo_ne da.symm]; exact na
    have back : ∀ {G : Hp}, Same (wo d H) G → Same H (upd G d (DX P w d xs)) := fun {G} sm b o e => by
      by_cases ed : b = d
      · subst ed; rw [gx] at e; cases e; exact upd_same
      · rw [upd_ne ed]; exact sm _ _ (by rw [wo_ne ed]; exact e)
    have nBd : wo d H d = none := wo_at
    generalize upd H1 d (.frz od (DX P w d xs)) = H2 at gf ga2 sB ⊢
    have hxB : ∀ x ∈ xs, SqT K (wo d H) x.2.1 (x.1.map kV) := fun x hx => sqT_kpt kw (hxs x hx)
    generalize wo d H = B at hB sB nBa back nBd hxB ⊢
    have kl := hF.len
    refine ⟨_, rfl, d, od, xs, rfl, gf, ?_⟩
    refine for_it walk_keysX (fun i σ H' => ∃ (y2 y3 : Option V) (la : Pl → Addr) (Ma : List Pl), σ = [some (.ref d), some (.ref a), y2, y3] ∧ AheadAt P w K B H' a (esOf g (M.take i)) la Ma ∧ H' d = some (.frz od (DX P w d xs)))
      ⟨_, _, fun _ => d, [], rfl, ⟨ga2, List.nodup_nil, fun p => by simp [esOf], fun p h => (List.not_mem_nil h).elim, fun p h => (List.not_mem_nil h).elim, nBa, sB⟩, gf⟩ (fun i σ H' _ z => by obtain ⟨_, _, _, _, _, _, g⟩ := z; exact g) ?_ ?_
    · rintro i v σ H9 H3 hi ⟨y2, y3, la, Ma, rfl, gA, gf3⟩ ⟨rfl, e0, he0, rfl⟩
      have hkv : kvs[i]? = some (e0.1, e0.2.2) := by rw [← ex, List.getElem?_map, he0]; rfl
      have hq0 := ex_t' gA.sm (hxB e0 (List.mem_of_getElem? he0))
      obtain ⟨p, hp, ek⟩ := hF.key hkv
      rw [ek] at hkv hq0
      generalize e0.2.1 = q at hq0 ⊢
      have hq : SqT K H3 q (vP p) := hq0
      have hpM : p ∈ M := List.mem_of_getElem? hp
      obtain ⟨l, gus, e1, e2, e3⟩ := hB.get hpM
      have hgus : gus.length = (g p).length := e3.len
      have hiM : i < M.length := (List.getElem?_eq_some_iff.mp hp).1
      have ebd : (esOf g (M.take i)).length + (g p).length ≤ 5000000 := by
        have h1 := esOf_len (M := M.take i ++ [p]) (g := g) (C := 1000) fun x hx => by
          rcases List.mem_append.mp hx with hx | hx
          · exact hgl x (List.mem_of_mem_take hx)
          · rw [List.mem_singleton.mp hx]; exact hgl p hpM
        have h3 : (M.take i ++ [p]).length = i + 1 := by rw [List.length_append, List.length_take, Nat.min_eq_left (Nat.le_of_lt hiM)]; rfl
        rw [esOf_snoc, List.length_append, List.length_map, h3] at h1
        have h2 : i + 1 ≤ 5000 := Nat.le_trans hiM hMl
        exact Nat.le_trans h1 (Nat.le_trans (Nat.mul_le_mul_right 1000 h2) (by decide))
      refine ⟨.ref d, rfl, _, rfl, d, _, rfl, ⟨kvs, kP p, q, ⟨xs, .inr ⟨od, gf3⟩, ex, fun x hx => ex_t' gA.sm (hxB x hx)⟩, rfl, hq, e1.symm⟩, l, rfl, ⟨_, sqOf (gA.sm _ _ e2)⟩, ?_⟩
      refine for_it walk_list (fun j σ H' => ∃ (y3 : Option V) (la : Pl → Addr) (Ma : List Pl), σ = [some (.ref d), some (.ref a), some (.ref q), y3] ∧ AheadAt P w K B H' a (esOf g (M.take i) ++ ((g p).take j).map fun x => (x, p)) la Ma ∧ H' d = some (.frz od (DX P w d xs)) ∧ SqT K H' q (vP p))
        ⟨_, la, Ma, rfl, by rw [List.take_zero, List.map_nil, List.append_nil]; exact gA, gf3, hq⟩ (fun j σ H' _ z => by obtain ⟨_, _, _, _, g, _⟩ := z; exact sqOf (g.sm _ _ e2)) ?_ ?_
      · rintro j v σ H9 H4 hj ⟨y3, la, Ma, rfl, gA, gf4, hq4⟩ ⟨rfl, hv⟩
        obtain ⟨x, hx, c, rfl, hc⟩ := AllR.at e3 hv
        have hc4 := ex_t' gA.sm hc
        have hjl : j < (g p).length := (List.getElem?_eq_some_iff.mp hx).1
        have ebd2 : (esOf g (M.take i) ++ ((g p).take j).map fun x => (x, p)).length ≤ 5000000 := by
          rw [List.length_append, List.length_map, List.length_take]; omega
        have nx : esOf g (M.take i) ++ ((g p).take (j + 1)).map (fun x => (x, p)) = (esOf g (M.take i) ++ ((g p).take j).map fun x => (x, p)) ++ [(x, p)] := by
          rw [take_snoc hx, List.map_append, ← List.append_assoc]; rfl
        have mal := gA.len
        generalize esOf g (M.take i) ++ ((g p).take j).map (fun x => (x, p)) = es at gA ebd2 nx mal ⊢
        refine ⟨.ref a, rfl, a, _, rfl, gA.at_, _, rfl, Nat.zero_le _, fun z nz => ?_⟩
        have sz := same_upd (o := .lst []) nz
        have gA5 := gA.up sz
        have hz : upd H4 z (.lst []) z = some (.lst []) := upd_same
        have ad4 := gA.at_
        have za : z ≠ a := ad4.neN nz
        refine ⟨_, kP x, c, gA5.at_, rfl, ex_t' sz hc4, by rw [List.length_map, sizeLine_eq]; omega, fun v hv2 => ?_, fun hv2 o9 t9 => ?_⟩
        · rw [valT_get (v := fun p => V.ref (la p))] at hv2
          by_cases m : x ∈ Ma
          · rw [if_pos m] at hv2
            cases hv2
            obtain ⟨_, _, us, g1, a1⟩ := gA5.lst x m
            have lus : us.length ≤ es.length := by rw [a1.len]; exact befP_len _ _
            refine ⟨.inl ⟨rfl, _, sqOf g1⟩, _, rfl, la x, us, _, rfl, rfl, g1, by rw [sizeLine_eq]; omega, ?_⟩
            refine ⟨_, la, Ma, rfl, by rw [nx]; exact gA5.more m g1 (ex_t' sz hq4), ?_, ?_⟩
            · rw [upd_ne (fun e => by rw [← e, sz _ _ gf4] at g1; cases g1)]; exact sz _ _ gf4
            · exact sqT_kpt (KpT.lst g1) (ex_t' sz hq4)
          · rw [if_neg m] at hv2; cases hv2
        · have m : x ∉ Ma := fun m => by rw [valT_get (v := fun p => V.ref (la p)), if_pos m] at hv2; cases hv2
          have gz4 : upd (upd H4 z (.lst [])) a o9 z = some (.lst []) := by rw [upd_ne za]; exact hz
          refine ⟨.inl ⟨rfl, _, sqOf gz4⟩, _, rfl, z, [], _, rfl, rfl, gz4, by rw [sizeLine_eq]; decide, ?_⟩
          refine ⟨_, _, _, rfl, by rw [nx]; exact gA.new m nz hq4 t9, ?_, ?_⟩
          · rw [upd_ne (ne_of_none gf4 nz), upd_ne da, upd_ne (ne_of_none gf4 nz)]; exact gf4
          · exact sqT_kpt (((KpT.of (same_upd nz)).trans (ad4.up (same_upd nz)).put).trans (KpT.lst gz4)) hq4
      · rintro σ H4 ⟨y3, la, Ma, rfl, gA, gf4, _⟩
        rw [hgus, List.take_length] at gA
        refine ⟨_, _, la, Ma, rfl, ?_, gf4⟩
        rw [take_snoc hp, esOf_snoc]
        exact gA
    · rintro σ H3 ⟨y2, y3, la, Ma, rfl, gA, gf3⟩
      rw [show xs.length = M.length by rw [← kl, ← ex, List.length_map], List.take_length] at gA
      refine ⟨gf3, _, rfl, ?_⟩
      have ts : KpT H3 (upd H3 d (DX P w d xs)) := fun b ys => ⟨fun e => by rw [upd_ne (fun q => by rw [q, gf3] at e; cases e)]; exact e, fun u e => by rw [upd_ne (fun q => by rw [q, gf3] at e; cases e)]; exact e⟩
      refine kQ a _ Ma (befP (esOf g M)) _ (back gA.sm) na (gA.at_.kp ts (upd_ne da.symm)) (Paired.mapP gA.adj fun _ _ z => ⟨z.1, ?_⟩) (fun p hp => ?_) fun p q => ?_
      · obtain ⟨l, us, h1, h2, h3⟩ := z.2
        exact ⟨l, us, h1, by rw [upd_ne (fun e => by rw [e, gf3] at h2; cases h2)]; exact h2, allS_kp ts h3⟩
      · rw [List.eq_nil_iff_forall_not_mem]
        exact fun x hx => hp ((gA.mem p).mpr ⟨x, mem_befP.mp hx⟩)
      · rw [mem_befP, mem_esOf]
end
end KP
namespace KP
open PySem PySem.Spec PyProof.Rows L2 EL LamX NdefX
open Evl (pss_cut)
abbrev sUsefulPlaces : Stmt := topS 7
theorem scUsefulPlaces : FnScope ["starts", "following", "ends", "leading", "place"] ["starts", "following", "ends"] (defScope sUsefulPlaces) := ⟨rfl, rfl, rfl, by decide +kernel, rfl, by decide +kernel, by decide +kernel⟩
/-- a place from which an end is come to -/
def Lds (g : Pl → List Pl) (ee : List Pl) (p : Pl) : Prop := ∃ e ∈ ee, Rch g [p] e
theorem lds_iff {g ga : Pl → List Pl} {M ee : List Pl} (h0 : ∀ p, p ∉ M → g p = []) (hm : ∀ p q, p ∈ ga q ↔ p ∈ M ∧ q ∈ g p) (p : Pl) : Rch ga ee p ↔ Lds g ee p := by
  constructor
  · intro h
    induction h with
    | base m => exact ⟨_, m, .base (List.mem_singleton.mpr rfl)⟩
    | @step p q _ m ih =>
      obtain ⟨e, he, r⟩ := ih
      refine ⟨e, he, r.least (C := fun x => Rch g [q] x) (fun s hs => ?_) fun x hx y hy => .step hx hy⟩
      rw [List.mem_singleton.mp hs]
      exact .step (.base (List.mem_singleton.mpr rfl)) ((hm q p).mp m).2
  · rintro ⟨e, he, r⟩
    refine r.least (C := fun x => Rch ga ee x → Rch ga ee p) (fun s hs h => by rw [List.mem_singleton.mp hs] at h; exact h) (fun x hx y hy h => hx (.step h ((hm x y).mpr ⟨?_, hy⟩))) (.base he)
    exact Classical.byContradiction fun n => by rw [h0 x n] at hy; exact List.not_mem_nil hy
/-- what is come to, and leads to an end -/
def UsefulP (g : Pl → List Pl) (ss ee : List Pl) (p : Pl) : Prop := Rch g ss p ∧ Lds g ee p
def spUsefulP (P : Program) (w : World) (K : PySem.W.Frag) : Sp := fun vs H Q _ => ∃ (a d e : Addr) (us0 usE : List V) (ss ee U M : List Pl) (kvs : List (List L2.Key × V)) (g : Pl → List Pl), vs = [.ref a, .ref d, .ref e] ∧ H a = some (.lst us0) ∧ AllR (PlS K) H us0 ss ∧ TabT P w K H d kvs ∧ AdjR (PlS K) g H kvs M ∧ (∀ p, p ∉ M → g p = []) ∧ H e = some (.lst usE) ∧ AllR (PlS K) H usE ee ∧
  U.length ≤ 5000 ∧ ss.length ≤ 5000 ∧ ee.length ≤ 5000 ∧ M.length ≤ 5000 ∧ (∀ p ∈ M, (g p).length ≤ 1000) ∧ (∀ s ∈ ss, s ∈ U) ∧ (∀ s ∈ ee, s ∈ U) ∧ (∀ s ∈ M, s ∈ U) ∧ (∀ p q, q ∈ g p → q ∈ U) ∧
  ∀ m H' N, Same H H' → H m = none → TabT P w K H' m (oneT N) → N.Nodup → (∀ p, p ∈ N ↔ UsefulP g ss ee p) → Q (.ref m) H'
section
variable {P : Program} {w : World} {K : PySem.W.Frag} {mg : Str → Option Value} {base : Heap}
theorem ok_UsefulP {f : Addr} {fd : FuncData} {k : Nat} (F : Fun K "useful_places" "useful_places" sUsefulPlaces f fd) (CReached : Cal P w K mg base k "reached" ["starts", "following"] (spReachedP P w K)) (CTurnedAbout : Cal P w K mg base k "turned_about" ["following"] (spTurnedP P w K)) :
    FnOk P w K mg base CX0 (k + 1) f fd ["starts", "following", "ends"] (spUsefulP P w K) := by
  refine F.ok scUsefulPlaces (fun vs H Q E h => ?_) (fun cdv A outer s H vs Q E hr h => ?_)
  · obtain ⟨a, d, e, us0, usE, ss, ee, U, M, kvs, g, rfl, _⟩ := h; rfl
  · obtain ⟨a, d, e, us0, usE, ss, ee, U, M, kvs, g, rfl, ga, has, gd, hF, hg0, ge, hes, hUl, hsl, hel, hMl, hgl, hsU, heU, hMU, hgU, kQ⟩ := h
    have hu := hr.units
    have hu1 : (A.deeper (envOfC "useful_places" (defScope sUsefulPlaces) s.heap.objs.size f cdv)).units + 1 < cLine := by omega
    refine ⟨_, (pss_cons (ps_set (i := 3) scUsefulPlaces.nd rfl (by first | exact Or.inl rfl | exact Or.inr rfl) (pe_cal CReached hr (by rfl) pass0 (pa_cons (pv 2) (pa_cons (pe_cal CTurnedAbout hr (by rfl) pass0 (pa_cons (pv 1) pa_nil)) pa_nil))))
      (pss_one (ps_ret (pe_dcX (own := [("place", 4)]) (g := (gName 4)) (by rfl) (Nat.lt_of_succ_lt hu1) scUsefulPlaces.nd (pi_keysX (pe_lockA (pe_cal CReached hr (by rfl) pass0 (pa_cons (pv 0) (pa_cons (pv 1) pa_nil))))) (blkOk_by (own := [("place", 4)]) (N := ["starts", "following", "ends", "leading", "place"]) (sc := defScope sUsefulPlaces) (by decide +kernel)) ⟨(fun _ _ _ _ _ => (pg_name (i := 4) scUsefulPlaces.nd rfl (by first | exact Or.inl rfl | exact Or.inr rfl))), (fun _ _ _ _ _ => (pts_one (pt_cmp (show PC _ _ _ _ (tXIn P w K (tVar 4) (tVar 3)) from pc_xin hu1 (pv 4) (pv 3))))), (fun _ _ _ _ _ => (pv 4)), (fun _ _ _ _ _ => pe_bl)⟩)))), ?_⟩
    refine ⟨_, rfl, _, rfl, d, M, kvs, g, rfl, gd, hF, hMl, hgl, fun a2 kva Ma ga2 H1 s1 n1 g1 hA h0 hm => ?_⟩
    refine ⟨e, a2, usE, ee, U, Ma, kva, ga2, rfl, s1 _ _ ge, AllR.up plS_up s1 hes, g1, hA, h0, hUl, by omega, heU, fun p q hq => hMU q ((hm q p).mp hq).1, fun m H2 Nl s2 n2 g2 nd2 hN2 => ?_⟩
    have s12 := s1.trans s2
    refine ⟨_, rfl, _, rfl, a, d, us0, ss, U, M, kvs, g, rfl, s12 _ _ ga, AllR.up plS_up s12 has, gd.up s12, AdjR.up plS_up s12 hF, hg0, hUl, by omega, hsU, hgU, fun r H3 Nr s3 n3 g3 nd3 hN3 => ?_⟩
    obtain ⟨xs, gx, ex, hx⟩ := g3
    refine ⟨r, _, rfl, gx, trivial, fun od => ⟨r, od, xs, rfl, upd_same, fun dc o0 ndc tdc => ?_⟩⟩
    have nr2 : H2 r = none := n3
    have s24 : Same H2 (upd H3 r (.frz od (DX P w r xs))) := fun b o h => by rw [upd_ne (ne_of_none h nr2)]; exact s3 _ _ h
    have gr4 : upd H3 r (.frz od (DX P w r xs)) r = some (.frz od (DX P w r xs)) := upd_same
    have hx4 : ∀ x ∈ xs, SqT K (upd H3 r (.frz od (DX P w r xs))) x.2.1 (x.1.map kV) := fun x h => sqt_dx gx (hx x h)
    generalize upd H3 r (.frz od (DX P w r xs)) = H4 at s24 gr4 ndc tdc hx4 ⊢
    have gm4 := g2.up s24
    have hUr : ∀ p ∈ Nr, p ∈ U := fun p hp => by
      cases (hN3 p).mp hp with
      | base h => exact hsU _ h
      | step _ h => exact hgU _ _ h
    have lNr := nodup_sub U Nr nd3 hUr
    have inN : ∀ {x : Pl}, x ∈ Nl ↔ Lds g ee x := fun {x} => (hN2 x).trans (lds_iff hg0 hm x)
    refine it_gen (walk_keysX (P := P) (w := w) (d := r) (o := od) (xs := xs)) (fun i H' => TabT P w K H' dc (oneT ((Nr.take i).filter fun p => decide (p ∈ Nl))) ∧ Same H4 H') ⟨tdc, same_upd ndc⟩ (fun i H' _ z => z.2 _ _ gr4) ?_ ?_
    · rintro i v H9 H5 hi ⟨gdc, sm⟩ ⟨rfl, e0, he0, rfl⟩
      have hkv : (oneT Nr)[i]? = some (e0.1, e0.2.2) := by rw [← ex, List.getElem?_map, he0]; rfl
      obtain ⟨p, hp, ek⟩ : ∃ p, Nr[i]? = some p ∧ e0.1 = kP p := by
        rw [List.getElem?_map] at hkv
        obtain ⟨p, e1, e2⟩ := Option.map_eq_some_iff.mp hkv
        exact ⟨p, e1, (Prod.mk.inj e2).1.symm⟩
      have hq := ex_t' sm (hx4 e0 (List.mem_of_getElem? he0))
      rw [ek] at hq
      generalize e0.2.1 = q at hq ⊢
      have tk := take_snoc hp
      have gdc4 : ∀ o, Same H4 (upd H5 dc o) := fun o b x h => by rw [upd_ne (ne_of_none h ndc)]; exact sm _ _ h
      refine ⟨rfl, _, rfl, .ref m, rfl, m, _, rfl, (gm4.up sm).get (k := kP p) hq, _, rfl, ?_⟩
      rw [valT_get (v := fun _ => V.bl true)]
      by_cases hin : p ∈ Nl
      · rw [if_pos hin]
        have hl : ((Nr.take i).filter fun p => decide (p ∈ Nl)).length ≤ 5000 := Nat.le_trans (List.length_filter_le _ _) (by rw [List.length_take]; omega)
        have hout : p ∉ (Nr.take i).filter fun p => decide (p ∈ Nl) := fun z => by
          have z := (List.mem_filter.mp z).1
          have nd := nd3
          rw [← List.take_append_drop (i + 1) Nr, tk, List.append_assoc] at nd
          exact (List.nodup_append.mp nd).2.2 p z p (by simp) rfl
        refine iteT ⟨_, rfl, oneT ((Nr.take i).filter fun p => decide (p ∈ Nl)), kP p, q, rfl, hq, gdc, by rw [List.length_map, sizeLine_eq]; omega, fun o9 t9 => ?_⟩
        rw [valT_put (v := fun _ => V.bl true) hout] at t9
        refine ⟨?_, gdc4 _⟩
        rw [tk, List.filter_append, show [p].filter (fun p => decide (p ∈ Nl)) = [p] by simp [hin]]
        exact t9
      · rw [if_neg hin]
        refine iteF ⟨?_, sm⟩
        rw [tk, List.filter_append, show [p].filter (fun p => decide (p ∈ Nl)) = [] by simp [hin], List.append_nil]
        exact gdc
    · rintro H5 ⟨gdc, sm⟩
      rw [show xs.length = Nr.length by have := congrArg List.length ex; rwa [List.length_map, List.length_map] at this, List.take_length] at gdc
      refine kQ dc H5 _ ((s12.trans s24).trans sm) ((s12.trans s24).free ndc) gdc (nd3.sublist List.filter_sublist) fun p => ?_
      rw [List.mem_filter, decide_eq_true_iff, inN, hN3 p]
      exact Iff.rfl
end
end KP
namespace KP
open PySem PySem.Spec PyProof.Rows L2 EL LamX NdefX
/-! ### rings, by mathematics -/
/-- a way of one step or more -/
def Pth (g : Pl → List Pl) (p q : Pl) : Prop := ∃ y ∈ g p, Rch g [y] q
def Ring (g : Pl → List Pl) : Prop := ∃ x, Pth g x x
theorem rch_trans {g : Pl → List Pl} {x y z : Pl} (h : Rch g [x] y) (k : Rch g [y] z) : Rch g [x] z :=
  k.least (C := fun t => Rch g [x] t) (fun s hs => by rw [List.mem_singleton.mp hs]; exact h) fun _ h _ m => .step h m
theorem pth_one {g : Pl → List Pl} {x y : Pl} (h : y ∈ g x) : Pth g x y := ⟨y, h, .base (List.mem_singleton.mpr rfl)⟩
theorem pth_rch {g : Pl → List Pl} {x y : Pl} (h : Pth g x y) : Rch g [x] y := by
  obtain ⟨z, hz, r⟩ := h
  exact rch_trans (.step (.base (List.mem_singleton.mpr rfl)) hz) r
theorem pth_trans {g : Pl → List Pl} {x y z : Pl} (h : Pth g x y) (k : Pth g y z) : Pth g x z := by
  obtain ⟨t, ht, r⟩ := h
  exact ⟨t, ht, rch_trans r (pth_rch k)⟩
/-- the last step of a way -/
theorem pth_last {g : Pl → List Pl} {x y : Pl} (h : Pth g x y) : ∃ z, y ∈ g z ∧ (z = x ∨ Pth g x z) := by
  obtain ⟨t, ht, r⟩ := h
  cases r with
  | base m => rw [List.mem_singleton.mp m]; exact ⟨x, ht, .inl rfl⟩
  | @step p _ r m => exact ⟨p, m, .inr ⟨t, ht, r⟩⟩
theorem ring_rank {g : Pl → List Pl} (rk : Pl → Int) (h : ∀ p q, q ∈ g p → rk p < rk q) : ¬ Ring g := by
  rintro ⟨x, y, hy, r⟩
  have : rk y ≤ rk x := r.least (C := fun t => rk y ≤ rk t) (fun s hs => by rw [List.mem_singleton.mp hs]; omega) fun p hp q hq => by have := h p q hq; omega
  have := h x y hy
  omega
theorem filter_less {S : List Pl} {P Q : Pl → Bool} (h : ∀ x ∈ S, P x = true → Q x = true) {a : Pl} (ha : a ∈ S) (h1 : Q a = true) (h2 : P a = false) : (S.filter P).length < (S.filter Q).length := by
  have le : ∀ l : List Pl, (∀ x ∈ l, P x = true → Q x = true) → (l.filter P).length ≤ (l.filter Q).length := by
    intro l
    induction l with
    | nil => exact fun _ => Nat.le_refl _
    | cons b r ih =>
      intro h
      have := ih fun x hx => h x (List.mem_cons_of_mem _ hx)
      have hb := h b List.mem_cons_self
      rw [List.filter_cons, List.filter_cons]
      cases e1 : P b <;> cases e2 : Q b <;> simp_all <;> omega
  induction S with
  | nil => cases ha
  | cons b r ih =>
    have hr := fun x hx => h x (List.mem_cons_of_mem b hx)
    have l0 := le r hr
    have hb := h b List.mem_cons_self
    rcases List.mem_cons.mp ha with rfl | ha
    · rw [List.filter_cons, List.filter_cons, if_pos h1, if_neg (by rw [h2]; decide)]
      simp only [List.length_cons]; omega
    · have := ih hr ha
      rw [List.filter_cons, List.filter_cons]
      cases e1 : P b <;> cases e2 : Q b <;> simp_all <;> omega
/-- where each one has one ahead of it there is a ring -/
theorem ring_of {g : Pl → List Pl} {S : List Pl} (ne : S ≠ []) (h : ∀ q ∈ S, ∃ p ∈ S, q ∈ g p) : Ring g := by
  classical
  refine Classical.byContradiction fun no => ?_
  have key : ∀ (n : Nat) (q : Pl), q ∈ S → (S.filter fun p => decide (Pth g p q)).length ≤ n → False := by
    intro n
    induction n with
    | zero =>
      intro q hq hn
      obtain ⟨p, hp, hpq⟩ := h q hq
      have : p ∈ S.filter fun p => decide (Pth g p q) := List.mem_filter.mpr ⟨hp, decide_eq_true (pth_one hpq)⟩
      have := List.length_pos_of_mem this
      omega
    | succ n ih =>
      intro q hq hn
      obtain ⟨p, hp, hpq⟩ := h q hq
      refine ih p hp ?_
      have := filter_less (S := S) (P := fun x => decide (Pth g x p)) (Q := fun x => decide (Pth g x q)) (fun x _ hx => decide_eq_true (pth_trans (of_decide_eq_true hx) (pth_one hpq))) hp (decide_eq_true (pth_one hpq)) (decide_eq_false fun z => no ⟨p, z⟩)
      omega
  obtain ⟨q, hq⟩ := List.exists_mem_of_ne_nil S ne
  exact key _ q hq (Nat.le_refl _)
/-- taken away one by one: all that stands ahead has gone before -/
inductive TopR (g : Pl → List Pl) : List Pl → Prop
  | nil : TopR g []
  | snoc {R : List Pl} {q : Pl} : TopR g R → (∀ p, q ∈ g p → p ∈ R) → TopR g (R ++ [q])
theorem TopR.free {g : Pl → List Pl} {R : List Pl} (t : TopR g R) : ∀ x ∈ R, ¬ Pth g x x := by
  induction t with
  | nil => exact fun x h => (List.not_mem_nil h).elim
  | @snoc R q _ hq ih =>
    intro x hx c
    rcases List.mem_append.mp hx with hx | hx
    · exact ih x hx c
    · rw [List.mem_singleton.mp hx] at c
      obtain ⟨z, hz, e⟩ := pth_last c
      have hzR := hq z hz
      rcases e with rfl | e
      · exact ih _ hzR c
      · exact ih z hzR (pth_trans (pth_one hz) e)
/-! ### how many stand ahead -/
def degP (g : Pl → List Pl) (S : List Pl) (q : Pl) : Nat := (S.map fun p => (g p).count q).sum
theorem degP_nil (g : Pl → List Pl) (q : Pl) : degP g [] q = 0 := rfl
theorem degP_cons (g : Pl → List Pl) (p : Pl) (S : List Pl) (q : Pl) : degP g (p :: S) q = (g p).count q + degP g S q := by
  unfold degP; rw [List.map_cons, List.sum_cons]
theorem degP_app (g : Pl → List Pl) (S S' : List Pl) (q : Pl) : degP g (S ++ S') q = degP g S q + degP g S' q := by
  unfold degP; rw [List.map_append, List.sum_append]
theorem degP_zero {g : Pl → List Pl} {S : List Pl} {q : Pl} : degP g S q = 0 ↔ ∀ p ∈ S, q ∉ g p := by
  induction S with
  | nil => simp [degP_nil]
  | cons p S ih =>
    rw [degP_cons]
    constructor
    · intro h r hr
      have h1 : (g p).count q = 0 := by omega
      have h2 := ih.mp (by omega)
      rcases List.mem_cons.mp hr with rfl | hr
      · exact List.count_eq_zero.mp h1
      · exact h2 r hr
    · intro h
      have h1 := List.count_eq_zero.mpr (h p List.mem_cons_self)
      have h2 := ih.mpr fun r hr => h r (List.mem_cons_of_mem _ hr)
      omega
/-- what is left -/
def restP (M R : List Pl) : List Pl := M.filter fun p => decide (p ∉ R)
theorem mem_restP {M R : List Pl} {p : Pl} : p ∈ restP M R ↔ p ∈ M ∧ p ∉ R := by
  unfold restP
  rw [List.mem_filter, decide_eq_true_iff]
theorem restP_nil (M : List Pl) : restP M [] = M := by
  unfold restP
  rw [List.filter_eq_self]; simp
theorem degP_take {g : Pl → List Pl} {R : List Pl} {p : Pl} (q : Pl) : ∀ {M : List Pl}, M.Nodup → p ∈ M → p ∉ R → degP g (restP M R) q = (g p).count q + degP g (restP M (R ++ [p])) q
  | [], _, h, _ => (List.not_mem_nil h).elim
  | a :: M, nd, h, hR => by
    have hd := List.nodup_cons.mp nd
    have same : ∀ (l : List Pl), p ∉ l → restP l R = restP l (R ++ [p]) := fun l hl => by
      unfold restP
      refine List.filter_congr fun x hx => ?_
      have : x ≠ p := fun e => hl (e ▸ hx)
      simp [this]
    by_cases e : a = p
    · subst e
      have e1 : restP (a :: M) R = a :: restP M R := by unfold restP; rw [List.filter_cons_of_pos (by simpa using hR)]
      have e2 : restP (a :: M) (R ++ [a]) = restP M (R ++ [a]) := by unfold restP; rw [List.filter_cons_of_neg (by simp)]
      rw [e1, e2, degP_cons, same M hd.1]
    · have hp : p ∈ M := (List.mem_cons.mp h).resolve_left fun z => e z.symm
      have ih := degP_take (g := g) (R := R) (p := p) q hd.2 hp hR
      by_cases aR : a ∈ R
      · have e1 : restP (a :: M) R = restP M R := by unfold restP; rw [List.filter_cons_of_neg (by simpa using aR)]
        have e2 : restP (a :: M) (R ++ [p]) = restP M (R ++ [p]) := by unfold restP; rw [List.filter_cons_of_neg (by simp [aR])]
        rw [e1, e2, ih]
      · have e1 : restP (a :: M) R = a :: restP M R := by unfold restP; rw [List.filter_cons_of_pos (by simpa using aR)]
        have e2 : restP (a :: M) (R ++ [p]) = a :: restP M (R ++ [p]) := by unfold restP; rw [List.filter_cons_of_pos (by simp [aR, e])]
        rw [e1, e2, degP_cons, degP_cons, ih]; omega
/-- what Kahn's taking away holds between two turns -/
structure Kahn (g : Pl → List Pl) (M R W : List Pl) (c : Pl → Nat) : Prop where
  ndR : (R ++ W).Nodup
  sub : ∀ p ∈ R ++ W, p ∈ M
  zero : ∀ q ∈ M, c q = 0 ↔ q ∈ R ++ W
  top : TopR g R
theorem kahn_end {g : Pl → List Pl} {M R : List Pl} {c : Pl → Nat} (ndM : M.Nodup) (h0 : ∀ p, p ∉ M → g p = []) (k : Kahn g M R [] c) (hc : ∀ q ∈ M, c q = degP g (restP M R) q) : R.length ≤ M.length ∧ (R.length < M.length ↔ Ring g) := by
  have ndR : R.Nodup := by have := k.ndR; rwa [List.append_nil] at this
  have sub : ∀ p ∈ R, p ∈ M := fun p hp => k.sub p (List.mem_append_left _ hp)
  have lR := nodup_sub M R ndR sub
  refine ⟨lR, fun h => ?_, fun h => ?_⟩
  · have ne : restP M R ≠ [] := fun e => by
      have : ∀ p ∈ M, p ∈ R := fun p hp => Classical.byContradiction fun n => by
        have := mem_restP.mpr ⟨hp, n⟩
        rw [e] at this; exact List.not_mem_nil this
      have := nodup_sub R M ndM this
      omega
    refine ring_of ne fun q hq => ?_
    obtain ⟨hqM, hqR⟩ := mem_restP.mp hq
    have z : ¬ c q = 0 := fun e => by
      have := (k.zero q hqM).mp e
      rw [List.append_nil] at this
      exact hqR this
    rw [hc q hqM] at z
    refine Classical.byContradiction fun n => z (degP_zero.mpr fun p hp m => n ⟨p, hp, m⟩)
  · obtain ⟨x, hx⟩ := h
    have xM : x ∈ M := Classical.byContradiction fun n => by
      obtain ⟨y, hy, _⟩ := hx
      rw [h0 x n] at hy; exact List.not_mem_nil hy
    have xR : x ∉ R := fun m => k.top.free x m hx
    have := nodup_sub M (R ++ [x]) (by
      rw [List.nodup_append]
      exact ⟨ndR, by simp, fun a ha b hb e => xR (by rw [List.mem_singleton.mp hb] at e; exact e ▸ ha)⟩) fun p hp => by
      rcases List.mem_append.mp hp with hp | hp
      · exact sub p hp
      · rw [List.mem_singleton.mp hp]; exact xM
    rw [List.length_append] at this
    exact this
end KP
namespace KP
open PySem PySem.Spec PyProof.Rows L2 EL LamX NdefX
open Evl (pss_cut)
abbrev sHasRing : Stmt := topS 8
theorem scHasRing : FnScope ["following", "many", "place", "further", "waiting", "left"] ["following"] (defScope sHasRing) := ⟨rfl, rfl, rfl, by decide +kernel, rfl, by decide +kernel, by decide +kernel⟩
/-- places, each with a number -/
abbrev cI (c : Pl → Nat) (p : Pl) : V := .int (c p : Int)
theorem bump_put {c c' : Pl → Nat} {M : List Pl} {x : Pl} (m : x ∈ M) (v : Int) (h : ∀ q, (c' q : Int) = if q = x then v else (c q : Int)) : putK (valT (cI c) M) (kP x) (.int v) = valT (cI c') M := by
  rw [valT_set m]
  refine List.map_congr_left fun q _ => ?_
  show (kP q, if q = x then V.int v else V.int (c q : Int)) = (kP q, V.int (c' q : Int))
  rw [h q]
  split <;> rfl
theorem valT_congr {v v' : Pl → V} {M : List Pl} (h : ∀ q ∈ M, v q = v' q) : valT v M = valT v' M := List.map_congr_left fun q hq => by rw [h q hq]
theorem count_snoc (l : List Pl) (x q : Pl) : (l ++ [x]).count q = l.count q + if q = x then 1 else 0 := by
  rw [List.count_append, List.count_cons, List.count_nil]
  by_cases e : q = x
  · subst e; simp
  · have e2 : ¬ x = q := fun z => e z.symm
    simp [e, e2]
theorem count_drop {l : List Pl} {j : Nat} {x : Pl} (h : l[j]? = some x) (q : Pl) : (l.drop j).count q = (l.drop (j + 1)).count q + if q = x then 1 else 0 := by
  obtain ⟨hj, e⟩ := List.getElem?_eq_some_iff.mp h
  rw [List.drop_eq_getElem_cons hj, e, List.count_cons]
  by_cases e : q = x
  · subst e; simp
  · have e2 : ¬ x = q := fun z => e z.symm
    simp [e, e2]
theorem Kahn.start {g : Pl → List Pl} {M : List Pl} (ndM : M.Nodup) : Kahn g M [] (M.filter fun p => decide (degP g M p = 0)) (degP g M) :=
  ⟨ndM.sublist List.filter_sublist, fun p hp => (List.mem_filter.mp hp).1, fun q hq => by
    rw [List.nil_append, List.mem_filter, decide_eq_true_iff]
    exact ⟨fun h => ⟨hq, h⟩, fun h => h.2⟩, .nil⟩
theorem Kahn.congr {g : Pl → List Pl} {M R W : List Pl} {c c' : Pl → Nat} (k : Kahn g M R W c) (h : ∀ q ∈ M, c q = c' q) : Kahn g M R W c' := ⟨k.ndR, k.sub, fun q hq => by rw [← h q hq]; exact k.zero q hq, k.top⟩
theorem Kahn.pop {g : Pl → List Pl} {M R W : List Pl} {c : Pl → Nat} {p : Pl} (k : Kahn g M R (W ++ [p]) c) (h0 : ∀ p, p ∉ M → g p = []) (hc : ∀ q ∈ M, c q = degP g (restP M R) q) : Kahn g M (R ++ [p]) W c := by
  have pm : (R ++ [p] ++ W).Perm (R ++ (W ++ [p])) := by
    rw [List.append_assoc]
    exact List.Perm.append_left R List.perm_append_comm
  have pM : p ∈ M := k.sub p (by simp)
  refine ⟨pm.nodup_iff.mpr k.ndR, fun q hq => k.sub q (pm.mem_iff.mp hq), fun q hq => (k.zero q hq).trans pm.mem_iff.symm, .snoc k.top fun r hr => ?_⟩
  have z := (k.zero p pM).mpr (by simp)
  rw [hc p pM, degP_zero] at z
  have rM : r ∈ M := Classical.byContradiction fun n => by rw [h0 r n] at hr; exact List.not_mem_nil hr
  exact Classical.byContradiction fun n => z r (mem_restP.mpr ⟨rM, n⟩) hr
theorem Kahn.some {g : Pl → List Pl} {M R W : List Pl} {c c' : Pl → Nat} {x : Pl} (k : Kahn g M R W c) (xM : x ∈ M) (hx : c x = c' x + 1) (ho : ∀ q, q ≠ x → c' q = c q) (n : c' x ≠ 0) : Kahn g M R W c' := by
  have xn : x ∉ R ++ W := fun h => by have := (k.zero x xM).mpr h; omega
  refine ⟨k.ndR, k.sub, fun q hq => ?_, k.top⟩
  by_cases e : q = x
  · subst e; exact ⟨fun h => absurd h n, fun h => absurd h xn⟩
  · rw [ho q e]; exact k.zero q hq
theorem Kahn.last {g : Pl → List Pl} {M R W : List Pl} {c c' : Pl → Nat} {x : Pl} (k : Kahn g M R W c) (xM : x ∈ M) (hx : c x = c' x + 1) (ho : ∀ q, q ≠ x → c' q = c q) (n : c' x = 0) : Kahn g M R (W ++ [x]) c' := by
  have xn : x ∉ R ++ W := fun h => by have := (k.zero x xM).mpr h; omega
  refine ⟨?_, fun q hq => ?_, fun q hq => ?_, k.top⟩
  · rw [← List.append_assoc, List.nodup_append]
    exact ⟨k.ndR, by simp, fun a ha b hb e => xn (by rw [List.mem_singleton.mp hb] at e; exact e ▸ ha)⟩
  · rw [← List.append_assoc] at hq
    rcases List.mem_append.mp hq with hq | hq
    · exact k.sub q hq
    · rw [List.mem_singleton.mp hq]; exact xM
  · rw [← List.append_assoc, List.mem_append]
    by_cases e : q = x
    · subst e; exact ⟨fun _ => .inr (by simp), fun _ => n⟩
    · rw [ho q e, k.zero q hq]
      exact ⟨.inl, fun h => h.resolve_right fun z => e (List.mem_singleton.mp z)⟩
theorem tab_e {P : Program} {w : World} {K : PySem.W.Frag} {H : Hp} {d : Addr} {a b : List (List L2.Key × V)} (e : a = b) (t : TabT P w K H d a) : TabT P w K H d b := e ▸ t
def spHasRingP (P : Program) (w : World) (K : PySem.W.Frag) : Sp := fun vs H Q _ => ∃ (d : Addr) (M : List Pl) (kvs : List (List L2.Key × V)) (g : Pl → List Pl), vs = [.ref d] ∧ TabT P w K H d kvs ∧ AdjR (PlS K) g H kvs M ∧ M.Nodup ∧ (∀ p, p ∉ M → g p = []) ∧ (∀ p q, q ∈ g p → q ∈ M) ∧ M.length ≤ 5000 ∧
  ∀ b H', Same H H' → (b = true ↔ Ring g) → Q (.bl b) H'
section
variable {P : Program} {w : World} {K : PySem.W.Frag} {mg : Str → Option Value} {base : Heap}
theorem ok_HasRingP {f : Addr} {fd : FuncData} {k : Nat} (F : Fun K "has_ring" "has_ring" sHasRing f fd) (nlen : mg "len" = none) : FnOk P w K mg base CX0 (k + 1) f fd ["following"] (spHasRingP P w K) := by
  refine F.ok scHasRing (fun vs H Q E h => ?_) (fun cdv A outer s H vs Q E hr h => ?_)
  · obtain ⟨d, M, kvs, g, rfl, _⟩ := h; rfl
  · obtain ⟨d, M, kvs, g, rfl, gd, hF, ndM, hg0, hgM, hMl, kQ⟩ := h
    have hu := hr.units
    have hu1 : (A.deeper (envOfC "has_ring" (defScope sHasRing) s.heap.objs.size f cdv)).units + 1 < cLine := by omega
    refine ⟨_, (pss_cons (ps_lock (ps_set (i := 1) scHasRing.nd rfl (by first | exact Or.inl rfl | exact Or.inr rfl) (pe_dcX (own := [("place", 2)]) (g := (gName 2)) (by rfl) (Nat.lt_of_succ_lt hu1) scHasRing.nd (pi_keysX (pv 0)) (blkOk_by (own := [("place", 2)]) (N := ["following", "many", "place", "further", "waiting", "left"]) (sc := defScope sHasRing) (by decide +kernel)) ⟨(fun _ _ _ _ _ => (pg_name (i := 2) scHasRing.nd rfl (by first | exact Or.inl rfl | exact Or.inr rfl))), (fun _ _ _ _ _ => pts_nil), (fun _ _ _ _ _ => (pv 2)), (fun _ _ _ _ _ => pe_int)⟩)))
      (pss_cons (ps_lock (ps_for PassesOwn.never rfl (pi_keysX (pv 0)) (pg_name (i := 2) scHasRing.nd rfl (by first | exact Or.inl rfl | exact Or.inr rfl)) (pss_one (ps_for PassesOwn.never rfl (pi_list (pe_xget hu1 (pv 0) (pv 2) (fun _ _ => rfl))) (pg_name (i := 3) scHasRing.nd rfl (by first | exact Or.inl rfl | exact Or.inr rfl)) (pss_one (ps_xaug hu1 (pv 1) (pv 3) pe_int ip_add (by intros; rfl)))))))
      (pss_cons (ps_lock (ps_setLc (i := 4) (own := [("place", 2)]) (g := (gName 2)) (by rfl) scHasRing.nd rfl rfl (sw_true rfl rfl rfl (by decide +kernel)) (pi_keysX (pv 0)) (blkOk_by (own := [("place", 2)]) (N := ["following", "many", "place", "further", "waiting", "left"]) (sc := defScope sHasRing) (by decide +kernel)) (fun _ _ _ _ _ => (pg_name (i := 2) scHasRing.nd rfl (by first | exact Or.inl rfl | exact Or.inr rfl))) (fun _ _ _ _ _ => (pts_one (pt_cmpR op_eq (show PE _ _ (tXGet P w K (tVar 1) (tVar 2)) from pe_xget hu1 (pv 1) (pv 2) (fun _ _ => rfl)) pe_int (nomark _)))) (fun _ _ _ _ _ => (pv 2))))
      (pss_cons (ps_set (i := 5) scHasRing.nd rfl (by first | exact Or.inl rfl | exact Or.inr rfl) (pe_callB call_lenX (by rfl) nlen boot_len (pa_cons (pv 0) pa_nil)))
      (pss_cons (ps_while PassesOwn.never (pt_truth (pv 4) (by intro _; rfl)) (pss_cons (ps_set (i := 2) scHasRing.nd rfl (by first | exact Or.inl rfl | exact Or.inr rfl) (pe_bm0 PySem.F.plainAttrs_list PySem.F.slot_list_pop PySem.F.type_list_pop mt_pop (pv 4)))
      (pss_cons (ps_aug (i := 5) scHasRing.nd rfl (by first | exact Or.inl rfl | exact Or.inr rfl) pe_int ip_sub)
      (pss_one (ps_for PassesOwn.never rfl (pi_list (pe_xget hu1 (pv 0) (pv 2) (fun _ _ => rfl))) (pg_name (i := 3) scHasRing.nd rfl (by first | exact Or.inl rfl | exact Or.inr rfl)) (pss_cons (ps_xaug hu1 (pv 1) (pv 3) pe_int ip_sub (by intros; rfl))
      (pss_one (ps_if (pt_cmpR op_eq (pe_xget hu1 (pv 1) (pv 3) (fun _ _ => rfl)) pe_int (nomark _)) (pss_one (ps_expr (pe_bm PySem.F.plainAttrs_list PySem.F.slot_list_append PySem.F.type_list_append mt_append (pv 4) (pa_cons (pv 3) pa_nil)))) pss_nil))))))))
      (pss_one (ps_ret (pe_cmpR op_gt (pv 5) pe_int (nomark _))))))))), ?_⟩
    have hB := adj_wo gd hF
    obtain ⟨xs, gx, ex, hxs⟩ := gd
    have kw := kpT_wo gx
    have hxB : ∀ x ∈ xs, SqT K (wo d H) x.2.1 (x.1.map kV) := fun x hx => sqT_kpt kw (hxs x hx)
    have kl := hF.len
    have xl : xs.length = M.length := by rw [← kl, ← ex, List.length_map]
    have hkv0 : ∀ {i : Nat} {e : KA}, xs[i]? = some e → kvs[i]? = some (e.1, e.2.2) := fun {i e} h => by rw [← ex, List.getElem?_map, h]; rfl
    have sB0 : Same (wo d H) H := wo_sub
    have back : ∀ {G : Hp}, Same (wo d H) G → G d = some (DX P w d xs) → Same H G := fun {G} sm g b o e => by
      by_cases ed : b = d
      · subst ed; rw [gx] at e; cases e; exact g
      · exact sm _ _ (by rw [wo_ne ed]; exact e)
    have nBd : wo d H d = none := wo_at
    have kpF : ∀ {G : Hp} {o' : Obj} {u : HO}, G d = some (.frz o' (DX P w d xs)) → KpT G (upd G d u) := fun {G o' u} g b ys => ⟨fun e => by rw [upd_ne (fun q => by rw [q, g] at e; cases e)]; exact e, fun u e => by rw [upd_ne (fun q => by rw [q, g] at e; cases e)]; exact e⟩
    have kpD : ∀ {G : Hp} {u : HO}, G d = some (DX P w d xs) → KpT G (upd G d u) := fun {G u} g => KpT.ext g
    have tD : ∀ {G : Hp}, Same (wo d H) G → G d = some (DX P w d xs) → TabT P w K G d kvs := fun {G} sm g => ⟨xs, g, ex, fun x hx => ex_t' sm (hxB x hx)⟩
    have lk : ∀ {G : Hp} {o : HO}, Same (wo d H) G → Same (wo d H) (upd G d o) := fun {G o} sm b x e => by
      rw [upd_ne (ne_of_none e nBd)]; exact sm _ _ e
    generalize hBe : wo d H = B at hB sB0 back nBd lk hxB tD
    -- the numbers, none by now
    refine ⟨d, DX P w d xs, gx, trivial, fun od => ⟨_, rfl, d, od, xs, rfl, upd_same, fun m o0 nm tm => ?_⟩⟩
    have gf0 : upd H d (.frz od (DX P w d xs)) d = some (.frz od (DX P w d xs)) := upd_same
    have sB1 := lk (o := .frz od (DX P w d xs)) sB0
    generalize upd H d (.frz od (DX P w d xs)) = H0 at nm tm gf0 sB1 ⊢
    have nBm : B m = none := sB1.free nm
    have dm : d ≠ m := ne_of_none gf0 nm
    refine it_gen (walk_keysX (P := P) (w := w) (d := d) (o := od) (xs := xs)) (fun i H' => TabT P w K H' m (valT (cI fun _ => 0) (M.take i)) ∧ Same H0 H') ⟨tm, same_upd nm⟩ (fun i H' _ z => z.2 _ _ gf0) ?_ ?_
    · rintro i v H9 H5 hi ⟨gm, sm⟩ ⟨rfl, e0, he0, rfl⟩
      obtain ⟨p, hp, ek⟩ := hF.key (hkv0 he0)
      have hq0 := ex_t' (sB1.trans sm) (hxB e0 (List.mem_of_getElem? he0))
      rw [ek] at hq0
      generalize e0.2.1 = q at hq0 ⊢
      have hq : SqT K _ q (vP p) := hq0
      have tk := take_snoc hp
      have hout : p ∉ M.take i := fun z => by
        have nd := ndM
        rw [← List.take_append_drop (i + 1) M, tk, List.append_assoc] at nd
        exact (List.nodup_append.mp nd).2.2 p z p (by simp) rfl
      refine ⟨rfl, ?_⟩
      dsimp only [tYes]
      refine iteT ⟨_, rfl, _, kP p, q, rfl, hq, gm, by rw [List.length_map, List.length_take, sizeLine_eq]; omega, fun o9 t9 => ?_⟩
      rw [show V.int 0 = cI (fun _ => 0) p from rfl, valT_put (v := cI fun _ => 0) hout, ← tk] at t9
      exact ⟨t9, fun b x h => by rw [upd_ne (ne_of_none h nm)]; exact sm _ _ h⟩
    rintro H1 ⟨gm1, sm1⟩
    rw [xl, List.take_length] at gm1
    refine ⟨sm1 _ _ gf0, ?_⟩
    have gd2 : upd H1 d (DX P w d xs) d = some (DX P w d xs) := upd_same
    have gm2 : TabT P w K (upd H1 d (DX P w d xs)) m (valT (cI fun _ => 0) M) := gm1.kp (kpF (sm1 _ _ gf0)) (upd_ne dm.symm)
    have sB2 := lk (o := DX P w d xs) (sB1.trans sm1)
    generalize upd H1 d (DX P w d xs) = H2 at gd2 gm2 sB2 ⊢
    -- how many stand ahead
    refine ⟨d, DX P w d xs, gd2, trivial, fun od2 => ⟨_, rfl, d, od2, xs, rfl, upd_same, ?_⟩⟩
    have gf2 : upd H2 d (.frz od2 (DX P w d xs)) d = some (.frz od2 (DX P w d xs)) := upd_same
    have gm3 : TabT P w K (upd H2 d (.frz od2 (DX P w d xs))) m (valT (cI fun _ => 0) M) := gm2.kp (kpD gd2) (upd_ne dm.symm)
    have sB3 := lk (o := .frz od2 (DX P w d xs)) sB2
    generalize upd H2 d (.frz od2 (DX P w d xs)) = H3 at gf2 gm3 sB3 ⊢
    have mU : ∀ {G : Hp} {o : HO}, Same B G → Same B (upd G m o) := fun {G o} sm b x e => by
      rw [upd_ne (ne_of_none e nBm)]; exact sm _ _ e
    refine for_it walk_keysX (fun i σ H' => ∃ (y2 y3 : Option V), σ = [some (.ref d), some (.ref m), y2, y3, none, none] ∧ TabT P w K H' m (valT (cI (degP g (M.take i))) M) ∧ H' d = some (.frz od2 (DX P w d xs)) ∧ Same B H')
      ⟨_, _, rfl, gm3, gf2, sB3⟩ (fun i σ H' _ z => by obtain ⟨_, _, _, _, g, _⟩ := z; exact g) ?_ ?_
    · rintro i v σ H9 H4 hi ⟨y2, y3, rfl, gm4, gf4, sB4⟩ ⟨rfl, e0, he0, rfl⟩
      obtain ⟨p, hp, ek⟩ := hF.key (hkv0 he0)
      have hq0 := ex_t' sB4 (hxB e0 (List.mem_of_getElem? he0))
      rw [ek] at hq0
      generalize e0.2.1 = q at hq0 ⊢
      have hq : SqT K _ q (vP p) := hq0
      have hpM : p ∈ M := List.mem_of_getElem? hp
      obtain ⟨l, gus, e1, e2, e3⟩ := hB.get hpM
      have hgus : gus.length = (g p).length := e3.len
      refine ⟨.ref d, rfl, _, rfl, d, _, rfl, ⟨kvs, kP p, q, ⟨xs, .inr ⟨od2, gf4⟩, ex, fun x hx => ex_t' sB4 (hxB x hx)⟩, rfl, hq, e1.symm⟩, l, rfl, ⟨_, sqOf (sB4 _ _ e2)⟩, ?_⟩
      refine for_it walk_list (fun j σ H' => ∃ (y3 : Option V), σ = [some (.ref d), some (.ref m), some (.ref q), y3, none, none] ∧ TabT P w K H' m (valT (cI fun x => degP g (M.take i) x + ((g p).take j).count x) M) ∧ H' d = some (.frz od2 (DX P w d xs)) ∧ Same B H')
        ⟨_, rfl, gm4, gf4, sB4⟩ (fun j σ H' _ z => by obtain ⟨_, _, _, _, s⟩ := z; exact sqOf (s _ _ e2)) ?_ ?_
      · rintro j v σ H9 H5 hj ⟨y3, rfl, gm5, gf5, sB5⟩ ⟨rfl, hv⟩
        obtain ⟨x, hx, c, rfl, hc⟩ := AllR.at e3 hv
        have hc5 := ex_t' sB5 hc
        have hxM := hgM p x (List.mem_of_getElem? hx)
        have tk := take_snoc hx
        refine ⟨.ref m, rfl, .ref c, rfl, m, .int _, rfl, by
          have := gm5.get (k := kP x) hc5
          rw [valT_get (v := cI fun x => degP g (M.take i) x + ((g p).take j).count x), if_pos hxM] at this
          exact this, ?_⟩
        refine ⟨_, _, rfl, rfl, _, kP x, c, rfl, gm5, hc5, by rw [List.length_map, sizeLine_eq]; omega, fun o9 t9 => ?_⟩
        refine ⟨_, rfl, ?_, by rw [upd_ne dm]; exact gf5, mU sB5⟩
        refine tab_e ?_ t9
        rw [bump_put (c' := fun x => degP g (M.take i) x + ((g p).take (j + 1)).count x) hxM]
        intro y
        dsimp only
        rw [tk, count_snoc]
        by_cases e : y = x
        · subst e
          rw [if_pos rfl, if_pos rfl]; omega
        · rw [if_neg e, if_neg e]; rfl
      · rintro σ H5 ⟨y3, rfl, gm5, gf5, sB5⟩
        rw [hgus, List.take_length] at gm5
        refine ⟨_, _, rfl, ?_, gf5, sB5⟩
        rw [take_snoc hp]
        refine tab_e (valT_congr fun x _ => ?_) gm5
        show V.int _ = V.int _
        rw [degP_app, degP_cons, degP_nil]; rfl
    · rintro σ H4 ⟨y2, y3, rfl, gm4, gf4, sB4⟩
      rw [xl, List.take_length] at gm4
      refine ⟨gf4, ?_⟩
      have gd5 : upd H4 d (DX P w d xs) d = some (DX P w d xs) := upd_same
      have gm5 : TabT P w K (upd H4 d (DX P w d xs)) m (valT (cI (degP g M)) M) := gm4.kp (kpF gf4) (upd_ne dm.symm)
      have sB5 := lk (o := DX P w d xs) sB4
      generalize upd H4 d (DX P w d xs) = H5 at gd5 gm5 sB5 ⊢
      -- what has nothing ahead
      refine ⟨d, DX P w d xs, gd5, trivial, fun od3 => ⟨_, rfl, d, od3, xs, rfl, upd_same, fun L nL => ?_⟩⟩
      have gf6 : upd H5 d (.frz od3 (DX P w d xs)) d = some (.frz od3 (DX P w d xs)) := upd_same
      have gm6 : TabT P w K (upd H5 d (.frz od3 (DX P w d xs))) m (valT (cI (degP g M)) M) := gm5.kp (kpD gd5) (upd_ne dm.symm)
      have sB6 := lk (o := .frz od3 (DX P w d xs)) sB5
      generalize upd H5 d (.frz od3 (DX P w d xs)) = H6 at nL gf6 gm6 sB6 ⊢
      have nBL : B L = none := sB6.free nL
      have dL : d ≠ L := ne_of_none gf6 nL
      have mL : m ≠ L := (gm6.neN nL).symm
      refine lc_it walk_keysX (LcR (PlS K) L H6 fun i => (M.take i).filter fun p => decide (degP g M p = 0)) (LcR.start nL rfl) (fun i H' _ Lr => Lr.sm _ _ gf6) ?_ ?_
      · rintro j v H9 H7 hj Lr ⟨rfl, e0, he0, rfl⟩
        obtain ⟨p, hp, ek⟩ := hF.key (hkv0 he0)
        have hq0 := ex_t' (sB6.trans Lr.sm) (hxB e0 (List.mem_of_getElem? he0))
        rw [ek] at hq0
        generalize e0.2.1 = q at hq0 ⊢
        have hq : SqT K _ q (vP p) := hq0
        have hpM : p ∈ M := List.mem_of_getElem? hp
        have tk := take_snoc hp
        refine ⟨rfl, .ref m, rfl, .ref q, rfl, m, .int _, rfl, by
          have := (gm6.up Lr.sm).get (k := kP p) hq
          rw [valT_get (v := cI (degP g M)), if_pos hpM] at this
          exact this, ?_⟩
        refine ⟨rfl, _, rfl, ?_⟩
        have gq : SqT K (wo L H7) q (vP p) := by
          obtain ⟨vs, gL⟩ := Lr.at
          exact sqT_kpt (KpT.wo gL) hq
        by_cases z : degP g M p = 0
        · rw [decide_eq_true (show V.int ((degP g M p : Nat) : Int) = V.int 0 by rw [z]; rfl)]
          exact iteT ⟨_, rfl, lcr_some plS_up Lr (Same.refl _) (d := p) (by rw [tk, List.filter_append, show [p].filter (fun p => decide (degP g M p = 0)) = [p] by simp [z]]) ⟨q, rfl, gq⟩ (by omega)⟩
        · rw [decide_eq_false (fun e : V.int ((degP g M p : Nat) : Int) = V.int 0 => z (by have := V.int.inj e; omega))]
          exact iteF (lcr_none plS_up Lr (Same.refl _) (by rw [tk, List.filter_append, show [p].filter (fun p => decide (degP g M p = 0)) = [] by simp [z], List.append_nil]))
      · rintro H7 Lr
        obtain ⟨us0, gL7, hW0, _⟩ := Lr.done
        rw [xl, List.take_length] at hW0
        have sm7 := Lr.sm
        refine ⟨sm7 _ _ gf6, ?_⟩
        have gd8 : upd H7 d (DX P w d xs) d = some (DX P w d xs) := upd_same
        have gm8 : TabT P w K (upd H7 d (DX P w d xs)) m (valT (cI (degP g M)) M) := (gm6.up sm7).kp (kpF (sm7 _ _ gf6)) (upd_ne dm.symm)
        have gL8 : upd H7 d (DX P w d xs) L = some (.lst us0) := by rw [upd_ne dL.symm]; exact gL7
        have sB8 := lk (o := DX P w d xs) (sB6.trans sm7)
        have hW8 : AllR (PlS K) (upd H7 d (DX P w d xs)) us0 (M.filter fun p => decide (degP g M p = 0)) := allS_kp (kpF (sm7 _ _ gf6)) (AllR.up plS_up wo_sub hW0)
        generalize upd H7 d (DX P w d xs) = H8 at gd8 gm8 gL8 sB8 hW8 ⊢
        refine ⟨.ref d, rfl, d, kvs, rfl, tD sB8 gd8, ?_⟩
        have LU : ∀ {G : Hp} {o : HO}, Same B G → Same B (upd G L o) := fun {G o} sm b x e => by
          rw [upd_ne (ne_of_none e nBL)]; exact sm _ _ e
        refine ⟨fun t σ H' => ∃ (R W : List Pl) (c : Pl → Nat) (us : List V) (y2 y3 : Option V), σ = [some (.ref d), some (.ref m), y2, y3, some (.ref L), some (.int ((M.length : Int) - (R.length : Int)))] ∧ TabT P w K H' m (valT (cI c) M) ∧ H' L = some (.lst us) ∧ AllR (PlS K) H' us W ∧ Kahn g M R W c ∧ (∀ q ∈ M, c q = degP g (restP M R) q) ∧ H' d = some (DX P w d xs) ∧ Same B H' ∧ t = M.length - R.length,
          ⟨_, [], _, degP g M, us0, _, _, by rw [show ((M.length : Int) - (([] : List Pl).length : Int)) = ((kvs.length : Nat) : Int) by rw [kl]; simp]; rfl, gm8, gL8, hW8, Kahn.start ndM, fun q _ => by rw [restP_nil], gd8, sB8, rfl⟩, ?_⟩
        rintro t σ H9 ⟨R, W, c, us, y2, y3, rfl, gm9, gL9, hW, hK, hc, gd9, sB9, ht⟩
        refine ⟨.ref L, rfl, !us.isEmpty, .inl ⟨_, sqOf gL9, rfl⟩, ?_⟩
        rcases List.eq_nil_or_concat W with rfl | ⟨W', p, rfl⟩
        · cases hW
          obtain ⟨k1, k2⟩ := kahn_end ndM hg0 hK hc
          refine ⟨_, rfl, _, _, rfl, rfl, kQ _ H9 (back sB9 gd9) ?_⟩
          rw [decide_eq_true_iff, ← k2]
          omega
        rw [List.concat_eq_append] at *
        obtain ⟨us', v, rfl, hW', b, rfl, hb⟩ := AllR.last hW
        have hve : (!(us' ++ [V.ref b]).isEmpty) = true := by simp
        rw [hve]
        have hpM : p ∈ M := hK.sub p (by simp)
        have lRW : (R ++ (W' ++ [p])).length ≤ M.length := nodup_sub M _ hK.ndR hK.sub
        rw [List.length_append, List.length_append] at lRW
        have lRW1 : R.length + (W'.length + 1) ≤ M.length := lRW
        refine ⟨fun σ' H' => ∃ t' < t, ∃ (R W : List Pl) (c : Pl → Nat) (us : List V) (y2 y3 : Option V), σ' = [some (.ref d), some (.ref m), y2, y3, some (.ref L), some (.int ((M.length : Int) - (R.length : Int)))] ∧ TabT P w K H' m (valT (cI c) M) ∧ H' L = some (.lst us) ∧ AllR (PlS K) H' us W ∧ Kahn g M R W c ∧ (∀ q ∈ M, c q = degP g (restP M R) q) ∧ H' d = some (DX P w d xs) ∧ Same B H' ∧ t' = M.length - R.length, fun σ' H' hN => by obtain ⟨t', h1, h2⟩ := hN; exact ⟨t', h1, h2⟩, ?_⟩
        refine ⟨.ref L, rfl, .inl ⟨rfl, _, sqOf gL9⟩, L, _, .ref b, rfl, rfl, gL9, by simp, ?_⟩
        have eD : (us' ++ [V.ref b]).dropLast = us' := by simp
        rw [eD]
        have ts : KpT H9 (upd H9 L (.lst us')) := KpT.lst gL9
        have gL10 : upd H9 L (.lst us') L = some (.lst us') := upd_same
        have gm10 : TabT P w K (upd H9 L (.lst us')) m (valT (cI c) M) := gm9.updL gL9
        have gd10 : upd H9 L (.lst us') d = some (DX P w d xs) := by rw [upd_ne dL]; exact gd9
        have sB10 := LU (o := .lst us') sB9
        have hW10 := allS_kp ts hW'
        have hb10 := sqT_kpt ts hb
        generalize upd H9 L (.lst us') = G0 at gL10 gm10 gd10 sB10 hW10 hb10 ⊢
        obtain ⟨l, gus, e1, e2, e3⟩ := hB.get hpM
        have hgus : gus.length = (g p).length := e3.len
        refine ⟨_, rfl, _, _, rfl, rfl, ?_⟩
        refine ⟨.ref d, rfl, .ref b, rfl, d, _, rfl, ⟨kvs, kP p, b, (tD sB10 gd10).g, rfl, hb10, e1.symm⟩, l, rfl, ⟨_, sqOf (sB10 _ _ e2)⟩, ?_⟩
        rw [show (fun i j : Int => i - j) ((M.length : Int) - (R.length : Int)) 1 = (M.length : Int) - ((R ++ [p]).length : Int) by rw [List.length_append]; show (M.length : Int) - R.length - 1 = M.length - ((R.length + 1 : Nat) : Int); omega]
        have hpR : p ∉ R := fun z => by
          have := (List.nodup_append.mp hK.ndR).2.2 p z p (by simp)
          exact this rfl
        have hK' := (hK.pop hg0 hc).congr (c' := fun q => degP g (restP M (R ++ [p])) q + ((g p).drop 0).count q) fun q hq => by
          rw [hc q hq, degP_take q ndM hpM hpR, List.drop_zero]; omega
        have gm11 : TabT P w K G0 m (valT (cI fun q => degP g (restP M (R ++ [p])) q + ((g p).drop 0).count q) M) := by
          refine tab_e (valT_congr fun q hq => ?_) gm10
          show V.int _ = V.int _
          rw [hc q hq, degP_take q ndM hpM hpR, List.drop_zero, Nat.add_comm]
        refine for_it walk_list (fun j σ H' => ∃ (W : List Pl) (us : List V) (y3 : Option V), σ = [some (.ref d), some (.ref m), some (.ref b), y3, some (.ref L), some (.int ((M.length : Int) - ((R ++ [p]).length : Int)))] ∧ TabT P w K H' m (valT (cI fun q => degP g (restP M (R ++ [p])) q + ((g p).drop j).count q) M) ∧ H' L = some (.lst us) ∧ AllR (PlS K) H' us W ∧ Kahn g M (R ++ [p]) W (fun q => degP g (restP M (R ++ [p])) q + ((g p).drop j).count q) ∧ H' d = some (DX P w d xs) ∧ Same B H')
          ⟨W', us', _, rfl, gm11, gL10, hW10, hK', gd10, sB10⟩ (fun j σ H' _ z => by obtain ⟨_, _, _, _, _, _, _, _, _, s⟩ := z; exact sqOf (s _ _ e2)) ?_ ?_
        · rintro j v σ H9 G1 hj ⟨W1, us1, y3, rfl, gm12, gL12, hW12, hK12, gd12, sB12⟩ ⟨rfl, hv⟩
          obtain ⟨x, hx, e, rfl, he⟩ := AllR.at e3 hv
          have he1 := ex_t' sB12 he
          have hxM := hgM p x (List.mem_of_getElem? hx)
          have cd := count_drop hx
          have lW1 : (R ++ [p] ++ W1).length ≤ M.length := nodup_sub M _ hK12.ndR hK12.sub
          rw [List.length_append] at lW1
          have lus1 : us1.length = W1.length := hW12.len
          have hcx : (fun q => degP g (restP M (R ++ [p])) q + ((g p).drop j).count q) x = (fun q => degP g (restP M (R ++ [p])) q + ((g p).drop (j + 1)).count q) x + 1 := by
            dsimp only
            rw [cd, if_pos rfl]; omega
          have hcq : ∀ q, q ≠ x → (fun q => degP g (restP M (R ++ [p])) q + ((g p).drop (j + 1)).count q) q = (fun q => degP g (restP M (R ++ [p])) q + ((g p).drop j).count q) q := fun q hq => by
            dsimp only
            rw [cd, if_neg hq]; rfl
          generalize (fun q => degP g (restP M (R ++ [p])) q + ((g p).drop j).count q) = c1 at gm12 hK12 hcx hcq ⊢
          generalize (fun q => degP g (restP M (R ++ [p])) q + ((g p).drop (j + 1)).count q) = c2 at hcx hcq ⊢
          have get1 : ∀ {G : Hp} {c : Pl → Nat}, TabT P w K G m (valT (cI c) M) → SqT K G e (vP x) → XGet P w K G m (.ref e) (some (.int (c x : Int))) := fun {G c} h1 h2 => by
            have := h1.get (k := kP x) h2
            rw [valT_get (v := cI c), if_pos hxM] at this
            exact this
          refine ⟨.ref m, rfl, .ref e, rfl, m, .int _, rfl, get1 gm12 he1, ?_⟩
          refine ⟨_, _, rfl, rfl, _, kP x, e, rfl, gm12, he1, by rw [List.length_map, sizeLine_eq]; omega, fun o9 t9 => ?_⟩
          have gm13 : TabT P w K (upd G1 m o9) m (valT (cI c2) M) := tab_e (bump_put (c' := c2) hxM _ fun q => by
            dsimp only
            by_cases e : q = x
            · subst e; rw [if_pos rfl, hcx]; omega
            · rw [if_neg e, hcq q e]) t9
          have ts1 : KpT G1 (upd G1 m o9) := gm12.put
          have gL13 : upd G1 m o9 L = some (.lst us1) := by rw [upd_ne mL.symm]; exact gL12
          have gd13 : upd G1 m o9 d = some (DX P w d xs) := by rw [upd_ne dm]; exact gd12
          have sB13 := mU (o := o9) sB12
          have hW13 := allS_kp ts1 hW12
          have he2 := sqT_kpt ts1 he1
          dsimp only
          generalize upd G1 m o9 = G2 at gm13 gL13 gd13 sB13 hW13 he2 ⊢
          refine ⟨.ref m, rfl, .ref e, rfl, m, .int _, rfl, get1 gm13 he2, rfl, _, rfl, ?_⟩
          by_cases z : c2 x = 0
          · rw [decide_eq_true (show V.int ((c2 x : Nat) : Int) = V.int 0 by rw [z]; rfl)]
            have ts2 : KpT G2 (upd G2 L (.lst (us1 ++ [.ref e]))) := KpT.lst gL13
            refine iteT ⟨.ref L, rfl, .inl ⟨rfl, _, sqOf gL13⟩, _, rfl, L, _, _, rfl, rfl, gL13, by rw [sizeLine_eq]; omega, ?_⟩
            exact ⟨W1 ++ [x], us1 ++ [.ref e], _, rfl, gm13.updL gL13, upd_same, AllR.snoc (allS_kp ts2 hW13) ⟨e, rfl, sqT_kpt ts2 he2⟩, hK12.last hxM hcx hcq z, by rw [upd_ne dL]; exact gd13, LU sB13⟩
          · rw [decide_eq_false (fun e : V.int ((c2 x : Nat) : Int) = V.int 0 => z (by have := V.int.inj e; omega))]
            exact iteF ⟨W1, us1, _, rfl, gm13, gL13, hW13, hK12.some hxM hcx hcq z, gd13, sB13⟩
        · rintro σ G1 ⟨W1, us1, y3, rfl, gm12, gL12, hW12, hK12, gd12, sB12⟩
          refine ⟨M.length - (R ++ [p]).length, ?_, R ++ [p], W1, _, us1, _, _, rfl, gm12, gL12, hW12, hK12, fun q _ => ?_, gd12, sB12, rfl⟩
          · rw [ht, List.length_append]
            show M.length - (R.length + 1) < M.length - R.length
            omega
          · rw [hgus, List.drop_length]; rfl
end
end KP
namespace KP
open PySem PySem.Spec PyProof.Rows L2 EL LamX NdefX
open Evl (pss_cut)
def spPlacesOfP (P : Program) (w : World) (K : PySem.W.Frag) : Sp := fun vs H Q _ => ∃ (a d : Addr) (ns : List Nat) (n : Nat) (ps : List Pl) (kvs : List (List L2.Key × V)), vs = [.ref a, .ref d] ∧ SqT K H a (ns.map fun n : Nat => V.int (n : Int)) ∧ TabT P w K H d kvs ∧ kvs.map (·.1) = ps.map kP ∧ ns.length ≤ 100000 ∧ (∀ x ∈ ns, x < n) ∧ n ≤ 100000 ∧ ps.length ≤ 100000 ∧
  ∀ l us H', Same H H' → H l = none → H' l = some (.lst us) → AllR (PlS K) H' us (ps.filter fun p => decide (p.1 ∈ ns)) → Q (.ref l) H'
section
variable {P : Program} {w : World} {K : PySem.W.Frag} {mg : Str → Option Value} {base : Heap}
theorem ok_PlacesOfP {f : Addr} {fd : FuncData} {k : Nat} (F : Fun K "places_of" "places_of" sPlacesOf f fd) : FnOk P w K mg base CX0 (k + 1) f fd ["ends", "steps"] (spPlacesOfP P w K) := by
  refine F.ok scPlacesOf (fun vs H Q E h => ?_) (fun cdv A outer s H vs Q E hr h => ?_)
  · obtain ⟨a, d, ns, n, ps, kvs, rfl, _⟩ := h; rfl
  · obtain ⟨a, d, ns, n, ps, kvs, rfl, hxs, gd, hks, hnl, hss, hn, hpl, kQ⟩ := h
    have hu := hr.units
    have hu1 : (A.deeper (envOfC "places_of" (defScope sPlacesOf) s.heap.objs.size f cdv)).units + 1 < cLine := by omega
    have two : 2 ≤ sizeLine := by decide
    refine ⟨_, (pss_cons (ps_set (i := 2) scPlacesOf.nd rfl (by first | exact Or.inl rfl | exact Or.inr rfl) (pe_dc (own := [("end", 3)]) (g := (gName 3)) (by rfl) scPlacesOf.nd (pi_tup (pv 0)) (blkOk_by (own := [("end", 3)]) (N := ["ends", "steps", "ending", "end", "place"]) (sc := defScope sPlacesOf) (by decide +kernel)) (fun _ _ _ _ _ => (pg_name (i := 3) scPlacesOf.nd rfl (by first | exact Or.inl rfl | exact Or.inr rfl))) (fun _ _ _ _ _ => pts_nil) (fun _ _ _ _ _ => (pv 3)) (fun _ _ _ _ _ => pe_bl)))
      (pss_one (ps_ret (pe_lock (pe_lc (own := [("place", 4)]) (g := (gName 4)) (by rfl) scPlacesOf.nd (pi_keysX (pv 1)) (blkOk_by (own := [("place", 4)]) (N := ["ends", "steps", "ending", "end", "place"]) (sc := defScope sPlacesOf) (by decide +kernel)) (fun _ _ _ _ _ => (pg_name (i := 4) scPlacesOf.nd rfl (by first | exact Or.inl rfl | exact Or.inr rfl))) (fun _ _ _ _ _ => (pts_one (pt_cmp (pc_din hu1 (pe_ix (show IxR _ (rIxT K) from ix_tup) (pv 4) pe_int (fun _ _ => rfl)) (pv 2))))) (fun _ _ _ _ _ => (pv 4))))))), ?_⟩
    refine ⟨_, rfl, a, rfl, ⟨_, hxs⟩, fun m nm => ?_⟩
    refine dc_it walk_tup (fun i H' => ∃ M, H' m = some (.dK (oneD M)) ∧ M.Nodup ∧ (∀ p, p ∈ M ↔ p ∈ ns.take i) ∧ Same H H') ⟨[], upd_same, List.nodup_nil, fun p => by simp, same_upd nm⟩ (fun i H' _ z => by obtain ⟨_, _, _, _, sm⟩ := z; exact ex_t' sm hxs) ?_ ?_
    · rintro i v H9 H1 hi ⟨M, gm, nd, hM, sm⟩ ⟨rfl, hv⟩
      obtain ⟨s0, hs0, rfl⟩ : ∃ s0, ns[i]? = some s0 ∧ v = .int (s0 : Int) := by
        rw [List.getElem?_map] at hv
        cases e : ns[i]? with
        | none => rw [e] at hv; cases hv
        | some b => rw [e] at hv; exact ⟨b, rfl, (Option.some.inj hv).symm⟩
      refine ⟨rfl, ?_⟩
      dsimp only [tYes]
      have bM : M.length ≤ n := nodup_len n M nd fun p hp => hss p (List.mem_of_mem_take ((hM p).mp hp))
      refine iteT ⟨_, rfl, oneD M, .inl (s0 : Int), rfl, gm, lt_sz (by rw [List.length_map]; omega), ?_⟩
      have sU : ∀ o, Same H (upd H1 m o) := fun o b x e => by rw [upd_ne (ne_of_none e nm)]; exact sm b x e
      by_cases hin : s0 ∈ M
      · rw [oneD_put' hin]
        refine ⟨M, upd_same, nd, fun p => ?_, sU _⟩
        rw [take_snoc hs0, List.mem_append, hM p]
        constructor
        · exact .inl
        · rintro (h | h)
          · exact h
          · rw [List.mem_singleton.mp h]; exact (hM s0).mp hin
      · rw [oneD_put hin]
        refine ⟨M ++ [s0], upd_same, ?_, fun p => ?_, sU _⟩
        · rw [List.nodup_append]
          exact ⟨nd, by simp, fun x hx y hy e => hin (by rw [List.mem_singleton.mp hy] at e; exact e ▸ hx)⟩
        · rw [take_snoc hs0, List.mem_append, List.mem_append, hM p]
    rintro H1 ⟨M, gm, nd, hM, s1⟩
    rw [List.length_map, List.take_length] at hM
    have dm : d ≠ m := (gd.neN nm).symm
    obtain ⟨xs, gx, ex, hx⟩ := gd
    have gd1 := s1 _ _ gx
    have kl : kvs.length = ps.length := by
      have := congrArg List.length hks
      rw [List.length_map, List.length_map] at this
      exact this
    refine ⟨d, DX P w d xs, gd1, trivial, fun od => ?_⟩
    have gf : upd H1 d (.frz od (DX P w d xs)) d = some (.frz od (DX P w d xs)) := upd_same
    have gm1 : upd H1 d (.frz od (DX P w d xs)) m = some (.dK (oneD M)) := by rw [upd_ne dm.symm]; exact gm
    have sb : ∀ b o, b ≠ d → H1 b = some o → upd H1 d (.frz od (DX P w d xs)) b = some o := fun b o h e => by rw [upd_ne h]; exact e
    have back : ∀ {G : Hp}, Same (upd H1 d (.frz od (DX P w d xs))) G → Same H1 (upd G d (DX P w d xs)) := fun {G} sm b o e => by
      by_cases ed : b = d
      · subst ed; rw [gd1] at e; cases e; exact upd_same
      · rw [upd_ne ed]; exact sm _ _ (sb b o ed e)
    have nb : ∀ D, upd H1 d (.frz od (DX P w d xs)) D = none → H1 D = none ∧ D ≠ d := fun D e => by
      have h : D ≠ d := fun z => by rw [z, upd_same] at e; cases e
      exact ⟨by rw [upd_ne h] at e; exact e, h⟩
    have hxb : ∀ x ∈ xs, SqT K (upd H1 d (.frz od (DX P w d xs))) x.2.1 (x.1.map kV) := fun x h => sqt_dx gd1 (ex_t' s1 (hx x h))
    generalize upd H1 d (.frz od (DX P w d xs)) = Hb at gf gm1 sb back nb hxb ⊢
    refine ⟨.ref d, rfl, d, od, xs, rfl, gf, fun D nD => ?_⟩
    refine lc_it walk_keysX (LcR (PlS K) D Hb fun i => (ps.take i).filter fun p => decide (p.1 ∈ ns)) (LcR.start nD rfl) (fun i H' _ L => L.sm _ _ gf) ?_ ?_
    · rintro j v H9 H2 hj L ⟨rfl, e0, he0, rfl⟩
      obtain ⟨p, hp, ek⟩ : ∃ p, ps[j]? = some p ∧ e0.1 = kP p := by
        have h1 : (kvs.map (·.1))[j]? = some e0.1 := by rw [← ex, List.getElem?_map, List.getElem?_map, he0]; rfl
        rw [hks, List.getElem?_map] at h1
        obtain ⟨p, e1, e2⟩ := Option.map_eq_some_iff.mp h1
        exact ⟨p, e1, e2.symm⟩
      have hq0 := ex_t' L.sm (hxb e0 (List.mem_of_getElem? he0))
      rw [ek] at hq0
      generalize e0.2.1 = q at hq0 ⊢
      have hj2 : j < ps.length := (List.getElem?_eq_some_iff.mp hp).1
      have hq : SqT K H2 q (vP p) := hq0
      obtain ⟨acc, gD⟩ := L.at
      have gq : SqT K (wo D H2) q (vP p) := sqT_kpt (KpT.wo gD) hq
      refine ⟨rfl, .ref q, rfl, q, _, _, .int (p.1 : Int), rfl, rfl, hq, (by rfl), .ref m, rfl, m, _, rfl, DGet.k (k := .inl (p.1 : Int)) (L.sm _ _ gm1), _, rfl, ?_⟩
      rw [oneD_get]
      by_cases hin : p.1 ∈ M
      · rw [if_pos hin]
        have hin2 := (hM p.1).mp hin
        exact iteT ⟨_, rfl, lcr_some plS_up L (Same.refl _) (d := p) (by rw [take_snoc hp, List.filter_append, show [p].filter (fun p => decide (p.1 ∈ ns)) = [p] by simp [hin2]]) ⟨q, rfl, gq⟩ (by omega)⟩
      · rw [if_neg hin]
        have hin2 : ¬ p.1 ∈ ns := fun z => hin ((hM p.1).mpr z)
        exact iteF (lcr_none plS_up L (Same.refl _) (by rw [take_snoc hp, List.filter_append, show [p].filter (fun p => decide (p.1 ∈ ns)) = [] by simp [hin2], List.append_nil]))
    rintro H2 L
    have sw : Same Hb H2 := L.sm
    obtain ⟨us, gD, ha, _⟩ := L.done
    rw [show xs.length = ps.length by rw [← kl, ← ex, List.length_map], List.take_length] at ha
    obtain ⟨nD1, nDd⟩ := nb D nD
    refine ⟨sw _ _ gf, kQ D us _ (s1.trans (back sw)) ?_ (by rw [upd_ne nDd]; exact gD) ?_⟩
    · cases e : H D with
      | none => rfl
      | some o => rw [s1 _ _ e] at nD1; cases nD1
    · exact allS_kp (fun b ys => ⟨fun e => by rw [upd_ne (fun q => by rw [q, sw _ _ gf] at e; cases e)]; exact e, fun u e => by rw [upd_ne (fun q => by rw [q, sw _ _ gf] at e; cases e)]; exact e⟩) (AllR.up plS_up wo_sub ha)
end
end KP
namespace KP
open PySem PySem.Spec PyProof.Rows L2 EL LamX NdefX
open Evl (pss_cut)
theorem lookup_relab {f : Str → Bool} : ∀ {names : List (Str × NameKind)} {x : Str}, (names.lookup x = some .cell ∨ names.lookup x = some .free) →
    ((names.map fun (n, k) => if (k == NameKind.free && f n) then (n, NameKind.cell) else (n, k)).lookup x = some .cell ∨ (names.map fun (n, k) => if (k == NameKind.free && f n) then (n, NameKind.cell) else (n, k)).lookup x = some .free)
  | [], _, h => by simp at h
  | (n, k) :: r, x, h => by
    have ih := @lookup_relab f r x
    simp only [List.map_cons]
    cases hx : x == n with
    | true =>
      simp only [List.lookup_cons, hx, Option.some.injEq] at h
      split
      · left; simp only [List.lookup_cons, hx]
      · simp only [List.lookup_cons, hx, Option.some.injEq]; exact h
    | false =>
      simp only [List.lookup_cons, hx] at h
      split
      · simp only [List.lookup_cons, hx]; exact ih h
      · simp only [List.lookup_cons, hx]; exact ih h
/-- a comprehension within a comprehension: names that are free there stay free or cells -/
theorem blk_in {N : List Str} {sc scope : Scope} {own : List (Str × Nat)} {cl : List (Str × Addr)} {C : Addr} {env : Env} (h : BlkOk N sc scope own) : BlkOk N (compEnvC sc cl C env).scope scope own := by
  refine ⟨h.kind, h.uniq, h.ix, fun y hy e => ?_, h.own⟩
  have q := lookup_relab (f := fun n => env.scope.kind == .function && env.kindOf n == some .cell) (h.free y hy e)
  simp only [← Bool.and_assoc] at q
  exact q
abbrev sHasBound : Stmt := topS 48
theorem scHasBound : FnScope ["rows", "ends", "steps", "following", "kept", "gaps", "place", "_", "further"] ["rows", "ends"] (defScope sHasBound) := ⟨rfl, rfl, rfl, by decide +kernel, rfl, by decide +kernel, by decide +kernel⟩
/-- a place that some told pair uses -/
def Use (rows : List (List Stp)) (ends : List Nat) (p : Pl) : Prop := Rch (outP (stF rows)) [(0, 0)] p ∧ ∃ e : Pl, e.1 ∈ ends ∧ Rch (outP (stF rows)) [p] e
/-- a ring of gaps that told pairs use -/
def GapRing (rows : List (List Stp)) (ends : List Nat) : Prop := ∃ g : Pl → List Pl, (∀ p q, q ∈ g p → p.2 ≠ 0 ∧ Use rows ends p ∧ Use rows ends q ∧ q ∈ outP (stF rows) p) ∧ Ring g
theorem ring_mono {g g' : Pl → List Pl} (h : ∀ p q, q ∈ g p → q ∈ g' p) (r : Ring g) : Ring g' := by
  obtain ⟨x, y, hy, w⟩ := r
  exact ⟨x, y, h _ _ hy, w.least (C := fun z => Rch g' [y] z) (fun s hs => .base hs) fun p hp q hq => .step hp (h _ _ hq)⟩
/-- the steps from the places of a dict -/
def outM (f : Pl → List Stp) (M : List Pl) (p : Pl) : List Pl := if p ∈ M then outP f p else []
theorem outM_in {f : Pl → List Stp} {M : List Pl} {p : Pl} (h : p ∈ M) : outM f M p = outP f p := if_pos h
theorem outM_out {f : Pl → List Stp} {M : List Pl} {p : Pl} (h : p ∉ M) : outM f M p = [] := if_neg h
theorem mem_outM {f : Pl → List Stp} {M : List Pl} {p q : Pl} : q ∈ outM f M p ↔ p ∈ M ∧ q ∈ outP f p := by
  by_cases h : p ∈ M
  · rw [outM_in h]; exact ⟨fun z => ⟨h, z⟩, fun z => z.2⟩
  · rw [outM_out h]; exact ⟨fun z => (List.not_mem_nil z).elim, fun z => absurd z.1 h⟩
section
variable {f : Pl → List Stp} {ss M : List Pl}
theorem rch_outM (hM : ∀ p, p ∈ M ↔ Rch (outP f) ss p) {p : Pl} : Rch (outM f M) ss p ↔ Rch (outP f) ss p := by
  constructor
  · exact fun h => h.least (C := fun x => Rch (outP f) ss x) (fun s hs => .base hs) fun x hx y hy => .step hx (mem_outM.mp hy).2
  · intro h
    induction h with
    | base m => exact .base m
    | step h1 m ih => exact .step ih (mem_outM.mpr ⟨(hM _).mpr h1, m⟩)
theorem rch_outM2 (hM : ∀ p, p ∈ M ↔ Rch (outP f) ss p) {p q : Pl} (hp : p ∈ M) : Rch (outM f M) [p] q ↔ Rch (outP f) [p] q := by
  constructor
  · exact fun h => h.least (C := fun x => Rch (outP f) [p] x) (fun s hs => .base hs) fun x hx y hy => .step hx (mem_outM.mp hy).2
  · intro h
    have key : Rch (outM f M) [p] q ∧ q ∈ M := by
      induction h with
      | base m => rw [List.mem_singleton.mp m]; exact ⟨.base (List.mem_singleton.mpr rfl), hp⟩
      | step _ m ih => exact ⟨.step ih.1 (mem_outM.mpr ⟨ih.2, m⟩), (hM _).mpr (.step ((hM _).mp ih.2) m)⟩
    exact key.1
end
theorem useful_use {rows : List (List Stp)} {ends : List Nat} {M : List Pl} (hM : ∀ p, p ∈ M ↔ Rch (outP (stF rows)) [(0, 0)] p) (p : Pl) : UsefulP (outM (stF rows) M) [(0, 0)] (M.filter fun p => decide (p.1 ∈ ends)) p ↔ Use rows ends p := by
  unfold UsefulP Use
  rw [rch_outM hM]
  constructor
  · rintro ⟨h1, e, he, r⟩
    obtain ⟨he1, he2⟩ := List.mem_filter.mp he
    exact ⟨h1, e, of_decide_eq_true he2, (rch_outM2 hM ((hM p).mpr h1)).mp r⟩
  · rintro ⟨h1, e, he, r⟩
    have r2 := (rch_outM2 hM ((hM p).mpr h1)).mpr r
    refine ⟨h1, e, List.mem_filter.mpr ⟨(hM e).mpr ?_, decide_eq_true he⟩, r2⟩
    exact r.least (C := fun x => Rch (outP (stF rows)) [(0, 0)] x) (fun s hs => by rw [List.mem_singleton.mp hs]; exact h1) fun x hx y hy => .step hx hy
/-- a gap's side stays -/
theorem gap_side {rows : List (List Stp)} {p q : Pl} (h : q ∈ outP (stF rows) p) (n : p.2 ≠ 0) : q.2 = p.2 := by
  obtain ⟨t, ht, rfl⟩ := List.mem_map.mp h
  have := (List.mem_filter.mp ht).2
  unfold keepD at this
  rw [Bool.or_eq_true, decide_eq_true_iff, decide_eq_true_iff] at this
  exact this.resolve_left n
theorem adj_woR {P : Program} {w : World} {K : PySem.W.Frag} {α : Type} {R : Hp → V → α → Prop} {f : Pl → List α} (tsR : ∀ (H H' : Hp) (v : V) (x : α), TupS H H' → R H v x → R H' v x) {H : Hp} {d : Addr} {kvs kv0 : List (List L2.Key × V)} {M : List Pl} (gd : TabT P w K H d kv0) (h : AdjR R f H kvs M) : AdjR R f (wo d H) kvs M := Paired.mapP h fun _ _ z => ⟨z.1, by
  obtain ⟨l, us, h1, h2, h3⟩ := z.2
  obtain ⟨xs, gx⟩ := gd.at'
  exact ⟨l, us, h1, by rw [wo_ne (gd.neL h2).symm]; exact h2, Paired.mapP h3 fun _ _ => tsR _ _ _ _ (kpT_tups (kpT_wo gx))⟩⟩
theorem adj_congr {α : Type} {R : Hp → V → α → Prop} {f f' : Pl → List α} {H : Hp} {kvs : List (List L2.Key × V)} {M : List Pl} (h : AdjR R f H kvs M) (e : ∀ p ∈ M, f p = f' p) : AdjR R f' H kvs M := by
  induction h with
  | nil => exact .nil
  | @cons kv p _ _ a _ ih =>
    obtain ⟨h1, l, us, h2, h3, h4⟩ := a
    exact .cons ⟨h1, l, us, h2, h3, by rw [← e p List.mem_cons_self]; exact h4⟩ (ih fun q hq => e q (List.mem_cons_of_mem _ hq))
theorem stF_tgt {rows : List (List Stp)} (R : RowsOk rows) {p : Pl} {t : Stp} (h : t ∈ stF rows p) : vP (tgt t) = [.int t.2, .int (sdN t)] := by
  show [V.int ((t.2.toNat : Nat) : Int), V.int (sdN t)] = _
  rw [Int.toNat_of_nonneg (R.tgt h).1]
def spHasBound (K : PySem.W.Frag) (T : List (Addr × Str)) (b0 : Addr) : Sp := fun vs H Q _ => ∃ (a b : Addr) (rows : List (List Stp)) (ends : List Nat), vs = [.ref a, .ref b] ∧ Dq K H (.ref a) (.tuple (rows.map rowPD)) ∧ RowsOk rows ∧ Grd T b0 H ∧ SqT K H b (ends.map fun n : Nat => V.int (n : Int)) ∧ ends.length ≤ 100000 ∧ (∀ x ∈ ends, x < rows.length) ∧
  ∀ v H', ExtN H H' → Tabs T H' → (v = true ↔ ¬ GapRing rows ends) → Q (.bl v) H'
section
variable {P : Program} {w : World} {K : PySem.W.Frag} {mg : Str → Option Value} {base : Heap}
theorem ok_HasBound {f b0 : Addr} {fd : FuncData} {k : Nat} {T : List (Addr × Str)} {tB : Tok} (F : Fun K "has_bound" "has_bound" sHasBound f fd) (m_START : mg "START" = some (.ref b0)) (hST : ∀ H : Hp, SqT K H b0 [.int 0, .int 0]) (m_BOTH_SIDES : mg "BOTH_SIDES" = some (.int 0 tB))
    (CStepsInRows : Cal P w K mg base k "steps_in_rows" ["rows"] (spStepsInRows P w K T b0)) (CUsefulPlaces : Cal P w K mg base k "useful_places" ["starts", "following", "ends"] (spUsefulP P w K)) (CPlacesOf : Cal P w K mg base k "places_of" ["ends", "steps"] (spPlacesOfP P w K)) (CHasRing : Cal P w K mg base k "has_ring" ["following"] (spHasRingP P w K)) :
    FnOk P w K mg base CX0 (k + 1) f fd ["rows", "ends"] (spHasBound K T b0) := by
  refine F.ok scHasBound (fun vs H Q E h => ?_) (fun cdv A outer s H vs Q E hr h => ?_)
  · obtain ⟨a, b, rows, ends, rfl, _⟩ := h; rfl
  · obtain ⟨a, b, rows, ends, rfl, hv, R, hG, hb, hel, hes, kQ⟩ := h
    have hu := hr.units
    have hu1 : (A.deeper (envOfC "has_bound" (defScope sHasBound) s.heap.objs.size f cdv)).units + 1 < cLine := by omega
    have hu2 : ∀ s2 H2 sc ce fp, (Cx.blk (cxOf CX0 P w K mg base ["rows", "ends", "steps", "following", "kept", "gaps", "place", "_", "further"] "has_bound" (defScope sHasBound) f cdv A outer s H E).nox s2 H2 sc ce fp).A.units + 1 < cLine := fun _ _ _ _ _ => hu1
    refine' ⟨_, (pss_cons (ps_set (i := 2) scHasBound.nd rfl (by first | exact Or.inl rfl | exact Or.inr rfl) (pe_cal CStepsInRows hr (by rfl) pass0 (pa_cons (pv 0) pa_nil)))
      (pss_cons (ps_lock (ps_set (i := 3) scHasBound.nd rfl (by first | exact Or.inl rfl | exact Or.inr rfl) (pe_dcX (own := [("place", 6)]) (g := (gName 6)) (by rfl) (Nat.lt_of_succ_lt hu1) scHasBound.nd (pi_keysX (pv 2)) (blkOk_by (own := [("place", 6)]) (N := ["rows", "ends", "steps", "following", "kept", "gaps", "place", "_", "further"]) (sc := defScope sHasBound) (by decide +kernel)) ⟨(fun _ _ _ _ _ => (pg_name (i := 6) scHasBound.nd rfl (by first | exact Or.inl rfl | exact Or.inr rfl))), (fun _ _ _ _ _ => pts_nil), (fun _ _ _ _ _ => (pv 6)), (fun _ _ _ _ _ => ?in1)⟩)))
      (pss_cons (ps_set (i := 4) scHasBound.nd rfl (by first | exact Or.inl rfl | exact Or.inr rfl) (pe_cal CUsefulPlaces hr (by rfl) pass0 (pa_cons (pe_lst (pa_cons (pe_glob (v := .ref b0) rfl m_START rfl) pa_nil)) (pa_cons (pv 3) (pa_cons (pe_cal CPlacesOf hr (by rfl) pass0 (pa_cons (pv 1) (pa_cons (pv 2) pa_nil))) pa_nil)))))
      (pss_cons (ps_lock (ps_setLc (i := 5) (own := [("place", 6)]) (g := (gName 6)) (by rfl) scHasBound.nd rfl rfl (sw_true rfl rfl rfl (by decide +kernel)) (pi_keysX (pv 4)) (blkOk_by (own := [("place", 6)]) (N := ["rows", "ends", "steps", "following", "kept", "gaps", "place", "_", "further"]) (sc := defScope sHasBound) (by decide +kernel)) (fun _ _ _ _ _ => (pg_name (i := 6) scHasBound.nd rfl (by first | exact Or.inl rfl | exact Or.inr rfl))) (fun _ _ _ _ _ => (pts_one (pt_cmpR op_ne (pe_ix (show IxR _ (rIxT K) from ix_tup) (pv 6) pe_int (fun _ _ => rfl)) (pe_glob (v := .int 0) rfl m_BOTH_SIDES ⟨_, rfl⟩) (nomark _)))) (fun _ _ _ _ _ => (pv 6))))
      (pss_one (ps_ret (pe_not (pe_cal CHasRing hr (by rfl) pass0 (pa_cons (pe_dcX (own := [("place", 6)]) (g := (gName 6)) (by rfl) (Nat.lt_of_succ_lt hu1) scHasBound.nd (pi_list (pv 5)) (blkOk_by (own := [("place", 6)]) (N := ["rows", "ends", "steps", "following", "kept", "gaps", "place", "_", "further"]) (sc := defScope sHasBound) (by decide +kernel)) ⟨(fun _ _ _ _ _ => (pg_name (i := 6) scHasBound.nd rfl (by first | exact Or.inl rfl | exact Or.inr rfl))), (fun _ _ _ _ _ => pts_nil), (fun _ _ _ _ _ => (pv 6)), (fun _ _ _ _ _ => ?in2)⟩) pa_nil))))))))), ?main⟩
    case in1 => exact (pe_lc (own := [("_", 7), ("further", 8)]) (g := (gTup K 2 (gCons (gName 7) (gCons (gName 8) gNil)))) (by rfl) scHasBound.nd (show PI _ _ _ (iList K (tXGet P w K (tVar 2) (tVar 6))) from pi_list (pe_xget (hu2 _ _ _ _ _) (pv 2) (pv 6) (fun _ _ => rfl))) (blk_in (blkOk_by (own := [("_", 7), ("further", 8)]) (N := ["rows", "ends", "steps", "following", "kept", "gaps", "place", "_", "further"]) (sc := { kind := .function, names := [(".0", .local), ("place", .local), ("steps", .free)], isGenerator := false, isCoroutine := false }) (by decide +kernel))) (fun _ _ _ _ _ => (pg_tup (by rfl) (pgs_cons (pg_name (i := 7) scHasBound.nd rfl (by first | exact Or.inl rfl | exact Or.inr rfl)) (pgs_cons (pg_name (i := 8) scHasBound.nd rfl (by first | exact Or.inl rfl | exact Or.inr rfl)) pgs_nil)))) (fun _ _ _ _ _ => pts_nil) (fun _ _ _ _ _ => (pv 8)))
    case in2 => exact (pe_lc (own := [("further", 8)]) (g := (gName 8)) (by rfl) scHasBound.nd (show PI _ _ _ (iList K (tXGet P w K (tVar 3) (tVar 6))) from pi_list (pe_xget (hu2 _ _ _ _ _) (pv 3) (pv 6) (fun _ _ => rfl))) (blk_in (blkOk_by (own := [("further", 8)]) (N := ["rows", "ends", "steps", "following", "kept", "gaps", "place", "_", "further"]) (sc := { kind := .function, names := [(".0", .local), ("place", .local), ("following", .free), ("kept", .free)], isGenerator := false, isCoroutine := false }) (by decide +kernel))) (fun _ _ _ _ _ => (pg_name (i := 8) scHasBound.nd rfl (by first | exact Or.inl rfl | exact Or.inr rfl))) (fun _ _ _ _ _ => (pts_one (pt_cmp (show PC _ _ _ _ (tXIn P w K (tVar 8) (tVar 4)) from pc_xin hu1 (pv 8) (pv 4))))) (fun _ _ _ _ _ => (pv 8)))
    case main =>
    refine ⟨_, rfl, a, rows, rfl, hv, R, hG, fun d kvs M H1 e1 t1 n1 g1 hA nd hM => ?_⟩
    have hb1 := SqT.ext hb e1
    have hMp : ∀ p ∈ M, p ∈ places rows.length := fun p hp => R.rch ((hM p).mp hp)
    have hPl : (places rows.length).length ≤ 5000 := by rw [places_len]; have := R.len; omega
    have hMl : M.length ≤ 5000 := Nat.le_trans (nodup_sub _ M nd hMp) hPl
    have hB := adj_woR (R := StqR) (fun _ _ _ _ ts h => StqR.ts ts h) g1 hA
    have kl := hA.len
    have tg1 := g1
    obtain ⟨xs, gx, ex, hxs⟩ := g1
    have kw := kpT_wo gx
    have hxB : ∀ x ∈ xs, SqT K (wo d H1) x.2.1 (x.1.map kV) := fun x hx => sqT_kpt kw (hxs x hx)
    have xl : xs.length = M.length := by rw [← kl, ← ex, List.length_map]
    have hkv0 : ∀ {i : Nat} {e : KA}, xs[i]? = some e → kvs[i]? = some (e.1, e.2.2) := fun {i e} h => by rw [← ex, List.getElem?_map, h]; rfl
    have sB0 : Same (wo d H1) H1 := wo_sub
    have back : ∀ {G : Hp}, Same (wo d H1) G → G d = some (DX P w d xs) → Same H1 G := fun {G} sm g b o e => by
      by_cases ed : b = d
      · subst ed; rw [gx] at e; cases e; exact g
      · exact sm _ _ (by rw [wo_ne ed]; exact e)
    have nBd : wo d H1 d = none := wo_at
    have lk : ∀ {G : Hp} {o : HO}, Same (wo d H1) G → Same (wo d H1) (upd G d o) := fun {G o} sm b x e => by
      rw [upd_ne (ne_of_none e nBd)]; exact sm _ _ e
    have kpF : ∀ {G : Hp} {c : Addr} {o' : Obj} {φ : Heap → Prop} {u : HO}, G c = some (.frz o' (.ext φ)) → KpT G (upd G c u) := fun {G c o' φ u} g b ys => ⟨fun e => by rw [upd_ne (fun q => by rw [q, g] at e; cases e)]; exact e, fun u e => by rw [upd_ne (fun q => by rw [q, g] at e; cases e)]; exact e⟩
    generalize wo d H1 = B at hB sB0 back nBd lk hxB
    -- what follows each place
    refine ⟨d, DX P w d xs, gx, trivial, fun od => ⟨_, rfl, d, od, xs, rfl, upd_same, fun Fo o0 nF tF => ?_⟩⟩
    have gf0 : upd H1 d (.frz od (DX P w d xs)) d = some (.frz od (DX P w d xs)) := upd_same
    have sB1 := lk (o := .frz od (DX P w d xs)) sB0
    generalize upd H1 d (.frz od (DX P w d xs)) = H2 at nF tF gf0 sB1 ⊢
    have dF : d ≠ Fo := ne_of_none gf0 nF
    refine it_gen (walk_keysX (P := P) (w := w) (d := d) (o := od) (xs := xs)) (fun i H' => ∃ kvf, TabT P w K H' Fo kvf ∧ AdjR (PlS K) (outP (stF rows)) (wo Fo H') kvf (M.take i) ∧ Same H2 H') ⟨[], tF, .nil, same_upd nF⟩ (fun i H' _ z => by obtain ⟨_, _, _, sm⟩ := z; exact sm _ _ gf0) ?_ ?_
    · rintro i v H9 H3 hi ⟨kvf, gF, hA3, sm⟩ ⟨rfl, e0, he0, rfl⟩
      obtain ⟨p, hp, ek⟩ := hA.key (hkv0 he0)
      have hq0 := ex_t' (sB1.trans sm) (hxB e0 (List.mem_of_getElem? he0))
      rw [ek] at hq0
      generalize e0.2.1 = q at hq0 ⊢
      have hq : SqT K H3 q (vP p) := hq0
      have hpM : p ∈ M := List.mem_of_getElem? hp
      obtain ⟨l, us, w1, w2, w3⟩ := hB.get hpM
      have sB3 := sB1.trans sm
      have tk := take_snoc hp
      have hout : p ∉ M.take i := fun z => by
        have nd := nd
        rw [← List.take_append_drop (i + 1) M, tk, List.append_assoc] at nd
        exact (List.nodup_append.mp nd).2.2 p z p (by simp) rfl
      have hul : us.length = (stF rows p).length := w3.len
      have hfl := R.flen p
      refine ⟨rfl, ?_⟩
      dsimp only [tYes]
      refine iteT ⟨_, rfl, .ref d, rfl, _, rfl, d, _, rfl, ⟨kvs, kP p, q, ⟨xs, .inr ⟨od, sm _ _ gf0⟩, ex, fun x hx => ex_t' sB3 (hxB x hx)⟩, rfl, hq, w1.symm⟩, l, rfl, ⟨_, sqOf (sB3 _ _ w2)⟩, fun Z nZ => ?_⟩
      refine lc_it walk_list (LcR (PlS K) Z H3 fun i => (outP (stF rows) p).take i) (LcR.start nZ rfl) (fun i H' _ Lr => sqOf (Lr.sm _ _ (sB3 _ _ w2))) ?_ ?_
      · rintro j v H9 H6 hj Lr ⟨rfl, hv6⟩
        obtain ⟨t, ht, e, p', r, rfl, hab, hp', hr'⟩ := AllR.at w3 hv6
        have hjl : j < (stF rows p).length := (List.getElem?_eq_some_iff.mp ht).1
        refine ⟨e, _, rfl, stOf (Lr.sm _ _ (sB3 _ _ hab)), rfl, _, _, rfl, _, _, rfl, rfl, rfl, ?_⟩
        dsimp only [tYes]
        exact iteT ⟨_, rfl, lcr_some plS_up Lr (Same.refl _) (d := tgt t) (take_snoc (by rw [List.getElem?_map, ht]; rfl)) ⟨r, rfl, by rw [stF_tgt R (List.mem_of_getElem? ht)]; exact stOf (Lr.sw _ _ (sB3 _ _ hr'))⟩ (by omega)⟩
      · rintro H7 Lr
        have s7 := Lr.sm
        obtain ⟨zs, gZ, hzs, _⟩ := Lr.done
        rw [hul, List.take_of_length_le (by rw [List.length_map]; exact Nat.le_refl _)] at hzs
        have ZF : Z ≠ Fo := gF.neN nZ
        have hkf : kvf.length ≤ 5000 := by rw [hA3.len, List.length_take]; omega
        refine ⟨kvf, kP p, q, rfl, ex_t' s7 hq, gF.up s7, by rw [sizeLine_eq]; omega, fun o9 t9 => ?_⟩
        rw [putK_new _ (hA3.no hout)] at t9
        have ts7 : KpT H7 (wo Fo H7) := by
          obtain ⟨ys, gy⟩ := (gF.up s7).at'
          exact kpT_wo gy
        refine ⟨_, t9, ?_, fun b x e => by rw [upd_ne (ne_of_none e nF)]; exact s7 _ _ (sm _ _ e)⟩
        rw [wo_upd, tk]
        exact AdjR.snoc (AdjR.up plS_up (same_wo s7) hA3) (by rw [wo_ne ZF]; exact gZ) (allS_kp ts7 (AllR.up plS_up wo_sub hzs))
    rintro H3 ⟨kvf, gF, hA3, sm⟩
    rw [xl, List.take_length] at hA3
    refine ⟨sm _ _ gf0, ?_⟩
    have gf3 := sm _ _ gf0
    have gd4 : upd H3 d (DX P w d xs) d = some (DX P w d xs) := upd_same
    have ts4 : KpT H3 (upd H3 d (DX P w d xs)) := kpF gf3
    have gF4 : TabT P w K (upd H3 d (DX P w d xs)) Fo kvf := gF.kp ts4 (upd_ne dF.symm)
    have hA4 : AdjR (PlS K) (outP (stF rows)) (upd H3 d (DX P w d xs)) kvf M := Paired.mapP hA3 fun _ _ z => ⟨z.1, by
      obtain ⟨l, us, h1, h2, h3⟩ := z.2
      have h2 := (wo_some h2).2
      exact ⟨l, us, h1, by rw [upd_ne (fun e => by rw [e, gf3] at h2; cases h2)]; exact h2, allS_kp ts4 (AllR.up plS_up wo_sub h3)⟩⟩
    have sH4 := back (lk (o := DX P w d xs) (sB1.trans sm)) gd4
    have td4 : TabT P w K (upd H3 d (DX P w d xs)) d kvs := ⟨xs, gd4, ex, fun x hx => ex_t' sH4 (hxs x hx)⟩
    generalize upd H3 d (DX P w d xs) = H4 at gd4 td4 gF4 hA4 sH4 ⊢
    -- what told pairs use
    refine ⟨(by decide : 1 ≤ sizeLine), fun l nl => ?_⟩
    have s5 := same_upd (o := .lst [V.ref b0]) nl
    have gl5 : upd H4 l (.lst [V.ref b0]) l = some (.lst [V.ref b0]) := upd_same
    generalize upd H4 l (.lst [V.ref b0]) = H5 at s5 gl5 ⊢
    have s15 := sH4.trans s5
    refine ⟨_, rfl, _, rfl, _, rfl, b, d, ends, rows.length, M, kvs, rfl, ex_t' s15 hb1, td4.up s5, hA.keys, hel, hes, by have := R.len; omega, by omega, fun le usE H6 s6 n6 g6 h6 => ?_⟩
    have s16 := s15.trans s6
    have eel : (M.filter fun p => decide (p.1 ∈ ends)).length ≤ 5000 := Nat.le_trans (List.length_filter_le _ _) hMl
    refine ⟨l, Fo, le, [.ref b0], usE, [(0, 0)], M.filter fun p => decide (p.1 ∈ ends), places rows.length, M, kvf, outM (stF rows) M, rfl, s6 _ _ gl5, .cons ⟨b0, rfl, hST _⟩ .nil, (gF4.up s5).up s6, adj_congr (AdjR.up plS_up (s5.trans s6) hA4) fun p hp => (outM_in hp).symm, fun p hp => outM_out hp, g6, h6, hPl, by decide, eel, hMl, fun p hp => by rw [outM_in hp, List.length_map]; exact R.flen p,
      fun s hs => by rw [List.mem_singleton.mp hs]; exact mem_places.mpr ⟨R.pos, .inl rfl⟩, fun s hs => hMp s (List.mem_filter.mp hs).1, hMp, fun p q hq => by
        obtain ⟨t, ht, rfl⟩ := List.mem_map.mp (mem_outM.mp hq).2
        exact (R.tgt ht).2, fun m H7 N s7 n7 g7 ndN hN0 => ?_⟩
    have hN : ∀ p, p ∈ N ↔ Use rows ends p := fun p => (hN0 p).trans (useful_use hM p)
    have hNM : ∀ p ∈ N, p ∈ M := fun p hp => (hM p).mpr ((hN p).mp hp).1
    have hNl : N.length ≤ 5000 := Nat.le_trans (nodup_sub M N ndN hNM) hMl
    have s57 := s6.trans s7
    -- those with a gap
    have tg7 := g7
    obtain ⟨xn, gn, exn, hxn⟩ := g7
    have nl0 : xn.length = N.length := by have := congrArg List.length exn; rwa [List.length_map, List.length_map] at this
    refine ⟨m, DX P w m xn, gn, trivial, fun od4 => ⟨_, rfl, m, od4, xn, rfl, upd_same, fun Gp nG => ?_⟩⟩
    have nm6 : H6 m = none := n7
    have s68 : Same H6 (upd H7 m (.frz od4 (DX P w m xn))) := fun b o h => by rw [upd_ne (ne_of_none h nm6)]; exact s7 _ _ h
    have gf8 : upd H7 m (.frz od4 (DX P w m xn)) m = some (.frz od4 (DX P w m xn)) := upd_same
    have hx8 : ∀ x ∈ xn, SqT K (upd H7 m (.frz od4 (DX P w m xn))) x.2.1 (x.1.map kV) := fun x h => sqt_dx gn (hxn x h)
    generalize upd H7 m (.frz od4 (DX P w m xn)) = H8 at s68 gf8 nG hx8 ⊢
    have mG : m ≠ Gp := ne_of_none gf8 nG
    refine lc_it walk_keysX (LcR (PlS K) Gp H8 fun i => (N.take i).filter fun p => decide (p.2 ≠ 0)) (LcR.start nG rfl) (fun i H' _ Lr => Lr.sm _ _ gf8) ?_ ?_
    · rintro j v H9 H10 hj Lr ⟨rfl, e0, he0, rfl⟩
      have hkv : (oneT N)[j]? = some (e0.1, e0.2.2) := by rw [← exn, List.getElem?_map, he0]; rfl
      obtain ⟨p, hp, ek⟩ : ∃ p, N[j]? = some p ∧ e0.1 = kP p := by
        rw [List.getElem?_map] at hkv
        obtain ⟨p, e1, e2⟩ := Option.map_eq_some_iff.mp hkv
        exact ⟨p, e1, (Prod.mk.inj e2).1.symm⟩
      have hq0 := ex_t' Lr.sm (hx8 e0 (List.mem_of_getElem? he0))
      rw [ek] at hq0
      generalize e0.2.1 = q at hq0 ⊢
      have tk := take_snoc hp
      have hjl : j < N.length := (List.getElem?_eq_some_iff.mp hp).1
      have hq : SqT K H10 q (vP p) := hq0
      have gq : SqT K (wo Gp H10) q (vP p) := by
        obtain ⟨vs, gL⟩ := Lr.at
        exact sqT_kpt (KpT.wo gL) hq
      refine ⟨rfl, .ref q, rfl, q, _, _, .int p.2, rfl, rfl, hq, (by rfl), rfl, _, rfl, ?_⟩
      by_cases z : p.2 = 0
      · rw [decide_eq_true (show V.int p.2 = V.int 0 by rw [z])]
        exact iteF (lcr_none plS_up Lr (Same.refl _) (by rw [tk, List.filter_append, show [p].filter (fun p => decide (p.2 ≠ 0)) = [] by simp [z], List.append_nil]))
      · rw [decide_eq_false (fun e : V.int p.2 = V.int 0 => z (V.int.inj e))]
        exact iteT ⟨_, rfl, lcr_some plS_up Lr (Same.refl _) (d := p) (by rw [tk, List.filter_append, show [p].filter (fun p => decide (p.2 ≠ 0)) = [p] by simp [z]]) ⟨q, rfl, gq⟩ (by omega)⟩
    rintro H10 Lr
    obtain ⟨usG, gG, hGp, _⟩ := Lr.done
    rw [nl0, List.take_length] at hGp
    have sm10 := Lr.sm
    refine ⟨sm10 _ _ gf8, ?_⟩
    have ts11 : KpT H10 (upd H10 m (DX P w m xn)) := kpF (sm10 _ _ gf8)
    have gm11 : TabT P w K (upd H10 m (DX P w m xn)) m (oneT N) := ⟨xn, upd_same, exn, fun x h => sqT_kpt ts11 (ex_t' sm10 (hx8 x h))⟩
    have gG11 : upd H10 m (DX P w m xn) Gp = some (.lst usG) := by rw [upd_ne mG.symm]; exact gG
    have hG11 := allS_kp ts11 (AllR.up plS_up wo_sub hGp)
    have s611 : Same H6 (upd H10 m (DX P w m xn)) := fun b o h => by rw [upd_ne (ne_of_none h nm6)]; exact sm10 _ _ (s68 _ _ h)
    generalize upd H10 m (DX P w m xn) = H11 at gm11 gG11 hG11 s611 ⊢
    have gF11 : TabT P w K H11 Fo kvf := ((gF4.up s5).up s6).up s611
    have hA11 : AdjR (PlS K) (outP (stF rows)) H11 kvf M := AdjR.up plS_up ((s5.trans s6).trans s611) hA4
    generalize hgl : (N.filter fun p => decide (p.2 ≠ 0)) = gl at hG11
    have hglN : ∀ p, p ∈ gl ↔ p ∈ N ∧ p.2 ≠ 0 := fun p => by rw [← hgl, List.mem_filter, decide_eq_true_iff]
    have ndg : gl.Nodup := hgl ▸ ndN.sublist List.filter_sublist
    have lgl : gl.length ≤ 5000 := Nat.le_trans (nodup_sub N gl ndg fun p hp => ((hglN p).mp hp).1) hNl
    have lus : usG.length = gl.length := hG11.len
    -- the steps among them
    refine ⟨.ref Gp, rfl, Gp, rfl, ⟨_, sqOf gG11⟩, fun dc o0 ndc tdc => ?_⟩
    refine it_gen (walk_list (K := K) (a := Gp) (xs := usG)) (fun i H' => ∃ kvg, TabT P w K H' dc kvg ∧ AdjR (PlS K) (fun p => (outP (stF rows) p).filter fun q => decide (q ∈ N)) (wo dc H') kvg (gl.take i) ∧ Same H11 H') ⟨[], tdc, .nil, same_upd ndc⟩ (fun i H' _ z => by obtain ⟨_, _, _, sm⟩ := z; exact sqOf (sm _ _ gG11)) ?_ ?_
    · rintro i v H9 H12 hi ⟨kvg, gdc, hA12, sm⟩ ⟨rfl, hv⟩
      obtain ⟨p, hp, c, rfl, hc⟩ := AllR.at hG11 hv
      have hpg := List.mem_of_getElem? hp
      have hpM := hNM p ((hglN p).mp hpg).1
      obtain ⟨l, us, w1, w2, w3⟩ := hA11.get hpM
      have hc12 := ex_t' sm hc
      have tk := take_snoc hp
      have hout : p ∉ gl.take i := fun z => by
        have nd := ndg
        rw [← List.take_append_drop (i + 1) gl, tk, List.append_assoc] at nd
        exact (List.nodup_append.mp nd).2.2 p z p (by simp) rfl
      have hul : us.length = (outP (stF rows) p).length := w3.len
      have hfl : (outP (stF rows) p).length ≤ 1000 := by rw [List.length_map]; exact R.flen p
      refine ⟨rfl, ?_⟩
      dsimp only [tYes]
      refine iteT ⟨_, rfl, .ref Fo, rfl, _, rfl, Fo, _, rfl, ⟨kvf, kP p, c, (gF11.up sm).g, rfl, hc12, w1.symm⟩, l, rfl, ⟨_, sqOf (sm _ _ w2)⟩, fun Z nZ => ?_⟩
      refine lc_it walk_list (LcR (PlS K) Z H12 fun i => ((outP (stF rows) p).take i).filter fun q => decide (q ∈ N)) (LcR.start nZ rfl) (fun i H' _ Lr => sqOf (Lr.sm _ _ (sm _ _ w2))) ?_ ?_
      · rintro j v H9 H13 hj Lr ⟨rfl, hv6⟩
        obtain ⟨x, hx, e, rfl, he⟩ := AllR.at w3 hv6
        have hjl : j < (outP (stF rows) p).length := (List.getElem?_eq_some_iff.mp hx).1
        have he13 := ex_t' (sm.trans Lr.sm) he
        have tk := take_snoc hx
        refine ⟨rfl, _, rfl, .ref m, rfl, m, _, rfl, ((gm11.up sm).up Lr.sm).get (k := kP x) he13, _, rfl, ?_⟩
        rw [valT_get (v := fun _ => V.bl true)]
        by_cases hin : x ∈ N
        · rw [if_pos hin]
          exact iteT ⟨_, rfl, lcr_some plS_up Lr (Same.refl _) (d := x) (by rw [tk, List.filter_append, show [x].filter (fun q => decide (q ∈ N)) = [x] by simp [hin]]) ⟨e, rfl, ex_t' (sm.trans Lr.sw) he⟩ (by omega)⟩
        · rw [if_neg hin]
          exact iteF (lcr_none plS_up Lr (Same.refl _) (by rw [tk, List.filter_append, show [x].filter (fun q => decide (q ∈ N)) = [] by simp [hin], List.append_nil]))
      · rintro H7 Lr
        have s7 := Lr.sm
        obtain ⟨zs, gZ, hzs, _⟩ := Lr.done
        rw [hul, List.take_length] at hzs
        have Zd : Z ≠ dc := gdc.neN nZ
        have hkf : kvg.length ≤ 5000 := by rw [hA12.len, List.length_take]; omega
        refine ⟨kvg, kP p, c, rfl, ex_t' s7 hc12, gdc.up s7, by rw [sizeLine_eq]; omega, fun o9 t9 => ?_⟩
        rw [putK_new _ (hA12.no hout)] at t9
        have ts7 : KpT H7 (wo dc H7) := by
          obtain ⟨ys, gy⟩ := (gdc.up s7).at'
          exact kpT_wo gy
        refine ⟨_, t9, ?_, fun b x e => by rw [upd_ne (ne_of_none e ndc)]; exact s7 _ _ (sm _ _ e)⟩
        rw [wo_upd, tk]
        exact AdjR.snoc (AdjR.up plS_up (same_wo s7) hA12) (by rw [wo_ne Zd]; exact gZ) (allS_kp ts7 (AllR.up plS_up wo_sub hzs))
    rintro H12 ⟨kvg, gdc, hA12, sm12⟩
    rw [lus, List.take_length] at hA12
    have hg2 : ∀ p, p ∈ gl → (if p ∈ gl then (outP (stF rows) p).filter fun q => decide (q ∈ N) else []) = (outP (stF rows) p).filter fun q => decide (q ∈ N) := fun p hp => if_pos hp
    have mg2 : ∀ p q, q ∈ (if p ∈ gl then (outP (stF rows) p).filter fun q => decide (q ∈ N) else []) ↔ p ∈ gl ∧ q ∈ outP (stF rows) p ∧ q ∈ N := fun p q => by
      by_cases h : p ∈ gl
      · rw [if_pos h, List.mem_filter, decide_eq_true_iff]; exact ⟨fun z => ⟨h, z⟩, fun z => z.2⟩
      · rw [if_neg h]; exact ⟨fun z => (List.not_mem_nil z).elim, fun z => absurd z.1 h⟩
    refine ⟨dc, gl, kvg, fun p => if p ∈ gl then (outP (stF rows) p).filter fun q => decide (q ∈ N) else [], rfl, gdc, adj_congr (AdjR.up plS_up wo_sub hA12) fun p hp => (hg2 p hp).symm, ndg, fun p hp => if_neg hp, fun p q hq => ?_, lgl, fun bv H13 s13 hring => ?_⟩
    · obtain ⟨h1, h2, h3⟩ := (mg2 p q).mp hq
      exact (hglN q).mpr ⟨h3, by rw [gap_side h2 ((hglN p).mp h1).2]; exact ((hglN p).mp h1).2⟩
    · have s613 : Same H1 H13 := s16.trans ((s611.trans sm12).trans s13)
      refine ⟨bv, rfl, kQ (!bv) H13 (e1.trans (ExtN.of s613)) (t1.ext s613) ?_⟩
      have hR : bv = true ↔ GapRing rows ends := hring.trans ⟨fun r => ⟨_, fun p q hq => ?_, r⟩, fun ⟨g, h1, r⟩ => ring_mono (fun p q hq => ?_) r⟩
      · rw [← hR]
        cases bv <;> simp
      · obtain ⟨h1, h2, h3⟩ := (mg2 p q).mp hq
        obtain ⟨h4, h5⟩ := (hglN p).mp h1
        exact ⟨h5, (hN p).mp h4, (hN q).mp h3, h2⟩
      · obtain ⟨h2, h3, h4, h5⟩ := h1 p q hq
        exact (mg2 p q).mpr ⟨(hglN p).mpr ⟨(hN p).mpr h3, h2⟩, h5, (hN q).mpr h4⟩
end
end KP
namespace KP
open PySem PySem.Spec PyProof.Rows L2 EL
open Evl (pss_cut)
def spRowP : Sp := fun vs H Q _ => ∃ a b : Str, vs = [.str a, .str b] ∧ a.length ≤ 1000000 ∧ b.length ≤ 1000000 ∧ ∀ p us H', Same H H' → H' p = some (.tup us) → AllR PrR H' us (rowN a.cps.toList b.cps.toList) → Q (.ref p) H'
section
variable {P : Program} {w : World} {K : PySem.W.Frag} {mg : Str → Option Value} {base : Heap}
theorem ok_RowOfP {f : Addr} {fd : FuncData} {k : Nat} (F : Fun K "row_of" "row_of" sRowOf f fd) (nlen : mg "len" = none) (nmax : mg "max" = none) (ntuple : mg "tuple" = none) (nzip : mg "zip" = none) (m_NO_LETTER : StrAt mg "NO_LETTER" dash) : FnOk P w K mg base CX0 (k + 1) f fd ["left", "right"] spRowP := by
  refine F.ok scRowOf (fun vs H Q E h => ?_) (fun cdv A outer s H vs Q E hr h => ?_)
  · obtain ⟨a, b, rfl, _⟩ := h; rfl
  · obtain ⟨a, b, rfl, ha, hb, q⟩ := h
    have hu := hr.units
    refine ⟨_, (pss_cons (ps_set (i := 2) scRowOf.nd rfl (by first | exact Or.inl rfl | exact Or.inr rfl) (pe_callB (call_max2 rfl) (by rfl) nmax (by decide +kernel) (pa_cons (pe_callB call_len (by rfl) nlen boot_len (pa_cons (pv 0) pa_nil)) (pa_cons (pe_callB call_len (by rfl) nlen boot_len (pa_cons (pv 1) pa_nil)) pa_nil))))
      (pss_one (ps_ret (pe_tupzipR rfl ntuple nzip (pe_bm PySem.F.plainAttrs_str PySem.F.slot_str_ljust PySem.F.type_str_ljust mt_ljust3 (pv 0) (pa_cons (pv 2) (pa_cons (pe_gstr m_NO_LETTER) pa_nil))) (pe_bm PySem.F.plainAttrs_str PySem.F.slot_str_ljust PySem.F.type_str_ljust mt_ljust3 (pv 1) (pa_cons (pv 2) (pa_cons (pe_gstr m_NO_LETTER) pa_nil))))))), ?_⟩
    refine ⟨.str a, rfl, .str a, (a.length : Nat), rfl, ⟨len_sz ha, rfl⟩, .str b, rfl, .str b, (b.length : Nat), rfl, ⟨len_sz hb, rfl⟩, _, _, rfl, ?_⟩
    have em : (if (b.length : Int) > (a.length : Int) then (b.length : Int) else (a.length : Int)) = ((max a.length b.length : Nat) : Int) := by
      split <;> omega
    rw [em]
    generalize hm : max a.length b.length = m
    have hm1 : m ≤ 1000000 := by omega
    refine ⟨.str a, rfl, rfl, _, rfl, a, _, dash, rfl, rfl, pad_ok hm1, rfl, .str b, rfl, rfl, _, rfl, b, _, dash, rfl, rfl, pad_ok hm1, rfl, _, _, rfl, rfl, ?_, ?_, fun p us H3 sm gp dq => ?_⟩
    · rw [← Array.length_toList, ← Array.length_toList, PyProof.Rows.ljustF_list, PyProof.Rows.ljustF_list, List.length_append, List.length_append, List.length_replicate, List.length_replicate, str_len a, str_len b]
      rw [str_len a, str_len b] at hm
      omega
    · rw [← Array.length_toList, PyProof.Rows.ljustF_list, List.length_append, List.length_replicate, str_len a]
      rw [str_len a, str_len b] at hm
      omega
    · refine q p us H3 sm gp ?_
      rw [PyProof.Rows.ljustF_list, PyProof.Rows.ljustF_list] at dq
      have e1 : rowN a.cps.toList b.cps.toList = (a.cps.toList ++ List.replicate ((m : Int).toNat - a.length) (dash.cps.getD 0 0)).zip (b.cps.toList ++ List.replicate ((m : Int).toNat - b.length) (dash.cps.getD 0 0)) := by
        unfold rowN padL
        rw [← str_len a, ← str_len b, hm, Int.toNat_natCast]
        rfl
      rw [e1]; exact dq
end
end KP
namespace EL
open PySem PySem.Spec PyProof.Rows L2
/-- a comprehension's list at D: these items -/
def LcL {α : Type} (R : Hp → V → α → Prop) (D : Addr) (H : Hp) (l : List α) (H' : Hp) : Prop := ∃ vs, H' D = some (.lst vs) ∧ AllR R (wo D H') vs l ∧ Same H (wo D H')
section
variable {α : Type} {R : Hp → V → α → Prop} {D : Addr} {H H1 H2 : Hp} {l : List α}
theorem LcL.start (n : H D = none) : LcL R D H [] (upd H D (.lst [])) := ⟨[], upd_same, .nil, by rw [wo_upd, wo_id n]; exact Same.refl _⟩
theorem LcL.sw (L : LcL R D H l H1) : Same H (wo D H1) := by
  obtain ⟨_, _, _, s⟩ := L
  exact s
theorem LcL.sm (L : LcL R D H l H1) : Same H H1 := L.sw.trans wo_sub
theorem LcL.at (L : LcL R D H l H1) : ∃ vs, H1 D = some (.lst vs) := by
  obtain ⟨vs, h, _⟩ := L
  exact ⟨vs, h⟩
theorem LcL.up (u : UpR R) (L : LcL R D H l H1) (s : Same H1 H2) : LcL R D H l H2 := by
  obtain ⟨vs, h1, h2, h4⟩ := L
  exact ⟨vs, s _ _ h1, AllR.up u (same_wo s) h2, h4.trans (same_wo s)⟩
theorem lcl_push (u : UpR R) {v : V} {x : α} (L : LcL R D H l H1) (s : Same H1 H2) (hv : R (wo D H2) v x) (hl : l.length < sizeLine) :
    ∃ acc, H2 D = some (.lst acc) ∧ acc.length < sizeLine ∧ LcL R D H (l ++ [x]) (upd H2 D (.lst (acc ++ [v]))) := by
  obtain ⟨vs, h1, h2, h4⟩ := L.up u s
  refine ⟨vs, h1, by rw [h2.len]; exact hl, vs ++ [v], upd_same, ?_, ?_⟩
  · rw [wo_upd]; exact AllR.snoc h2 hv
  · rw [wo_upd]; exact h4
end
end EL
namespace KP
open PySem PySem.Spec PyProof.Rows L2 EL LamX NdefX StX
open Evl (pss_cut)
abbrev sStepperInit : Stmt := inClass (topS 40) 0
theorem scStepperInit : FnScope ["self", "rows", "ends", "state", "row", "step", "left", "right", "further"] ["self", "rows", "ends"] (defScope sStepperInit) := ⟨rfl, rfl, rfl, by decide +kernel, rfl, by decide +kernel, by decide +kernel⟩
/-- a stepper's own dict -/
def sf (r e s t : V) : List (Str × V) := [("rows", r), ("ends", e), ("steps", s), ("table", t)]
theorem sput2 (r e : V) : putF "ends" e (putF "rows" r []) = ([("rows", r), ("ends", e)] : List (Str × V)) := by
  have h1 : ¬ ("rows" : Str) = "ends" := by decide +kernel
  simp only [putF, if_neg h1]
theorem sput3 (r e s : V) : putF "steps" s (putF "ends" e (putF "rows" r [])) = ([("rows", r), ("ends", e), ("steps", s)] : List (Str × V)) := by
  have h1 : ¬ ("rows" : Str) = "steps" := by decide +kernel
  have h2 : ¬ ("ends" : Str) = "steps" := by decide +kernel
  rw [sput2]
  simp only [putF, if_neg h1, if_neg h2]
theorem sput4 (r e s t : V) : putF "table" t (putF "steps" s (putF "ends" e (putF "rows" r []))) = sf r e s t := by
  have h1 : ¬ ("rows" : Str) = "table" := by decide +kernel
  have h2 : ¬ ("ends" : Str) = "table" := by decide +kernel
  have h3 : ¬ ("steps" : Str) = "table" := by decide +kernel
  rw [sput3]
  simp only [putF, if_neg h1, if_neg h2, if_neg h3, sf]
structure STxt (K : PySem.W.Frag) (C : Addr) : Prop where
  cl : Cls K C
  nR : NoAttr K C "rows"
  nE : NoAttr K C "ends"
  nS : NoAttr K C "steps"
  nT : NoAttr K C "table"
/-- a step with its state -/
def stD4 (x : Nat × Stp) : PyData := .tuple [.int (x.1 : Int), .str ⟨#[x.2.1.1]⟩, .str ⟨#[x.2.1.2]⟩, .int x.2.2]
def stepsTo (rows : List (List Stp)) (i : Nat) : List (Nat × Stp) := (List.range i).flatMap fun j => (rows.getD j []).map fun t => (j, t)
theorem stepsTo_succ (rows : List (List Stp)) (i : Nat) : stepsTo rows (i + 1) = stepsTo rows i ++ (rows.getD i []).map fun t => (i, t) := by
  unfold stepsTo
  rw [List.range_succ, List.flatMap_append]; simp
theorem stepsTo_len {rows : List (List Stp)} (R : RowsOk rows) : ∀ i, (stepsTo rows i).length ≤ i * 1000
  | 0 => Nat.zero_le _
  | i + 1 => by
    rw [stepsTo_succ, List.length_append, List.length_map, Nat.succ_mul]
    have := stepsTo_len R i
    have h : (rows.getD i []).length ≤ 1000 := by
      rw [List.getD_eq_getElem?_getD]
      cases e : rows[i]? with
      | none => simp
      | some ts => exact (R.each ts (List.mem_of_getElem? e)).1
    omega
abbrev kS (p : Nat × Nat) : List L2.Key := [.inr ⟨#[p.1]⟩, .inr ⟨#[p.2]⟩]
abbrev vS (p : Nat × Nat) : List V := [.str ⟨#[p.1]⟩, .str ⟨#[p.2]⟩]
theorem kS_inj {p q : Nat × Nat} (h : kS p = kS q) : p = q := by
  obtain ⟨a, b⟩ := p; obtain ⟨c, d⟩ := q
  have h1 := List.cons.inj h
  have e1 : (⟨#[a]⟩ : Str) = ⟨#[c]⟩ := Sum.inr.inj h1.1
  have e2 : (⟨#[b]⟩ : Str) = ⟨#[d]⟩ := Sum.inr.inj (List.cons.inj h1.2).1
  have f1 : a = c := by injection e1 with e1; simpa using e1
  have f2 : b = d := by injection e2 with e2; simpa using e2
  rw [f1, f2]
/-- the steps of a state, by their signs -/
abbrev tabT (ts : List Stp) : List (List L2.Key × V) := ts.map fun t => (kS t.1, V.int t.2)
theorem tabT_get {ts : List Stp} {p : Nat × Nat} : valV (tabT ts) (kS p) = (ts.find? fun t => decide (t.1 = p)).map fun t => V.int t.2 := by
  induction ts with
  | nil => rfl
  | cons t r ih =>
    by_cases e : t.1 = p
    · rw [List.find?_cons, decide_eq_true e]
      exact valV_eq (show kS t.1 = kS p by rw [e])
    · rw [List.find?_cons, decide_eq_false e]
      exact (valV_ne fun z => e (kS_inj z)).trans ih
theorem tabT_snoc {ts : List Stp} {t : Stp} (h : ∀ u ∈ ts, u.1 ≠ t.1) : putK (tabT ts) (kS t.1) (.int t.2) = tabT (ts ++ [t]) := by
  rw [putK_new _ (by
    rw [tabT_get, List.find?_eq_none.mpr fun u hu => by simpa using h u hu]; rfl)]
  show _ = List.map _ (ts ++ [t])
  rw [List.map_append]; rfl
def TbR (H : Hp) (v : V) (ts : List Stp) : Prop := ∃ d, v = .ref d ∧ H d = some (.dT (tabT ts))
theorem tbR_up : UpR TbR := fun _ _ _ _ s h => by
  obtain ⟨b, h1, h2⟩ := h
  exact ⟨b, h1, s _ _ h2⟩
/-- a stepper of these rows and ends stands at x -/
structure StpAt (K : PySem.W.Frag) (C : Addr) (H : Hp) (x : Addr) (rows : List (List Stp)) (ends : List Nat) : Prop where
  at_ : ∃ dx a b st tb tl, H x = some (.ins C dx (sf (.ref a) (.ref b) (.ref st) (.ref tb))) ∧ Dq K H (.ref a) (.tuple (rows.map rowPD)) ∧ SqT K H b (ends.map fun n : Nat => V.int (n : Int)) ∧
    Dq K H (.ref st) (.tuple ((stepsTo rows rows.length).map stD4)) ∧ H tb = some (.tup tl) ∧ AllR TbR H tl rows
theorem StpAt.ext {K : PySem.W.Frag} {C : Addr} {H H' : Hp} {x : Addr} {rows : List (List Stp)} {ends : List Nat} (h : StpAt K C H x rows ends) (e : ExtN H H') : StpAt K C H' x rows ends := by
  obtain ⟨dx, a, b, st, tb, tl, h1, h2, h3, h4, h5, h6⟩ := h.at_
  refine ⟨dx, a, b, st, tb, tl, e _ _ h1 (fun _ z => nomatch z), Dq.ext h2 e, SqT.ext h3 e, Dq.ext h4 e, e _ _ h5 (fun _ z => nomatch z), Paired.mapP h6 fun v ts z => ?_⟩
  obtain ⟨d, q1, q2⟩ := z
  exact ⟨d, q1, e _ _ q2 fun _ z => nomatch z⟩
theorem StpAt.up {K : PySem.W.Frag} {C : Addr} {H H' : Hp} {x : Addr} {rows : List (List Stp)} {ends : List Nat} (h : StpAt K C H x rows ends) (s : Same H H') : StpAt K C H' x rows ends := h.ext (ExtN.of s)
/-- right parts of a stepper -/
structure ShOk (rows : List (List Stp)) (ends : List Nat) : Prop where
  R : RowsOk rows
  nd : ∀ ts ∈ rows, (ts.map (·.1)).Nodup
  rd : rowsD (.tuple (rows.map rowPD)) = true
  rz : Sz (.tuple (rows.map rowPD))
  ed : statesD (rows.length : Int) (.tuple (ends.map fun n : Nat => .int (n : Int))) = true
  ez : Sz (.tuple (ends.map fun n : Nat => .int (n : Int)))
  el : ends.length ≤ 100000
  es : ∀ x ∈ ends, x < rows.length
  gr : ¬ GapRing rows ends
def spSInit (K : PySem.W.Frag) (C : Addr) (T : List (Addr × Str)) (b0 : Addr) : Sp := fun vs H Q _ => ∃ (p dx a b : Addr) (rows : List (List Stp)) (ends : List Nat) (Hb : Hp), vs = [.ref p, .ref a, .ref b] ∧ H p = some (.ins C dx []) ∧ Hb p = none ∧ Same Hb H ∧ Dq K Hb (.ref a) (.tuple (rows.map rowPD)) ∧ SqT K Hb b (ends.map fun n : Nat => V.int (n : Int)) ∧ ShOk rows ends ∧ Grd T b0 H ∧
  ∀ H', ExtN Hb H' → Tabs T H' → StpAt K C H' p rows ends → Q .non H'
/-- a step with its state, as data -/
def SdR (K : PySem.W.Frag) (H : Hp) (v : V) (x : Nat × Stp) : Prop := Dq K H v (stD4 x)
theorem sdR_up {K : PySem.W.Frag} : UpR (SdR K) := fun _ _ _ _ s h => Dq.up h s
theorem sdR_all {K : PySem.W.Frag} {H : Hp} {vs : List V} {l : List (Nat × Stp)} (h : AllR (SdR K) H vs l) : DqAll K H vs (l.map stD4) := by
  induction h with
  | nil => exact .nil
  | cons a _ ih => exact .cons a ih
theorem noLDs_sd : ∀ l : List (Nat × Stp), noLDs (l.map stD4) = true := noLDs_map fun _ => rfl
theorem dqAll_numsOf {K : PySem.W.Frag} {H : Hp} : ∀ ns : List Nat, DqAll K H (ns.map fun n : Nat => V.int (n : Int)) (ns.map fun n : Nat => PyData.int (n : Int))
  | [] => .nil
  | _ :: r => .cons (.int _) (dqAll_numsOf r)
theorem _root_.EL.KpT.ins {H : Hp} {p C dx : Addr} {fs : List (Str × V)} {o : HO} (h : H p = some (.ins C dx fs)) : EL.KpT H (upd H p o) := fun b xs => ⟨fun e => by rw [upd_ne (fun q => by rw [q, h] at e; cases e)]; exact e, fun o e => by rw [upd_ne (fun q => by rw [q, h] at e; cases e)]; exact e⟩
theorem tabs_ins {T : List (Addr × Str)} {H : Hp} {p C dx : Addr} {fs : List (Str × V)} {o : HO} (t : Tabs T H) (h : H p = some (.ins C dx fs)) : Tabs T (upd H p o) := fun q hq => by
  obtain ⟨ps, h1, h2, h3⟩ := t q hq
  refine ⟨ps, by rw [upd_ne (fun e => by rw [e, h] at h1; cases h1)]; exact h1, h2, fun pos cv hc => ?_⟩
  obtain ⟨c, e1, e2⟩ := h3 pos cv hc
  exact ⟨c, e1, by rw [upd_ne (fun e => by rw [e, h] at e2; unfold CodeO at e2; cases e2)]; exact e2⟩
section
variable {P : Program} {w : World} {K : PySem.W.Frag} {mg : Str → Option Value} {base : Heap}
theorem ok_StepperInit {f C b0 : Addr} {fd : FuncData} {k : Nat} {T : List (Addr × Str)} (F : Fun K "__init__" "Stepper.__init__" sStepperInit f fd) (S : STxt K C) (ntuple : mg "tuple" = none) (nlen : mg "len" = none) (nenumerate : mg "enumerate" = none)
    (CIsTupleOfRows : Cal P w K mg base k "is_tuple_of_rows" ["thing"] (spLook K rowsD)) (CIsTupleOfStates : Cal P w K mg base k "is_tuple_of_states" ["thing", "size"] (spLookN K statesD)) (CHasBound : Cal P w K mg base k "has_bound" ["rows", "ends"] (spHasBound K T b0)) :
    FnOk P w K mg base CX0 (k + 1) f fd ["self", "rows", "ends"] (spSInit K C T b0) := by
  refine F.ok scStepperInit (fun vs H Q E h => ?_) (fun cdv A outer s H vs Q E hr h => ?_)
  · obtain ⟨p, dx, a, b, rows, ends, Hb, rfl, _⟩ := h; rfl
  · obtain ⟨p, dx, a, b, rows, ends, Hb, rfl, hp, nbp, sHb, hv, hb, O, hG, kQ⟩ := h
    have hu := hr.units
    have hu1 : (A.deeper (envOfC "Stepper.__init__" (defScope sStepperInit) s.heap.objs.size f cdv)).units + 1 < cLine := by omega
    have hu0 : (A.deeper (envOfC "Stepper.__init__" (defScope sStepperInit) s.heap.objs.size f cdv)).units < cLine := by omega
    refine' ⟨_, (pss_cons (ps_if (pt_not (pt_val (pe_cal CIsTupleOfRows hr (by rfl) pass0 (pa_cons (pv 1) pa_nil)))) (pss_one ps_never) pss_nil)
      (pss_cons (ps_if (pt_not (pt_val (pe_cal CIsTupleOfStates hr (by rfl) pass0 (pa_cons (pv 2) (pa_cons (pe_callB call_len (by rfl) nlen boot_len (pa_cons (pv 1) pa_nil)) pa_nil))))) (pss_one ps_never) pss_nil)
      (pss_cons (ps_if (pt_not (pt_val (pe_cal CHasBound hr (by rfl) pass0 (pa_cons (pv 1) (pa_cons (pv 2) pa_nil))))) (pss_one ps_never) pss_nil)
      (pss_cons (ps_fld (pv 0) (pv 1) rfl)
      (pss_cons (ps_fld (pv 0) (pv 2) rfl)
      (pss_cons (ps_fld (pv 0) (pe_callTy call_tuple_of (by rfl) ntuple boot_tuple (pa_cons (pe_lc2 (own := [("state", 3), ("row", 4), ("step", 5)]) (vs1 := [5]) (g := (gTup K 2 (gCons (gName 3) (gCons (gName 4) gNil)))) (g1 := (gName 5)) (by rfl) scStepperInit.nd (pi_enumT (by rfl) nenumerate (pa_cons (pv 1) pa_nil)) (blkOk_by (own := [("state", 3), ("row", 4), ("step", 5)]) (N := ["self", "rows", "ends", "state", "row", "step", "left", "right", "further"]) (sc := defScope sStepperInit) (by decide +kernel)) (by decide) (fun _ _ _ _ _ => (pg_tup (by rfl) (pgs_cons (pg_name (i := 3) scStepperInit.nd rfl (by first | exact Or.inl rfl | exact Or.inr rfl)) (pgs_cons (pg_name (i := 4) scStepperInit.nd rfl (by first | exact Or.inl rfl | exact Or.inr rfl)) pgs_nil)))) (fun _ _ _ _ _ => pts_nil) (fun _ _ _ _ _ => (show PI _ _ _ (iTup K (tVar 4)) from pi_tup (pv 4))) (fun _ _ _ _ _ => (pg_name (i := 5) scStepperInit.nd rfl (by first | exact Or.inl rfl | exact Or.inr rfl))) (fun _ _ _ _ _ => pts_nil) (fun _ _ _ _ _ => (pe_tup (pa_cons (pv 3) (show PA _ _ (tStar K (tVar 5) tNil) from pa_star (pv 5) pa_nil))))) pa_nil)) rfl)
      (pss_one (ps_fld (pv 0) (pe_callTy call_tuple_of (by rfl) ntuple boot_tuple (pa_cons (pe_lc (own := [("row", 4)]) (g := (gName 4)) (by rfl) scStepperInit.nd (pi_tup (pv 1)) (blkOk_by (own := [("row", 4)]) (N := ["self", "rows", "ends", "state", "row", "step", "left", "right", "further"]) (sc := defScope sStepperInit) (by decide +kernel)) (fun _ _ _ _ _ => (pg_name (i := 4) scStepperInit.nd rfl (by first | exact Or.inl rfl | exact Or.inr rfl))) (fun _ _ _ _ _ => pts_nil) (fun _ _ _ _ _ => ?in1)) pa_nil)) rfl)))))))), ?main⟩
    case in1 => exact (pe_dcU (own := [("left", 6), ("right", 7), ("further", 8)]) (g := (gTup K 3 (gCons (gName 6) (gCons (gName 7) (gCons (gName 8) gNil))))) (by rfl) hu0 scStepperInit.nd (show PI _ _ _ (iTup K (tVar 4)) from pi_tup (pv 4)) (blk_in (blkOk_by (own := [("left", 6), ("right", 7), ("further", 8)]) (N := ["self", "rows", "ends", "state", "row", "step", "left", "right", "further"]) (sc := { kind := .function, names := [(".0", .local), ("row", .local)], isGenerator := false, isCoroutine := false }) (by decide +kernel))) ⟨(fun _ _ _ _ _ => (pg_tup (by rfl) (pgs_cons (pg_name (i := 6) scStepperInit.nd rfl (by first | exact Or.inl rfl | exact Or.inr rfl)) (pgs_cons (pg_name (i := 7) scStepperInit.nd rfl (by first | exact Or.inl rfl | exact Or.inr rfl)) (pgs_cons (pg_name (i := 8) scStepperInit.nd rfl (by first | exact Or.inl rfl | exact Or.inr rfl)) pgs_nil))))), (fun _ _ _ _ _ => pts_nil), (fun _ _ _ _ _ => (pe_tup (pa_cons (pv 6) (pa_cons (pv 7) pa_nil)))), (fun _ _ _ _ _ => (pv 8))⟩)
    case main =>
    have two : 2 ≤ sizeLine := by decide
    have hv0 := hv.up sHb
    have hb0 := ex_t' sHb hb
    have hbD : Dq K H (.ref b) (.tuple (ends.map fun n : Nat => .int (n : Int))) := .tup hb0 (dqAll_numsOf ends)
    obtain ⟨a', xs, e, hxs, hxa⟩ := dq_tup hv
    cases e
    have hxl : xs.length = rows.length := by rw [hxa.len, List.length_map]
    refine ⟨_, rfl, .ref a, _, rfl, hv0, O.rz, fun H1 s1 => ⟨_, rfl, ?_⟩⟩
    rw [O.rd]
    refine iteF ⟨_, rfl, .ref a, rfl, .ref a, rows.length, rfl, .inr ⟨xs, ex_t' (sHb.trans s1) hxs, hxl.symm⟩, .ref b, _, (rows.length : Int), rfl, hbD.up s1, O.ez, fun H2 s2 => ⟨_, rfl, ?_⟩⟩
    rw [O.ed]
    have s12 := s1.trans s2
    refine iteF ⟨_, rfl, _, rfl, a, b, rows, ends, rfl, hv0.up s12, O.R, hG.up s12, ex_t' s12 hb0, O.el, O.es, fun vb H4 e4 t4 hvb => ⟨_, rfl, ?_⟩⟩
    obtain rfl : vb = true := hvb.mpr O.gr
    have e04 := (ExtN.of s12).trans e4
    have gp4 : H4 p = some (.ins C dx []) := e04 _ _ hp fun _ z => nomatch z
    have eB4 := (ExtN.of sHb).trans e04
    refine iteF ⟨_, rfl, _, rfl, p, C, dx, [], rfl, gp4, S.cl, S.nR, (by show 0 < 1000; decide), ?_⟩
    refine ⟨_, rfl, _, rfl, p, C, dx, _, rfl, upd_same, S.cl, S.nE, (by show 1 < 1000; decide), ?_⟩
    have gp6 : upd (upd H4 p (.ins C dx (putF "rows" (.ref a) []))) p (.ins C dx (putF "ends" (.ref b) (putF "rows" (.ref a) []))) p = some (.ins C dx (putF "ends" (.ref b) (putF "rows" (.ref a) []))) := upd_same
    have eB6 : ExtN Hb (upd (upd H4 p (.ins C dx (putF "rows" (.ref a) []))) p (.ins C dx (putF "ends" (.ref b) (putF "rows" (.ref a) [])))) := fun c o h n => by
      rw [upd_ne (ne_of_none h nbp), upd_ne (ne_of_none h nbp)]; exact eB4 _ _ h n
    have t6 : Tabs T (upd (upd H4 p (.ins C dx (putF "rows" (.ref a) []))) p (.ins C dx (putF "ends" (.ref b) (putF "rows" (.ref a) [])))) := tabs_ins (tabs_ins t4 gp4) upd_same
    generalize upd (upd H4 p (.ins C dx (putF "rows" (.ref a) []))) p (.ins C dx (putF "ends" (.ref b) (putF "rows" (.ref a) []))) = H6 at gp6 eB6 t6 ⊢
    have hxs6 := SqT.ext hxs eB6
    have hxa6 := DqAll.ext hxa eB6
    have rowAt : ∀ {G : Hp} {i : Nat} {v : V}, Same H6 G → xs[i]? = some v → ∃ ts r rs, rows[i]? = some ts ∧ v = .ref r ∧ SqT K G r rs ∧ DqAll K G rs (ts.map stp) ∧ rs.length = ts.length := fun {G i v} sm h => by
      obtain ⟨d, h1, h2⟩ := hxa6.at h
      obtain ⟨ts, h3, rfl⟩ := mv_get h1
      obtain ⟨r, rs, rfl, h4, h5⟩ := dq_tup (h2.up sm)
      exact ⟨ts, r, rs, h3, rfl, h4, h5, by rw [h5.len, List.length_map]⟩
    have rowL : ∀ {i : Nat} {ts : List Stp}, rows[i]? = some ts → ts.length ≤ 1000 := fun h => (O.R.each _ (List.mem_of_getElem? h)).1
    have rlen := O.R.len
    -- all steps, with their states
    refine ⟨_, rfl, a, xs, rfl, hxs6, fun D nD => ?_⟩
    refine it_gen (walk_enumT (K := K) (a := a) (ys := xs)) (fun i H' => LcL (SdR K) D H6 (stepsTo rows i) H') (LcL.start nD) (fun i H' _ L => ex_t' L.sm hxs6) ?_ ?_
    · rintro i x H9 H7 hi L ⟨T0, v1, v2, rfl, nT, rfl, q1, q2⟩
      cases q1
      have s7 := same_upd (o := .tup [V.int (i : Int), v2]) nT
      have g7 : upd H9 T0 (.tup [V.int (i : Int), v2]) T0 = some (.tup [V.int (i : Int), v2]) := upd_same
      have L7 := L.up sdR_up s7
      generalize upd H9 T0 (.tup [V.int (i : Int), v2]) = H7 at g7 L7 ⊢
      obtain ⟨ts, r, rs, hts, rfl, hrs, hra, hrl⟩ := rowAt L7.sm q2
      have tl := rowL hts
      have iR : i < rows.length := (List.getElem?_eq_some_iff.mp hts).1
      have sl := stepsTo_len O.R i
      refine ⟨T0, _, rfl, stOf g7, rfl, _, _, rfl, _, _, rfl, rfl, rfl, ?_⟩
      dsimp only [tYes]
      refine iteT ⟨.ref r, rfl, r, rfl, ⟨_, hrs⟩, ?_⟩
      obtain ⟨vsD, gD7⟩ := L7.at
      have kw : EL.KpT H7 (wo D H7) := EL.KpT.wo gD7
      have hrsW := sqT_kpt kw hrs
      have hraW := dqAll_kpt kw _ _ hra (noLDs_map (fun _ => rfl) ts)
      refine it_gen (walk_tup (K := K) (a := r) (xs := rs)) (fun j H' => LcL (SdR K) D H6 (stepsTo rows i ++ (ts.take j).map fun t => (i, t)) H' ∧ Same (wo D H7) (wo D H')) ⟨by rw [List.take_zero, List.map_nil, List.append_nil]; exact L7, Same.refl _⟩ (fun j H' _ z => ex_t' (z.2.trans wo_sub) hrsW) ?_ ?_
      · rintro j v H9 H8 hj ⟨L8, sw⟩ ⟨rfl, hv8⟩
        obtain ⟨d, hd, hdq⟩ := hraW.at hv8
        obtain ⟨t, ht, rfl⟩ := mv_get hd
        obtain ⟨e', rfl, hst⟩ := dq_stp (hdq.up (sw.trans wo_sub))
        refine ⟨rfl, ?_⟩
        dsimp only [tYes]
        refine iteT ⟨_, rfl, _, rfl, e', _, rfl, .inl hst, (by show 4 ≤ sizeLine; decide), fun p3 n3 => ?_⟩
        have s3 := same_upd (o := .tup ([V.int (i : Int)] ++ ([V.str ⟨#[t.1.1]⟩, .str ⟨#[t.1.2]⟩, .int t.2] ++ []))) n3
        have w3 : SdR K (wo D (upd H8 p3 (.tup [V.int (i : Int), .str ⟨#[t.1.1]⟩, .str ⟨#[t.1.2]⟩, .int t.2]))) (.ref p3) (i, t) := tup_wo L8.at n3 (.cons (.int _) (.cons (.str _) (.cons (.str _) (.cons (.int _) .nil))))
        have ll : (stepsTo rows i ++ (ts.take j).map fun t => (i, t)).length < sizeLine := by
          rw [List.length_append, List.length_map, List.length_take, sizeLine_eq]
          have : i * 1000 ≤ 1600 * 1000 := Nat.mul_le_mul_right _ (by omega)
          omega
        obtain ⟨acc, a1, a2, a3⟩ := lcl_push sdR_up L8 s3 (x := (i, t)) w3 ll
        refine ⟨acc, a1, a2, ?_, ?_⟩
        · rw [take_snoc ht, List.map_append, ← List.append_assoc]; exact a3
        · rw [wo_upd]; exact sw.trans (same_wo s3)
      · rintro H8 ⟨L8, _⟩
        rw [hrl, List.take_length] at L8
        rw [stepsTo_succ, List.getD_eq_getElem?_getD, hts]
        exact L8
    · rintro H7 L
      rw [hxl] at L
      have sw : Same H6 H7 := L.sm
      obtain ⟨us, gD, hus, _⟩ := L
      refine ⟨D, us, rfl, .inl ⟨sqOf gD, fun st nst => ?_⟩⟩
      have s8 := same_upd (o := .tup us) nst
      have hst8 : Dq K (upd H7 st (.tup us)) (.ref st) (.tuple ((stepsTo rows rows.length).map stD4)) := .tup (stOf upd_same) ((sdR_all hus).up (wo_sub.trans s8))
      have gp8 := s8 _ _ (sw _ _ gp6)
      have t8 := (t6.ext sw).ext s8
      have eB8 := eB6.trans (ExtN.of (sw.trans s8))
      generalize upd H7 st (.tup us) = H8 at hst8 gp8 t8 eB8 ⊢
      refine ⟨_, rfl, p, C, dx, _, rfl, gp8, S.cl, S.nS, (by rw [sput2]; show 2 < 1000; decide), ?_⟩
      have hst9 := dq_kpt (KpT.ins (o := .ins C dx (putF "steps" (.ref st) (putF "ends" (.ref b) (putF "rows" (.ref a) [])))) gp8) _ _ hst8 (noLDs_sd _)
      have gp9 : upd H8 p (.ins C dx (putF "steps" (.ref st) (putF "ends" (.ref b) (putF "rows" (.ref a) [])))) p = some (.ins C dx (putF "steps" (.ref st) (putF "ends" (.ref b) (putF "rows" (.ref a) [])))) := upd_same
      have t9 := tabs_ins (o := .ins C dx (putF "steps" (.ref st) (putF "ends" (.ref b) (putF "rows" (.ref a) [])))) t8 gp8
      have eB9 : ExtN Hb (upd H8 p (.ins C dx (putF "steps" (.ref st) (putF "ends" (.ref b) (putF "rows" (.ref a) []))))) := fun c o h n => by
        rw [upd_ne (ne_of_none h nbp)]; exact eB8 _ _ h n
      generalize upd H8 p (.ins C dx (putF "steps" (.ref st) (putF "ends" (.ref b) (putF "rows" (.ref a) [])))) = H9 at hst9 gp9 t9 eB9 ⊢
      have hxs9 := SqT.ext hxs eB9
      have hxa9 := DqAll.ext hxa eB9
      -- the table
      refine ⟨_, rfl, a, rfl, ⟨_, hxs9⟩, fun D2 nD2 => ?_⟩
      refine lc_it walk_tup (LcR TbR D2 H9 fun i => rows.take i) (LcR.start nD2 rfl) (fun i H' _ Lr => ex_t' Lr.sm hxs9) ?_ ?_
      · rintro i v H' H10 hi Lr ⟨rfl, hv10⟩
        obtain ⟨d, h1, h2⟩ := hxa9.at hv10
        obtain ⟨ts, hts, rfl⟩ := mv_get h1
        obtain ⟨r, rs, rfl, hrs, hra⟩ := dq_tup (h2.up Lr.sm)
        have hrl : rs.length = ts.length := by rw [hra.len, List.length_map]
        have tl := rowL hts
        have ndt := O.nd _ (List.mem_of_getElem? hts)
        refine ⟨rfl, ?_⟩
        dsimp only [tYes]
        refine iteT ⟨.ref r, rfl, r, rfl, ⟨_, hrs⟩, fun dc ndc => ?_⟩
        refine it_gen (walk_tup (K := K) (a := r) (xs := rs)) (fun j H' => H' dc = some (.dT (tabT (ts.take j))) ∧ Same H10 H') ⟨upd_same, same_upd ndc⟩ (fun j H' _ z => ex_t' z.2 hrs) ?_ ?_
        · rintro j v H' H11 hj ⟨gdc, sm⟩ ⟨rfl, hv11⟩
          obtain ⟨d, hd, hdq⟩ := hra.at hv11
          obtain ⟨t, ht, rfl⟩ := mv_get hd
          obtain ⟨e', rfl, hst'⟩ := dq_stp (hdq.up sm)
          refine ⟨e', _, rfl, hst', rfl, _, _, rfl, _, _, rfl, _, _, rfl, rfl, rfl, ?_⟩
          dsimp only [tYes]
          refine iteT ⟨_, rfl, _, rfl, two, fun p1 n1 => ?_⟩
          have s1 := same_upd (o := .tup [V.str ⟨#[t.1.1]⟩, .str ⟨#[t.1.2]⟩]) n1
          refine ⟨_, rfl, tabT (ts.take j), kS t.1, p1, rfl, upd_same, s1 _ _ gdc, by rw [List.length_map, List.length_take, sizeLine_eq]; omega, ?_⟩
          rw [tabT_snoc (ts := ts.take j) (t := t) fun u hu e => by
            have nd := ndt
            rw [← List.take_append_drop (j + 1) ts, take_snoc ht, List.append_assoc, List.map_append] at nd
            exact (List.nodup_append.mp nd).2.2 u.1 (List.mem_map.mpr ⟨u, hu, rfl⟩) t.1 (by simp) e, ← take_snoc ht]
          exact ⟨upd_same, fun c o h => by rw [upd_ne (ne_of_none h ndc)]; exact s1 _ _ (sm _ _ h)⟩
        · rintro H11 ⟨gdc, sm⟩
          rw [hrl, List.take_length] at gdc
          obtain ⟨acc, gA⟩ := Lr.at
          have dD : dc ≠ D2 := fun e => by rw [e, gA] at ndc; cases ndc
          exact lcr_some tbR_up Lr sm (d := ts) (take_snoc hts) ⟨dc, rfl, by rw [wo_ne dD]; exact gdc⟩ (by omega)
      · rintro H10 Lr
        have sm10 := Lr.sm
        obtain ⟨tl, gT, hT, _⟩ := Lr.done
        rw [hxl, List.take_length] at hT
        refine ⟨D2, tl, rfl, .inl ⟨sqOf gT, fun tb ntb => ?_⟩⟩
        have s11 := same_upd (o := .tup tl) ntb
        have gtb : upd H10 tb (.tup tl) tb = some (.tup tl) := upd_same
        have hT11 := AllR.up tbR_up (wo_sub.trans s11) hT
        have s911 := sm10.trans s11
        generalize upd H10 tb (.tup tl) = H11 at s11 gtb hT11 s911 ⊢
        have gp11 := s911 _ _ gp9
        refine ⟨_, rfl, p, C, dx, _, rfl, gp11, S.cl, S.nT, (by rw [sput3]; show 3 < 1000; decide), ?_⟩
        have eBf : ExtN Hb (upd H11 p (.ins C dx (putF "table" (.ref tb) (putF "steps" (.ref st) (putF "ends" (.ref b) (putF "rows" (.ref a) [])))))) := fun c o h n => by
          rw [upd_ne (ne_of_none h nbp)]; exact s911 _ _ (eB9 _ _ h n)
        have kf := KpT.ins (o := .ins C dx (putF "table" (.ref tb) (putF "steps" (.ref st) (putF "ends" (.ref b) (putF "rows" (.ref a) []))))) gp11
        refine kQ _ eBf (tabs_ins (t9.ext s911) gp11) ⟨dx, a, b, st, tb, tl, by rw [upd_same, sput4], Dq.ext hv eBf, SqT.ext hb eBf, dq_kpt kf _ _ (hst9.up s911) (noLDs_sd _), by rw [upd_ne (fun e => by rw [e, gp11] at gtb; cases gtb)]; exact gtb, Paired.mapP hT11 fun v ts z => ?_⟩
        obtain ⟨d, q1, q2⟩ := z
        exact ⟨d, q1, by rw [upd_ne (fun e => by rw [e, gp11] at q2; cases q2)]; exact q2⟩
end
end KP
namespace KP
open PySem PySem.Spec PyProof.Rows L2 EL LamX NdefX
open Evl (pss_cut)
abbrev sStepperTells : Stmt := inClass (topS 40) 1
theorem scStepperTells : FnScope ["self", "left", "right", "state", "signs"] ["self", "left", "right"] (defScope sStepperTells) := ⟨rfl, rfl, rfl, by decide +kernel, rfl, by decide +kernel, by decide +kernel⟩
theorem sf_r (r e s t : V) : (sf r e s t).lookup ("rows" : Str) = some r := by simp [sf, List.lookup]
theorem sf_e (r e s t : V) : (sf r e s t).lookup ("ends" : Str) = some e := by
  have h1 : (("ends" : Str) == "rows") = false := by decide +kernel
  simp [sf, List.lookup, h1]
theorem sf_s (r e s t : V) : (sf r e s t).lookup ("steps" : Str) = some s := by
  have h1 : (("steps" : Str) == "rows") = false := by decide +kernel
  have h2 : (("steps" : Str) == "ends") = false := by decide +kernel
  simp [sf, List.lookup, h1, h2]
theorem sf_t (r e s t : V) : (sf r e s t).lookup ("table" : Str) = some t := by
  have h1 : (("table" : Str) == "rows") = false := by decide +kernel
  have h2 : (("table" : Str) == "ends") = false := by decide +kernel
  have h3 : (("table" : Str) == "steps") = false := by decide +kernel
  simp [sf, List.lookup, h1, h2, h3]
theorem sf_miss (r e s t : V) {f : Str} (h1 : (f == ("rows" : Str)) = false) (h2 : (f == ("ends" : Str)) = false) (h3 : (f == ("steps" : Str)) = false) (h4 : (f == ("table" : Str)) = false) : (sf r e s t).lookup f = none := by
  simp [sf, List.lookup, h1, h2, h3, h4]
theorem goN_ltR {rows : List (List Stp)} (R : RowsOk rows) : ∀ {l : List (Nat × Nat)} {s s' : Nat}, s < rows.length → goN rows s l = some s' → s' < rows.length
  | [], s, s', h, e => by cases e; exact h
  | p :: r, s, s', h, e => by
    unfold goN at e
    cases e2 : (rows.getD s []).find? fun t => decide (t.1 = p) with
    | none => rw [e2] at e; cases e
    | some t =>
      rw [e2] at e
      have hr : rows.getD s [] ∈ rows := by
        rw [List.getD_eq_getElem?_getD, List.getElem?_eq_getElem h]; exact List.getElem_mem h
      exact goN_ltR R ((R.each _ hr).2 t (List.mem_of_find?_eq_some e2)).2 e
def spTells (K : PySem.W.Frag) (C : Addr) : Sp := fun vs H Q _ => ∃ (x : Addr) (a b : Str) (rows : List (List Stp)) (ends : List Nat), vs = [.ref x, .str a, .str b] ∧ StpAt K C H x rows ends ∧ RowsOk rows ∧ a.length ≤ 1000000 ∧ b.length ≤ 1000000 ∧
  ∀ H', Same H H' → Q (.bl (readN rows ends (rowN a.cps.toList b.cps.toList))) H'
section
variable {P : Program} {w : World} {K : PySem.W.Frag} {mg : Str → Option Value} {base : Heap}
theorem ok_StepperTells {f C : Addr} {fd : FuncData} {k : Nat} (F : Fun K "tells" "Stepper.tells" sStepperTells f fd) (S : STxt K C) (CRowOf : Cal P w K mg base k "row_of" ["left", "right"] spRowP) : FnOk P w K mg base CX0 (k + 1) f fd ["self", "left", "right"] (spTells K C) := by
  refine F.ok scStepperTells (fun vs H Q E h => ?_) (fun cdv A outer s H vs Q E hr h => ?_)
  · obtain ⟨x, a, b, rows, ends, rfl, _⟩ := h; rfl
  · obtain ⟨x, a, b, rows, ends, rfl, hS, R, hla, hlb, kQ⟩ := h
    have hu := hr.units
    have hu1 : (A.deeper (envOfC "Stepper.tells" (defScope sStepperTells) s.heap.objs.size f cdv)).units + 1 < cLine := by omega
    refine ⟨_, (pss_cons (ps_set (i := 3) scStepperTells.nd rfl (by first | exact Or.inl rfl | exact Or.inr rfl) pe_int)
      (pss_cons (ps_for PassesOwn.never rfl (pi_tup (pe_cal CRowOf hr (by rfl) pass0 (pa_cons (pv 1) (pa_cons (pv 2) pa_nil)))) (pg_name (i := 4) scStepperTells.nd rfl (by first | exact Or.inl rfl | exact Or.inr rfl)) (pss_cons (ps_if (pt_cmp (pc_dnotin hu1 (pv 4) (pe_ix (show IxR _ (rIxT K) from ix_tup) (pe_fld (pv 0) rfl) (pv 3) (fun _ _ => rfl)))) (pss_one (ps_ret pe_bl)) pss_nil)
      (pss_one (ps_set (i := 3) scStepperTells.nd rfl (by first | exact Or.inl rfl | exact Or.inr rfl) (pe_dget hu1 (pe_ix (show IxR _ (rIxT K) from ix_tup) (pe_fld (pv 0) rfl) (pv 3) (fun _ _ => rfl)) (pv 4) (fun _ _ => rfl))))))
      (pss_one (ps_ret (pe_cmpR op_in_seq (pv 3) (pe_fld (pv 0) rfl) (by rfl)))))), ?_⟩
    obtain ⟨dx, ar, ae, st, tb, tl, gx, _, hse, _, gtb, hT⟩ := hS.at_
    refine ⟨_, rfl, _, rfl, a, b, rfl, hla, hlb, fun pl us H1 s1 gpl hus => ?_⟩
    generalize hps : rowN a.cps.toList b.cps.toList = ps at hus kQ
    have ul : us.length = ps.length := hus.len
    have tll : tl.length = rows.length := hT.len
    refine ⟨pl, rfl, ⟨_, stOf gpl⟩, ?_⟩
    refine for_it walk_tup (fun j σ H' => ∃ (s0 : Nat) (y4 : Option V), σ = [some (.ref x), some (.str a), some (.str b), some (.int (s0 : Int)), y4] ∧ Same H1 H' ∧ goN rows 0 (ps.take j) = some s0)
      ⟨0, _, rfl, Same.refl _, rfl⟩ (fun j σ H' _ z => by obtain ⟨_, _, _, sm, _⟩ := z; exact stOf (sm _ _ gpl)) ?_ ?_
    · rintro j v σ H9 H2 hj ⟨s0, y4, rfl, sm, hg⟩ ⟨rfl, hv⟩
      obtain ⟨p, hp, c, rfl, hc⟩ := AllR.at hus hv
      have s12 := s1.trans sm
      have hs0 := goN_ltR R R.pos hg
      obtain ⟨ts, hts⟩ : ∃ ts, rows[s0]? = some ts := ⟨_, List.getElem?_eq_getElem hs0⟩
      have tsG : rows.getD s0 [] = ts := by rw [List.getD_eq_getElem?_getD, hts]; rfl
      obtain ⟨vd, hvd⟩ : ∃ vd, tl[s0]? = some vd := ⟨_, List.getElem?_eq_getElem (by omega)⟩
      obtain ⟨ts', hts', d, rfl, gd⟩ := AllR.at hT hvd
      rw [hts] at hts'; cases hts'
      have hc2 : H2 c = some (.tup ((kS p).map kV)) := sm _ _ hc
      have gs : goN rows 0 (ps.take (j + 1)) = (ts.find? fun t => decide (t.1 = p)).map fun t => t.2.toNat := by
        rw [take_snoc hp, goN_snoc, hg]
        show ((rows.getD s0 []).find? fun t => decide (t.1 = p)).map _ = _
        rw [tsG]
      refine ⟨_, rfl, _, rfl, x, C, dx, _, _, rfl, s12 _ _ gx, S.cl, S.nT, sf_t _ _ _ _, _, rfl, tb, _, _, .ref d, rfl, rfl, stOf (s12 _ _ gtb), atI_nat hvd, d, _, rfl, DGet.t (s12 _ _ gd) hc2, _, rfl, ?_⟩
      rw [tabT_get]
      cases ef : ts.find? fun t => decide (t.1 = p) with
      | none =>
        rw [ef] at gs
        refine iteT ?_
        have : readN rows ends ps = false := by
          unfold readN
          have e := goN_none (r := ps.drop (j + 1)) gs
          rw [List.take_append_drop] at e
          rw [e]
        rw [this] at kQ
        exact kQ H2 s12
      | some t =>
        rw [ef] at gs
        have h0 := ((R.each _ (List.mem_of_getElem? hts)).2 t (List.mem_of_find?_eq_some ef)).1
        have e0 : V.int t.2 = V.int ((t.2.toNat : Nat) : Int) := by rw [Int.toNat_of_nonneg h0]
        refine iteF ⟨_, rfl, x, C, dx, _, _, rfl, s12 _ _ gx, S.cl, S.nT, sf_t _ _ _ _, _, rfl, tb, _, _, .ref d, rfl, rfl, stOf (s12 _ _ gtb), atI_nat hvd, _, rfl, d, .int t.2, rfl, by
          have := DGet.t (k := kS p) (s12 _ _ gd) hc2
          rw [tabT_get, ef] at this
          exact this, ?_⟩
        rw [e0]
        exact ⟨t.2.toNat, _, rfl, sm, gs⟩
    · rintro σ H2 ⟨s0, y4, rfl, sm, hg⟩
      rw [ul, List.take_length] at hg
      have s12 := s1.trans sm
      refine ⟨.int (s0 : Int), rfl, _, rfl, x, C, dx, _, _, rfl, s12 _ _ gx, S.cl, S.nE, sf_e _ _ _ _, ?_⟩
      have rd : readN rows ends ps = decide (s0 ∈ ends) := by unfold readN; rw [hg]
      rw [rd] at kQ
      refine ⟨ae, _, rfl, .inr (ex_t' s12 hse), rfl, flat_nums _, ?_⟩
      rw [if_neg (by decide), inV_nums]
      exact kQ H2 s12
end
end KP
namespace KP
open PySem PySem.Spec PyProof.Rows L2 EL LamX NdefX
open Evl (pss_cut)
abbrev sStepperIter : Stmt := inClass (topS 40) 3
theorem scStepperIter : FnScope ["self"] ["self"] (defScope sStepperIter) := ⟨rfl, rfl, rfl, by decide +kernel, rfl, by decide +kernel, by decide +kernel⟩
section
variable {P : Program} {w : World} {K : PySem.W.Frag} {mg : Str → Option Value} {base : Heap}
theorem ok_StepperIter {f C : Addr} {fd : FuncData} {k : Nat} (F : Fun K "__iter__" "Stepper.__iter__" sStepperIter f fd) (S : STxt K C) (niter : mg "iter" = none) : FnIt P w K mg base (k + 1) f fd C "steps" := by
  refine FnIt.of F scStepperIter (fun cdv A outer s H a dx t fs zs Q hr ha hf ht kQ => ?_)
  refine ⟨_, (pss_one (ps_ret (pe_callB call_iterT (by rfl) niter (by decide +kernel) (pa_cons (pe_fld (pv 0) rfl) pa_nil)))), ?_⟩
  exact ⟨_, rfl, a, C, dx, _, _, rfl, ha, S.cl, S.nS, hf, t, zs, rfl, ht, fun it n le => kQ it n le⟩
end
/-- the class, callable -/
structure CalS (P : Program) (w : World) (K : PySem.W.Frag) (mg : Str → Option Value) (base : Heap) (k : Nat) (C : Addr) (T : List (Addr × Str)) (b0 : Addr) where
  f : Addr
  fd : FuncData
  mke : Mk K C f
  ok : FnOk P w K mg base CX0 k f fd ["self", "rows", "ends"] (spSInit K C T b0)
  g : mg "Stepper" = some (.ref C)
  b : Binds K fd ["self", "rows", "ends"] []
/-- Stepper(..) of what is right -/
def tStp (K : PySem.W.Frag) (C : Addr) (T : List (Addr × Str)) (b0 : Addr) (t : TA) : TE := fun σ H Q => t σ H fun vs H1 => ∃ (a b : Addr) (rows : List (List Stp)) (ends : List Nat), vs = [.ref a, .ref b] ∧ Dq K H1 (.ref a) (.tuple (rows.map rowPD)) ∧ SqT K H1 b (ends.map fun n : Nat => V.int (n : Int)) ∧ ShOk rows ends ∧ Grd T b0 H1 ∧
  ∀ x H', ExtN H1 H' → Tabs T H' → H1 x = none → StpAt K C H' x rows ends → Q (.ref x) H'
theorem pe_stp {X : Cx} {k : Nat} {C b0 : Addr} {T : List (Addr × Str)} {E : XK} {e : Expr} {es : List Expr} {t : TA} {p pos : Pos} (CC : CalS X.prog X.w X.K X.mg X.base k C T b0) (hr : Room (k + 1) X.A) (hg : Gl X "Stepper") (hx : Passes CX0 X E) (ha : PA X (e :: es) t)
    (he : starEach (e :: es) X.env = (false, eval e X.env) :: starEach es X.env := by rfl) (hpl : (backTo pos (starEach es X.env)).any (·.1) = false := by rfl) :
    PE X (.Call (.Name "Stepper" p) (e :: es) [] pos) (tStp X.K C T b0 t) := by
  refine ⟨fun pins s σ H Q I h => (pe_make CC.mke CC.ok hr hg CC.g CC.b .nil hx (EL.PA.cl ha) (by decide) he hpl).run pins s σ H Q I ?_⟩
  refine ⟨_, h, ?_⟩
  rintro vs H1 ⟨a, b, rows, ends, rfl, d1, d2, hO, hG, kQ⟩
  intro x dx nx ndx nex
  have s2 : Same H1 (upd (upd H1 dx (.own x)) x (.ins C dx [])) := fun b o e => by
    rw [upd_ne (ne_of_none e nx), upd_ne (ne_of_none e ndx)]; exact e
  have gx : upd (upd H1 dx (.own x)) x (.ins C dx []) x = some (.ins C dx []) := upd_same
  generalize upd (upd H1 dx (.own x)) x (.ins C dx []) = H2 at s2 gx ⊢
  exact ⟨x, dx, a, b, rows, ends, H1, rfl, gx, nx, s2, d1, d2, hO, hG.up s2, fun H3 e3 t3 hS => ⟨rfl, kQ x H3 e3 t3 nx hS⟩⟩
end KP
namespace KP
open PySem PySem.Spec PyProof.Rows L2 EL
open Evl (pss_cut)
abbrev sLBeside : Stmt := topS 57
theorem scLBeside : FnScope ["_law_x", "_law_y", "_law_many"] ["_law_x", "_law_y"] (defScope sLBeside) := ⟨rfl, rfl, rfl, by decide +kernel, rfl, by decide +kernel, by decide +kernel⟩
theorem cutS_tk (t : Str) (n : Nat) : cutS t none (some (n : Int)) = ⟨(t.cps.toList.take n).toArray⟩ := by
  unfold cutS
  rw [HT.sIx_nat, HT.sIx_none, List.drop_zero, Nat.sub_zero]
  show (⟨(t.cps.toList.take (min n t.length)).toArray⟩ : Str) = _
  rw [show t.cps.toList.take (min n t.length) = t.cps.toList.take n by
    rw [List.take_eq_take_iff, ← str_len]; omega]
theorem pad_take (x : List Nat) (m : Nat) (h : x.length ≤ m) : (x ++ List.replicate m 45).take m = padL x m := by
  unfold padL
  rw [List.take_append, List.take_of_length_le h, List.take_replicate, Nat.min_eq_left (Nat.sub_le _ _)]
section
variable {P : Program} {w : World} {K : PySem.W.Frag} {mg : Str → Option Value} {base : Heap}
theorem ok_LBeside {f : Addr} {fd : FuncData} {k : Nat} (F : Fun K "_law_beside" "_law_beside" sLBeside f fd) (nlen : mg "len" = none) (nmax : mg "max" = none) (nlist : mg "list" = none) (nzip : mg "zip" = none) : FnOk P w K mg base CX0 (k + 1) f fd ["_law_x", "_law_y"] (spBeside K) := by
  refine F.ok scLBeside (fun vs H Q E h => ?_) (fun cdv A outer s H vs Q E hr h => ?_)
  · obtain ⟨x, y, rfl, _⟩ := h; rfl
  · obtain ⟨x, y, rfl, hx, hy, kQ⟩ := h
    have hu := hr.units
    refine ⟨_, (pss_cons (ps_set (i := 2) scLBeside.nd rfl (by first | exact Or.inl rfl | exact Or.inr rfl) (pe_callB (call_max2 rfl) (by rfl) nmax (by decide +kernel) (pa_cons (pe_callB call_len (by rfl) nlen boot_len (pa_cons (pv 0) pa_nil)) (pa_cons (pe_callB call_len (by rfl) nlen boot_len (pa_cons (pv 1) pa_nil)) pa_nil))))
      (pss_one (ps_ret (pe_lstzip rfl nlist nzip (pe_slice sl_str (pe_op op_add_str (pv 0) (pe_op op_rep1 pe_str (pv 2))) po_none (po_some (pv 2))) (pe_slice sl_str (pe_op op_add_str (pv 1) (pe_op op_rep1 pe_str (pv 2))) po_none (po_some (pv 2))))))), ?_⟩
    refine ⟨.str x, rfl, .str x, (x.length : Nat), rfl, ⟨len_sz (by omega), rfl⟩, .str y, rfl, .str y, (y.length : Nat), rfl, ⟨len_sz (by omega), rfl⟩, _, _, rfl, ?_⟩
    have em : (if (y.length : Int) > (x.length : Int) then (y.length : Int) else (x.length : Int)) = ((max x.length y.length : Nat) : Int) := by
      split <;> omega
    rw [em]
    have hm1 : max x.length y.length ≤ 1000 := by omega
    have hmx : x.length ≤ max x.length y.length := by omega
    have hmy : y.length ≤ max x.length y.length := by omega
    have hmd : max x.cps.toList.length y.cps.toList.length = max x.length y.length := by rw [← str_len, ← str_len]
    generalize max x.length y.length = m at hm1 hmx hmy hmd ⊢
    have lx : (x ++ (⟨(List.replicate m 45).toArray⟩ : Str)).length ≤ 3000 := by
      rw [str_len]
      show (x.cps ++ (List.replicate m 45).toArray).toList.length ≤ 3000
      rw [Array.toList_append, List.length_append, List.length_replicate, ← str_len]; omega
    have ly : (y ++ (⟨(List.replicate m 45).toArray⟩ : Str)).length ≤ 3000 := by
      rw [str_len]
      show (y.cps ++ (List.replicate m 45).toArray).toList.length ≤ 3000
      rw [Array.toList_append, List.length_append, List.length_replicate, ← str_len]; omega
    have cutx : cutS (x ++ (⟨(List.replicate m 45).toArray⟩ : Str)) none (some (m : Int)) = ⟨(padL x.cps.toList m).toArray⟩ := by
      rw [cutS_tk]
      show (⟨((x.cps ++ (List.replicate m 45).toArray).toList.take m).toArray⟩ : Str) = _
      rw [Array.toList_append, pad_take _ _ (by rw [← str_len]; exact hmx)]
    have cuty : cutS (y ++ (⟨(List.replicate m 45).toArray⟩ : Str)) none (some (m : Int)) = ⟨(padL y.cps.toList m).toArray⟩ := by
      rw [cutS_tk]
      show (⟨((y.cps ++ (List.replicate m 45).toArray).toList.take m).toArray⟩ : Str) = _
      rw [Array.toList_append, pad_take _ _ (by rw [← str_len]; exact hmy)]
    have lrep : (⟨(List.replicate m 45).toArray⟩ : Str).length = m := by
      rw [str_len]; show (List.replicate m 45).length = m; exact List.length_replicate
    have px : (padL x.cps.toList m).length = m := padL_len (by rw [← str_len]; exact hmx)
    have py : (padL y.cps.toList m).length = m := padL_len (by rw [← str_len]; exact hmy)
    refine ⟨_, rfl, _, rfl, 45, m, rfl, rfl, by omega, x, _, rfl, rfl, by rw [lrep, sizeLine_eq]; omega, _, rfl, (m : Int), rfl, _, rfl, by rw [sizeLine_eq]; omega, _, rfl, _, rfl, 45, m, rfl, rfl, by omega, y, _, rfl, rfl, by rw [lrep, sizeLine_eq]; omega, _, rfl, (m : Int), rfl, _, rfl, by rw [sizeLine_eq]; omega, _, _, rfl, rfl, ?_, ?_, fun p us H3 sm np gp ap => kQ p us H3 sm gp ?_⟩
    · rw [cutx, cuty]
      show (padL x.cps.toList m).toArray.size = (padL y.cps.toList m).toArray.size
      rw [List.size_toArray, List.size_toArray, px, py]
    · rw [cutx]
      show (padL x.cps.toList m).toArray.size ≤ 1000000
      rw [List.size_toArray, px]; omega
    · rw [cutx, cuty] at ap
      have e : rowN x.cps.toList y.cps.toList = (padL x.cps.toList m).zip (padL y.cps.toList m) := by
        unfold rowN
        rw [hmd]
      rw [e]
      have key : ∀ {vs : List V} {ps : List (Nat × Nat)}, AllR PrR H3 vs ps → DqAll K H3 vs (ps.map pr) := by
        intro vs ps h
        induction h with
        | nil => exact .nil
        | cons a _ ih => exact .cons a.dq ih
      exact key ap
end
end KP
namespace KP
open PySem PySem.Spec PyProof.Rows L2 EL
open PySem.W (dataLt dataLe alike alikeAll keyToksAll dataLt_cons dataLt_tuple dataLt_int dataLt_str)
/-- the order of steps -/
abbrev LtS (t u : Stp) : Prop := t.1.1 < u.1.1 ∨ (t.1.1 = u.1.1 ∧ (t.1.2 < u.1.2 ∨ (t.1.2 = u.1.2 ∧ t.2 < u.2)))
abbrev LtQ (x y : Nat × Stp) : Prop := x.1 < y.1 ∨ (x.1 = y.1 ∧ LtS x.2 y.2)
theorem eqv_sign (a b : Nat) : PyData.eqv (.str ⟨#[a]⟩) (.str ⟨#[b]⟩) = decide (a = b) := by
  have : ((⟨#[a]⟩ : Str) = ⟨#[b]⟩) ↔ a = b := ⟨fun h => by injection h with h; simpa using h, fun h => by rw [h]⟩
  rw [show PyData.eqv (.str ⟨#[a]⟩) (.str ⟨#[b]⟩) = decide ((⟨#[a]⟩ : Str) = ⟨#[b]⟩) by simp only [PyData.eqv]; rfl]
  exact decide_eq_decide.mpr this
theorem lt_sign (a b : Nat) : dataLt (.str ⟨#[a]⟩) (.str ⟨#[b]⟩) = decide (a < b) := by
  rw [dataLt_str]
  refine decide_eq_decide.mpr ?_
  show ([a] < [b]) ↔ a < b
  constructor
  · intro h
    rcases List.cons_lt_cons_iff.mp h with h | ⟨_, h⟩
    · exact h
    · exact absurd h (List.lt_irrefl _)
  · intro h; exact List.cons_lt_cons_iff.mpr (.inl h)
theorem eqv_num (a b : Int) : PyData.eqv (.int a) (.int b) = decide (a = b) := by simp only [PyData.eqv]; rfl
theorem lex_nil : PyProof.Rows.lexLt itemOrd (keyToksAll []) (keyToksAll []) = false := lex_irrefl _
theorem lt_stp (t u : Stp) : dataLt (stp t) (stp u) = decide (LtS t u) := by
  unfold stp
  rw [dataLt_tuple, dataLt_cons (by simp [alike]), dataLt_cons (by simp [alike]), dataLt_cons (by simp [alike]), lex_nil, eqv_sign, eqv_sign, lt_sign, lt_sign, dataLt_int]
  rw [eqv_num]
  rw [Bool.eq_iff_iff]
  by_cases e1 : t.1.1 = u.1.1
  · by_cases e2 : t.1.2 = u.1.2
    · by_cases e3 : t.2 = u.2
      · simp [e1, e2, e3]
      · simp [e1, e2, e3]
    · simp [e1, e2]
  · simp [e1]
theorem lt_stD4 (x y : Nat × Stp) : dataLt (stD4 x) (stD4 y) = decide (LtQ x y) := by
  have h := lt_stp x.2 y.2
  unfold stp at h
  rw [dataLt_tuple] at h
  unfold stD4
  rw [dataLt_tuple, dataLt_cons (by simp [alike]), h, dataLt_int]
  rw [eqv_num]
  rw [Bool.eq_iff_iff]
  by_cases e1 : x.1 = y.1
  · simp [e1]
  · have e2 : ¬ (x.1 : Int) = (y.1 : Int) := by omega
    simp [e1, e2]
theorem le_stp (t u : Stp) : dataLe false stp t u = true ↔ ¬ LtS u t := by
  show (!dataLt (stp u) (stp t)) = true ↔ _
  rw [lt_stp, Bool.not_eq_true', decide_eq_false_iff_not]
theorem le_stD4 (t u : Nat × Stp) : dataLe false stD4 t u = true ↔ ¬ LtQ u t := by
  show (!dataLt (stD4 u) (stD4 t)) = true ↔ _
  rw [lt_stD4, Bool.not_eq_true', decide_eq_false_iff_not]
theorem alike_stp (ts : List Stp) : PySem.W.AllAlike (ts.map stp) := .of fun b b' => by simp [stp, alike, alikeAll]
theorem alike_stD4 (ts : List (Nat × Stp)) : PySem.W.AllAlike (ts.map stD4) := .of fun b b' => by simp [stD4, alike, alikeAll]
theorem sortable_stp (ts : List Stp) : PySem.W.Sortable (ts.map stp) := .tuples fun b => ⟨_, _, rfl⟩
theorem sortable_stD4 (ts : List (Nat × Stp)) : PySem.W.Sortable (ts.map stD4) := .tuples fun b => ⟨_, _, rfl⟩
theorem ltP_stp {t u : Stp} (h : ¬ LtS u t) (n : t.1 ≠ u.1) : ltP (stp t) (stp u) = true := by
  show (if V.str ⟨#[t.1.1]⟩ = V.str ⟨#[u.1.1]⟩ then decide ((⟨#[t.1.2]⟩ : Str).cps.toList < (⟨#[u.1.2]⟩ : Str).cps.toList) else decide ((⟨#[t.1.1]⟩ : Str).cps.toList < (⟨#[u.1.1]⟩ : Str).cps.toList)) = true
  have e1 : (V.str ⟨#[t.1.1]⟩ = V.str ⟨#[u.1.1]⟩) ↔ t.1.1 = u.1.1 := ⟨fun h => by simpa using h, fun h => by rw [h]⟩
  have l (a b : Nat) : decide ((⟨#[a]⟩ : Str).cps.toList < (⟨#[b]⟩ : Str).cps.toList) = decide (a < b) := by
    rw [← dataLt_str, lt_sign]
  have n2 : ¬ (t.1.1 = u.1.1 ∧ t.1.2 = u.1.2) := fun z => n (Prod.ext z.1 z.2)
  by_cases e : t.1.1 = u.1.1
  · rw [if_pos (e1.mpr e), l, decide_eq_true_iff]; omega
  · rw [if_neg fun z => e (e1.mp z), l, decide_eq_true_iff]; omega
theorem ascP_of : ∀ {l : List Stp}, l.Pairwise (fun a b => ¬ LtS b a) → (l.map (·.1)).Nodup → ascP (l.map stp) = true
  | [], _, _ => rfl
  | [_], _, _ => rfl
  | a :: b :: r, h, n => by
    have h1 := List.pairwise_cons.mp h
    have n1 : a.1 ∉ (b :: r).map (·.1) ∧ ((b :: r).map (·.1)).Nodup := List.nodup_cons.mp n
    have ih := ascP_of (l := b :: r) h1.2 n1.2
    have hb := ltP_stp (h1.1 b List.mem_cons_self) fun e => n1.1 (by rw [e]; exact List.mem_cons_self)
    unfold ascP at ih ⊢
    simp only [List.map_cons, List.drop_succ_cons, List.drop_zero, List.zip_cons_cons, List.all_cons, id_eq] at ih ⊢
    rw [hb, ih]; rfl
/-- one sorted row of the same things -/
theorem sorted_one {α : Type} {le : α → α → Prop} (anti : ∀ a b, le a b → le b a → a = b) : ∀ {l m : List α}, l.Perm m → l.Pairwise le → m.Pairwise le → l = m
  | [], m, p, _, _ => (List.nil_perm.mp p).symm
  | a :: l, [], p, _, _ => (List.perm_nil.mp p)
  | a :: l, b :: m, p, hl, hm => by
    obtain ⟨h1, h2⟩ := List.pairwise_cons.mp hl
    obtain ⟨h3, h4⟩ := List.pairwise_cons.mp hm
    have e : a = b := by
      rcases List.mem_cons.mp (p.mem_iff.mp List.mem_cons_self) with z | z
      · exact z
      · rcases List.mem_cons.mp (p.mem_iff.mpr List.mem_cons_self) with y | y
        · exact y.symm
        · exact anti a b (h1 b y) (h3 a z)
    subst e
    rw [sorted_one anti (List.perm_cons a |>.mp p) h2 h4]
theorem anti_stD4 (x y : Nat × Stp) (h1 : ¬ LtQ y x) (h2 : ¬ LtQ x y) : x = y := by
  obtain ⟨i, ⟨a, b⟩, n⟩ := x
  obtain ⟨j, ⟨c, d⟩, k⟩ := y
  simp only [LtQ, LtS] at h1 h2
  have : i = j ∧ a = c ∧ b = d ∧ n = k := by omega
  obtain ⟨rfl, rfl, rfl, rfl⟩ := this; rfl
/-- a drawn sheet, or one by hand: all that makes it a machine -/
structure Drawn (rows : List (List Stp)) (ends : List Nat) : Prop where
  pos : 0 < rows.length
  len : rows.length ≤ 5
  each : ∀ ts ∈ rows, ts.length ≤ 8 ∧ (ts.map (·.1)).Nodup ∧ ts.Pairwise (fun a b => ¬ LtS b a) ∧ ∀ t ∈ ts, (okS t.1.1 && okS t.1.2) = true ∧ t.1 ≠ (45, 45) ∧ 0 ≤ t.2 ∧ t.2.toNat < rows.length
  en : ends.Pairwise (· < ·)
  el : ends.length ≤ 5
  es : ∀ x ∈ ends, x < rows.length
  up : ∃ rk : Nat → Int, ∀ i ts t, rows[i]? = some ts → t ∈ ts → sdN t ≠ 0 → rk i < rk t.2.toNat
theorem Drawn.getD {rows : List (List Stp)} {ends : List Nat} (D : Drawn rows ends) {i : Nat} (h : rows.getD i [] ≠ []) : ∃ ts, rows[i]? = some ts ∧ rows.getD i [] = ts := by
  rw [List.getD_eq_getElem?_getD] at h ⊢
  cases e : rows[i]? with
  | none => rw [e] at h; exact absurd rfl h
  | some ts => exact ⟨ts, rfl, rfl⟩
theorem Drawn.R {rows : List (List Stp)} {ends : List Nat} (D : Drawn rows ends) : RowsOk rows :=
  ⟨D.pos, Nat.le_trans D.len (by decide), fun ts h => ⟨Nat.le_trans (D.each ts h).1 (by decide), fun t ht => ((D.each ts h).2.2.2 t ht).2.2⟩⟩
theorem Drawn.sheet {rows : List (List Stp)} {ends : List Nat} (D : Drawn rows ends) : SheetOk rows ends :=
  ⟨D.pos, Nat.le_trans D.len (by decide), fun ts h => ⟨Nat.le_trans (D.each ts h).1 (by decide), fun t ht => by
    obtain ⟨z1, _, z3⟩ := (D.each ts h).2.2.2 t ht
    rw [Bool.and_eq_true] at z1
    exact ⟨ok_lt z1.1, ok_lt z1.2, z3⟩⟩, Nat.le_trans D.el (by decide)⟩
theorem Drawn.step {n : Nat} {t : Stp} (h1 : (okS t.1.1 && okS t.1.2) = true) (h2 : t.1 ≠ (45, 45)) (h3 : 0 ≤ t.2) (h4 : t.2.toNat < n) : stepD (n : Int) (stp t) = true := by
  have e1 : isPairD (.tuple [.str ⟨#[t.1.1]⟩, .str ⟨#[t.1.2]⟩]) = true := (pairD_iff _).mpr ⟨t.1, rfl, h1⟩
  have e2 : PyData.eqv (.tuple [.str ⟨#[t.1.1]⟩, .str ⟨#[t.1.2]⟩]) (.tuple [.str dash, .str dash]) = false := by
    have := eqv_one t.1 (45, 45)
    rw [decide_eq_false h2] at this
    rw [dash_cps]
    exact this
  show (isPairD (.tuple [.str ⟨#[t.1.1]⟩, .str ⟨#[t.1.2]⟩]) && (!(PyData.eqv (.tuple [.str ⟨#[t.1.1]⟩, .str ⟨#[t.1.2]⟩]) (.tuple [.str dash, .str dash])) && stateD n (.int t.2))) = true
  rw [e1, e2]
  show (decide (0 ≤ t.2) && decide (t.2 < (n : Int))) = true
  rw [decide_eq_true h3, decide_eq_true (by omega : t.2 < (n : Int))]; rfl
theorem Drawn.row {rows : List (List Stp)} {ends : List Nat} (D : Drawn rows ends) : rowsD (.tuple (rows.map rowPD)) = true := by
  have h0 := D.pos
  show (decide (1 ≤ (rows.map rowPD).length) && (rows.map rowPD).all (rowD ((rows.map rowPD).length : Nat))) = true
  rw [List.length_map, decide_eq_true (by omega : 1 ≤ rows.length), Bool.true_and, List.all_map, List.all_eq_true]
  intro ts h
  obtain ⟨_, h2, h3, h4⟩ := D.each ts h
  show ((ts.map stp).all (stepD (rows.length : Nat)) && ascP (ts.map stp)) = true
  rw [ascP_of h3 h2, Bool.and_true, List.all_map, List.all_eq_true]
  intro t ht
  obtain ⟨z1, z2, z3, z4⟩ := h4 t ht
  exact Drawn.step z1 z2 z3 z4
theorem bulk_row : ∀ ts : List Stp, (rowPD ts).bulk = ts.length * 6
  | [] => rfl
  | t :: r => by
    have := bulk_row r
    show (stp t).bulk + 1 + (rowPD r).bulk = _
    rw [this, List.length_cons, Nat.succ_mul, show (stp t).bulk = 5 from rfl]; omega
theorem bulk_rows : ∀ rows : List (List Stp), (∀ ts ∈ rows, ts.length ≤ 8) → PyData.bulkAll (rows.map rowPD) ≤ rows.length * 49
  | [], _ => Nat.le_refl _
  | ts :: r, h => by
    have := bulk_rows r fun x hx => h x (List.mem_cons_of_mem _ hx)
    have h1 := h ts List.mem_cons_self
    show (rowPD ts).bulk + 1 + PyData.bulkAll (r.map rowPD) ≤ _
    rw [bulk_row, List.length_cons, Nat.succ_mul]; omega
theorem bulk_nums : ∀ ns : List Nat, PyData.bulkAll (ns.map fun n : Nat => PyData.int (n : Int)) = ns.length
  | [] => rfl
  | n :: r => by
    have := bulk_nums r
    show 0 + 1 + PyData.bulkAll (r.map fun n : Nat => PyData.int (n : Int)) = _
    rw [this, List.length_cons]; omega
theorem ascI_nums : ∀ {ns : List Nat}, ns.Pairwise (· < ·) → ascI ((ns.map fun n : Nat => PyData.int (n : Int)).map intOf) = true
  | [], _ => rfl
  | [_], _ => rfl
  | a :: b :: r, h => by
    obtain ⟨h1, h2⟩ := List.pairwise_cons.mp h
    have ih := ascI_nums h2
    have := h1 b List.mem_cons_self
    show (decide ((a : Int) < (b : Int)) && ascI (((b :: r).map fun n : Nat => PyData.int (n : Int)).map intOf)) = true
    rw [ih, decide_eq_true (by omega : (a : Int) < (b : Int))]; rfl
theorem Drawn.ends {rows : List (List Stp)} {ends : List Nat} (D : Drawn rows ends) : statesD (rows.length : Int) (.tuple (ends.map fun n : Nat => .int (n : Int))) = true := by
  show ((ends.map fun n : Nat => PyData.int (n : Int)).all (stateD (rows.length : Int)) && ascI ((ends.map fun n : Nat => PyData.int (n : Int)).map intOf)) = true
  rw [ascI_nums D.en, Bool.and_true, List.all_map, List.all_eq_true]
  intro x hx
  have := D.es x hx
  show (decide (0 ≤ (x : Int)) && decide ((x : Int) < (rows.length : Int))) = true
  rw [decide_eq_true (by omega : 0 ≤ (x : Int)), decide_eq_true (by omega : (x : Int) < (rows.length : Int))]; rfl
theorem Drawn.gap {rows : List (List Stp)} {ends : List Nat} (D : Drawn rows ends) : ¬ GapRing rows ends := by
  rintro ⟨g, hg, r⟩
  obtain ⟨rk, hrk⟩ := D.up
  refine ring_rank (fun p => rk p.1) (fun p q hq => ?_) r
  obtain ⟨h1, _, _, h2⟩ := hg p q hq
  obtain ⟨t, ht, rfl⟩ := List.mem_map.mp h2
  obtain ⟨ht1, ht2⟩ := List.mem_filter.mp ht
  obtain ⟨ts, hts, e⟩ := D.getD (i := p.1) (fun z => by rw [z] at ht1; exact (List.not_mem_nil ht1).elim)
  rw [e] at ht1
  refine hrk p.1 ts t hts ht1 fun z => h1 ?_
  unfold keepD at ht2
  rw [z, Bool.or_eq_true, decide_eq_true_iff, decide_eq_true_iff] at ht2
  omega
theorem Drawn.ok {rows : List (List Stp)} {ends : List Nat} (D : Drawn rows ends) : ShOk rows ends where
  R := D.R
  nd := fun ts h => (D.each ts h).2.1
  rd := D.row
  rz := by
    have := bulk_rows rows fun ts h => (D.each ts h).1
    have h2 := D.len
    show PyData.bulkAll (rows.map rowPD) ≤ 500000
    omega
  ed := D.ends
  ez := by
    have h2 := D.el
    show PyData.bulkAll (ends.map fun n : Nat => PyData.int (n : Int)) ≤ 500000
    rw [bulk_nums]; omega
  el := Nat.le_trans D.el (by decide)
  es := D.es
  gr := D.gap
end KP
namespace KP
open PySem PySem.Spec PyProof.Rows L2 EL
open Evl (pss_cut)
abbrev sLSheet : Stmt := topS 56
theorem scLSheet : FnScope ["_law_deck_here", "_law_most", "_law_count", "_law_lots", "_law_spot", "_law_lot", "_law_x", "_law_y"] ["_law_deck_here", "_law_most"] (defScope sLSheet) := ⟨rfl, rfl, rfl, by decide +kernel, rfl, by decide +kernel, by decide +kernel⟩
mutual
theorem dq_hi {K : PySem.W.Frag} {H : Hp} {a q z : Addr} {m : Nat} (D : Dx a q z m H) : ∀ (d : PyData) (v : V), Dq K H v d → noLD d = true → Dq K (hi a q z H) v d
  | .none, _, h, _ => by cases h; exact .non
  | .bool b, _, h, _ => by cases h; exact .bl b
  | .int i, _, h, _ => by cases h; exact .int i
  | .str x, _, h, _ => by cases h; exact .str x
  | .list ds, _, h, n => by simp [noLD] at n
  | .tuple ds, _, h, n => by
    cases h with
    | tup hs ha => exact .tup (sqt_hi D hs) (dqAll_hi D ds _ ha (by simpa [noLD] using n))
  | .dict _, _, h, n => by simp [noLD] at n
theorem dqAll_hi {K : PySem.W.Frag} {H : Hp} {a q z : Addr} {m : Nat} (D : Dx a q z m H) : ∀ (ds : List PyData) (vs : List V), DqAll K H vs ds → noLDs ds = true → DqAll K (hi a q z H) vs ds
  | [], _, h, _ => by cases h; exact .nil
  | d :: ds, _, h, n => by
    cases h with
    | cons h1 h2 =>
      obtain ⟨n1, n2⟩ : noLD d = true ∧ noLDs ds = true := by simpa [noLDs] using n
      exact .cons (dq_hi D d _ h1 n1) (dqAll_hi D ds _ h2 n2)
end
theorem noLD_row (ts : List Stp) : noLD (rowPD ts) = true := noLDs_map (fun _ => rfl) ts
/-- a lot that grows, beside the deck -/
structure Lot (K : PySem.W.Frag) (a q l : Addr) (m : Nat) (Hs H : Hp) (ls : List Stp) : Prop where
  D : Dw a q m H
  o : EL.Off a q Hs H
  na : l ≠ a ∧ l ≠ q
  nl : Hs l = none
  g : ∃ vs, H l = some (.lst vs) ∧ DqAll K (hi a q l H) vs (ls.map stp)
theorem Lot.off {K : PySem.W.Frag} {a q l : Addr} {m n : Nat} {Hs H H1 : Hp} {ls : List Stp} (L : Lot K a q l m Hs H ls) (o : EL.Off a q H H1) (D : Dw a q n H1) : Lot K a q l n Hs H1 ls := by
  obtain ⟨vs, g1, g2⟩ := L.g
  exact ⟨D, L.o.trans o, L.na, L.nl, vs, o _ _ L.na.1 L.na.2 g1, g2.up (off_hi o)⟩
theorem Lot.mono {K : PySem.W.Frag} {a q l : Addr} {m n : Nat} {Hs H : Hp} {ls : List Stp} (L : Lot K a q l m Hs H ls) (h : m ≤ n) : Lot K a q l n Hs H ls := ⟨L.D.mono h, L.o, L.na, L.nl, L.g⟩
theorem Lot.push {K : PySem.W.Frag} {a q l p : Addr} {m : Nat} {Hs H : Hp} {ls : List Stp} {t : Stp} (L : Lot K a q l m Hs H ls) (np : H p = none) (hl : ls.length ≤ 8) : ∃ vs, upd H p (.tup [.str ⟨#[t.1.1]⟩, .str ⟨#[t.1.2]⟩, .int t.2]) l = some (.lst vs) ∧ vs.length < sizeLine ∧
    Lot K a q l m Hs (upd (upd H p (.tup [.str ⟨#[t.1.1]⟩, .str ⟨#[t.1.2]⟩, .int t.2])) l (.lst (vs ++ [.ref p]))) (ls ++ [t]) ∧ Same (hi a q l H) (hi a q l (upd (upd H p (.tup [.str ⟨#[t.1.1]⟩, .str ⟨#[t.1.2]⟩, .int t.2])) l (.lst (vs ++ [.ref p])))) := by
  obtain ⟨vs, g1, g2⟩ := L.g
  have s := same_upd (o := .tup [.str ⟨#[t.1.1]⟩, .str ⟨#[t.1.2]⟩, .int t.2]) np
  have gp : upd H p (.tup [.str ⟨#[t.1.1]⟩, .str ⟨#[t.1.2]⟩, .int t.2]) p = some (.tup [.str ⟨#[t.1.1]⟩, .str ⟨#[t.1.2]⟩, .int t.2]) := upd_same
  have X : Dx a q l m H := ⟨L.D, .inr ⟨L.na.1, L.na.2, vs, g1⟩⟩
  generalize upd H p (.tup [.str ⟨#[t.1.1]⟩, .str ⟨#[t.1.2]⟩, .int t.2]) = H1 at s gp ⊢
  refine ⟨vs, s _ _ g1, lt_sz (by rw [g2.len, List.length_map]; omega), ⟨(X.same s).dw.upd L.na.1 L.na.2, offUpd (L.o.trans (.of_same s)) L.nl, L.na, L.nl, vs ++ [.ref p], upd_same, ?_⟩, ?_⟩
  · rw [hi_upd, List.map_append]
    exact DqAll.snoc (g2.up (same_hi s X)) (.tup (stOf (hi_of X np gp)) (.cons (.str _) (.cons (.str _) (.cons (.int _) .nil))))
  · rw [hi_upd]; exact same_hi s X
/-- four pairs of signs, written -/
def SgR (H : Hp) (v : V) (p : Str × Str) : Prop := ∃ t, v = .ref t ∧ H t = some (.tup [.str p.1, .str p.2])
theorem sgR_up : UpR SgR := fun _ _ _ _ s h => by
  obtain ⟨b, h1, h2⟩ := h
  exact ⟨b, h1, s _ _ h2⟩
theorem ne_of_none' {H : Hp} {l p : Addr} {o : HO} (h : H l = some o) (n : H p = none) : p ≠ l := fun e => by subst e; rw [h] at n; cases n
theorem four {a q : Addr} {m : Nat} {H : Hp} (D : Dw a q m H) {x1 y1 x2 y2 x3 y3 x4 y4 : Str} {t1 t2 t3 t4 l : Addr} (n1 : H t1 = none) (n2 : upd H t1 (.tup [.str x1, .str y1]) t2 = none) (n3 : upd (upd H t1 (.tup [.str x1, .str y1])) t2 (.tup [.str x2, .str y2]) t3 = none)
    (n4 : upd (upd (upd H t1 (.tup [.str x1, .str y1])) t2 (.tup [.str x2, .str y2])) t3 (.tup [.str x3, .str y3]) t4 = none) (nl : upd (upd (upd (upd H t1 (.tup [.str x1, .str y1])) t2 (.tup [.str x2, .str y2])) t3 (.tup [.str x3, .str y3])) t4 (.tup [.str x4, .str y4]) l = none) :
    ∃ H5, upd (upd (upd (upd (upd H t1 (.tup [.str x1, .str y1])) t2 (.tup [.str x2, .str y2])) t3 (.tup [.str x3, .str y3])) t4 (.tup [.str x4, .str y4])) l (.lst [.ref t1, .ref t2, .ref t3, .ref t4]) = H5 ∧
      Same H H5 ∧ H l = none ∧ H5 l = some (.lst [.ref t1, .ref t2, .ref t3, .ref t4]) ∧ AllR SgR (hid a q H5) [.ref t1, .ref t2, .ref t3, .ref t4] [(x1, y1), (x2, y2), (x3, y3), (x4, y4)] := by
  refine ⟨_, rfl, ?_⟩
  have s1 := same_upd (o := .tup [.str x1, .str y1]) n1
  have g1 : upd H t1 (.tup [.str x1, .str y1]) t1 = some (.tup [.str x1, .str y1]) := upd_same
  generalize upd H t1 (.tup [.str x1, .str y1]) = H1 at *
  have s2 := same_upd (o := .tup [.str x2, .str y2]) n2
  have g2 : upd H1 t2 (.tup [.str x2, .str y2]) t2 = some (.tup [.str x2, .str y2]) := upd_same
  generalize upd H1 t2 (.tup [.str x2, .str y2]) = H2 at *
  have s3 := same_upd (o := .tup [.str x3, .str y3]) n3
  have g3 : upd H2 t3 (.tup [.str x3, .str y3]) t3 = some (.tup [.str x3, .str y3]) := upd_same
  generalize upd H2 t3 (.tup [.str x3, .str y3]) = H3 at *
  have s4 := same_upd (o := .tup [.str x4, .str y4]) n4
  have g4 : upd H3 t4 (.tup [.str x4, .str y4]) t4 = some (.tup [.str x4, .str y4]) := upd_same
  generalize upd H3 t4 (.tup [.str x4, .str y4]) = H4 at *
  have s5 := same_upd (o := .lst [.ref t1, .ref t2, .ref t3, .ref t4]) nl
  have g5 : upd H4 l (.lst [.ref t1, .ref t2, .ref t3, .ref t4]) l = some (.lst [.ref t1, .ref t2, .ref t3, .ref t4]) := upd_same
  generalize upd H4 l (.lst [.ref t1, .ref t2, .ref t3, .ref t4]) = H5 at *
  have S2 := s1.trans s2
  have S3 := S2.trans s3
  have S4 := S3.trans s4
  have D1 := D.same s1
  have D2 := D.same S2
  have D3 := D.same S3
  have k1 := hid_of D n1 (s5 _ _ (s4 _ _ (s3 _ _ (s2 _ _ g1))))
  have k2 := hid_of D1 n2 (s5 _ _ (s4 _ _ (s3 _ _ g2)))
  have k3 := hid_of D2 n3 (s5 _ _ (s4 _ _ g3))
  have k4 := hid_of D3 n4 (s5 _ _ g4)
  refine ⟨S4.trans s5, ?_, g5, .cons ⟨t1, rfl, k1⟩ (.cons ⟨t2, rfl, k2⟩ (.cons ⟨t3, rfl, k3⟩ (.cons ⟨t4, rfl, k4⟩ .nil)))⟩
  cases e : H l with
  | none => rfl
  | some o => rw [S4 _ _ e] at nl; cases nl
abbrev sgn (p : Nat × Nat) : Str × Str := (⟨#[p.1]⟩, ⟨#[p.2]⟩)
abbrev four1 : List (Nat × Nat) := [(97, 97), (97, 98), (98, 97), (98, 98)]
theorem four1_sgn : [(("a" : Str), ("a" : Str)), ("a", "b"), ("b", "a"), ("b", "b")] = four1.map sgn := by decide +kernel
abbrev four2 : List (Nat × Nat) := [(45, 97), (45, 98), (97, 45), (98, 45)]
theorem four2_sgn : [(("-" : Str), ("a" : Str)), ("-", "b"), ("a", "-"), ("b", "-")] = four2.map sgn := by decide +kernel
theorem four_apart : ∀ p ∈ four2, p ∉ four1 := by decide
theorem four_ok : ∀ p ∈ four1 ++ four2, (okS p.1 && okS p.2) = true ∧ p ≠ (45, 45) := by decide
theorem hid_sub' {a q z : Addr} {H : Hp} : Same (hi a q z H) (hid a q H) := hid_sub
theorem four_no : ∀ p ∈ four1, p.1 ≠ 45 ∧ p.2 ≠ 45 := by decide
theorem four_gap (t : Stp) (h : t.1 ∈ four1 ++ four2) (hs : sdN t ≠ 0) : t.1 ∈ four2 := by
  rcases List.mem_append.mp h with h | h
  · obtain ⟨h1, h2⟩ := four_no _ h
    refine absurd ?_ hs
    have n1 : ¬ (⟨#[t.1.2]⟩ : Str) = dash := fun e => h2 (by rw [dash_cps] at e; injection e with e; simpa using e)
    have n2 : ¬ (⟨#[t.1.1]⟩ : Str) = dash := fun e => h1 (by rw [dash_cps] at e; injection e with e; simpa using e)
    unfold sdN sideN
    rw [if_neg n1, if_neg n2]
  · exact h
structure RowN (n j : Nat) (ts : List Stp) : Prop where
  len : ts.length ≤ 8
  nd : (ts.map (·.1)).Nodup
  asc : ts.Pairwise (fun a b => ¬ LtS b a)
  each : ∀ t ∈ ts, t.1 ∈ four1 ++ four2 ∧ 0 ≤ t.2 ∧ t.2 < (n : Int) ∧ (t.1 ∈ four2 → (j : Int) < t.2)
def spSheet (K : PySem.W.Frag) : Sp := fun vs H Q _ => ∃ (a q : Addr) (m : Nat), vs = [.ref a, .int 5] ∧ Dw a q m H ∧ m + 200 < 1000000000 ∧
  ∀ v rows ends H', Drawn rows ends → Dq K (hid a q H') v (sheetD rows ends) → EL.Off a q H H' → Dw a q (m + 200) H' → Q v H'
section
variable {P : Program} {w : World} {K : PySem.W.Frag} {mg : Str → Option Value} {base : Heap}
theorem ok_LSheet {f : Addr} {fd : FuncData} {k : Nat} (F : Fun K "_law_sheet" "_law_sheet" sLSheet f fd) (nrange : mg "range" = none) (ntuple : mg "tuple" = none) (nsorted : mg "sorted" = none) (CLDraw : Cal P w K mg base k "_law_draw" ["_law_deck_here", "_law_below"] spDraw) : FnOk P w K mg base CX0 (k + 1) f fd ["_law_deck_here", "_law_most"] (spSheet K) := by
  refine F.ok scLSheet (fun vs H Q E h => ?_) (fun cdv A outer s H vs Q E hr h => ?_)
  · obtain ⟨a, q, m, rfl, _⟩ := h; rfl
  · obtain ⟨a, q, m, rfl, hD, hm, kQ⟩ := h
    have hu := hr.units
    have hu2 : (A.deeper (envOfC "_law_sheet" (defScope sLSheet) s.heap.objs.size f cdv)).units + 64 < cLine := by omega
    refine ⟨_, (pss_cons (ps_set (i := 2) scLSheet.nd rfl (by first | exact Or.inl rfl | exact Or.inr rfl) (pe_op op_add pe_int (pe_cal CLDraw hr (by rfl) pass0 (pa_cons (pv 0) (pa_cons (pv 1) pa_nil)))))
      (pss_cons (ps_set (i := 3) scLSheet.nd rfl (by first | exact Or.inl rfl | exact Or.inr rfl) (pe_lst pa_nil))
      (pss_cons (ps_for PassesOwn.never rfl (pi_range1 rfl nrange (pa_cons (pv 2) pa_nil)) (pg_name (i := 4) scLSheet.nd rfl (by first | exact Or.inl rfl | exact Or.inr rfl)) (pss_cons (ps_set (i := 5) scLSheet.nd rfl (by first | exact Or.inl rfl | exact Or.inr rfl) (pe_lst pa_nil))
      (pss_cons (ps_for PassesOwn.never rfl (pi_list (pe_lst (pa_cons (pe_tup (pa_cons pe_str (pa_cons pe_str pa_nil))) (pa_cons (pe_tup (pa_cons pe_str (pa_cons pe_str pa_nil))) (pa_cons (pe_tup (pa_cons pe_str (pa_cons pe_str pa_nil))) (pa_cons (pe_tup (pa_cons pe_str (pa_cons pe_str pa_nil))) pa_nil)))))) (pg_tup (by rfl) (pgs_cons (pg_name (i := 6) scLSheet.nd rfl (by first | exact Or.inl rfl | exact Or.inr rfl)) (pgs_cons (pg_name (i := 7) scLSheet.nd rfl (by first | exact Or.inl rfl | exact Or.inr rfl)) pgs_nil))) (pss_one (ps_if (pt_cmpR op_lt (pe_cal CLDraw hr (by rfl) pass0 (pa_cons (pv 0) (pa_cons pe_int pa_nil))) pe_int (nomark _)) (pss_one (ps_expr (pe_bm PySem.F.plainAttrs_list PySem.F.slot_list_append PySem.F.type_list_append mt_append (pv 5) (pa_cons (pe_tup (pa_cons (pv 6) (pa_cons (pv 7) (pa_cons (pe_cal CLDraw hr (by rfl) pass0 (pa_cons (pv 0) (pa_cons (pv 2) pa_nil))) pa_nil)))) pa_nil)))) pss_nil)))
      (pss_cons (ps_for PassesOwn.never rfl (pi_list (pe_lst (pa_cons (pe_tup (pa_cons pe_str (pa_cons pe_str pa_nil))) (pa_cons (pe_tup (pa_cons pe_str (pa_cons pe_str pa_nil))) (pa_cons (pe_tup (pa_cons pe_str (pa_cons pe_str pa_nil))) (pa_cons (pe_tup (pa_cons pe_str (pa_cons pe_str pa_nil))) pa_nil)))))) (pg_tup (by rfl) (pgs_cons (pg_name (i := 6) scLSheet.nd rfl (by first | exact Or.inl rfl | exact Or.inr rfl)) (pgs_cons (pg_name (i := 7) scLSheet.nd rfl (by first | exact Or.inl rfl | exact Or.inr rfl)) pgs_nil))) (pss_one (ps_if (PW.pt (pw_and (pt_cmpR op_lt (pe_op op_add (pv 4) pe_int) (pv 2) (nomark _)) (pw_and1 (pt_cmpR op_eq (pe_cal CLDraw hr (by rfl) pass0 (pa_cons (pv 0) (pa_cons pe_int pa_nil))) pe_int (nomark _))))) (pss_one (ps_expr (pe_bm PySem.F.plainAttrs_list PySem.F.slot_list_append PySem.F.type_list_append mt_append (pv 5) (pa_cons (pe_tup (pa_cons (pv 6) (pa_cons (pv 7) (pa_cons (pe_op op_add (pe_op op_add (pv 4) pe_int) (pe_cal CLDraw hr (by rfl) pass0 (pa_cons (pv 0) (pa_cons (pe_op op_sub (pe_op op_sub (pv 2) (pv 4)) pe_int) pa_nil)))) pa_nil)))) pa_nil)))) pss_nil)))
      (pss_one (ps_expr (pe_bm PySem.F.plainAttrs_list PySem.F.slot_list_append PySem.F.type_list_append mt_append (pv 3) (pa_cons (pe_callTy call_tuple_of (by rfl) ntuple (by decide +kernel) (pa_cons (pe_callB (cr_sortedD stp hu2) (by rfl) nsorted (by decide +kernel) (pa_cons (pv 5) pa_nil)) pa_nil)) pa_nil))))))))
      (pss_one (ps_ret (pe_tup (pa_cons (pe_callTy call_tuple_of (by rfl) ntuple (by decide +kernel) (pa_cons (pv 3) pa_nil)) (pa_cons (pe_callTy call_tuple_of (by rfl) ntuple (by decide +kernel) (pa_cons (pe_lc (own := [("_law_spot", 4)]) (g := (gName 4)) (by rfl) scLSheet.nd (pi_range1 rfl nrange (pa_cons (pv 2) pa_nil)) (blkOk_by (own := [("_law_spot", 4)]) (N := ["_law_deck_here", "_law_most", "_law_count", "_law_lots", "_law_spot", "_law_lot", "_law_x", "_law_y"]) (sc := defScope sLSheet) (by decide +kernel)) (fun _ _ _ _ _ => (pg_name (i := 4) scLSheet.nd rfl (by first | exact Or.inl rfl | exact Or.inr rfl))) (fun _ _ _ _ _ => (pts_one (pt_cmpR op_eq (pe_cal CLDraw hr (by rfl) pass0 (pa_cons (pv 0) (pa_cons pe_int pa_nil))) pe_int (nomark _)))) (fun _ _ _ _ _ => (pv 4))) pa_nil)) pa_nil)))))))), ?_⟩
    refine ⟨.ref a, rfl, .int 5, rfl, a, q, m, 5, rfl, hD, by omega, by decide, by decide, fun c H1 c0 c1 o1 D1 => ⟨_, _, rfl, rfl, ?_⟩⟩
    obtain ⟨c, rfl⟩ := Int.eq_ofNat_of_zero_le c0
    show gName 2 (V.int (1 + (c : Int))) _ _ _
    rw [show (1 : Int) + (c : Int) = ((c + 1 : Nat) : Int) by omega]
    have hn2 : c + 1 ≤ 5 := by omega
    generalize hnd : c + 1 = n at hn2
    have hn1 : 1 ≤ n := by omega
    refine ⟨Nat.zero_le _, fun L nL => ?_⟩
    have naL := D1.na nL
    have nLH := offNone o1 D1 nL
    have o2 : EL.Off a q H (upd H1 L (.lst [])) := offUpd o1 nLH
    have gL : upd H1 L (.lst []) L = some (.lst []) := upd_same
    have D2 := D1.upd (o := .lst []) naL.1 naL.2
    generalize upd H1 L (.lst []) = H2 at o2 gL D2 ⊢
    refine ⟨_, rfl, (n : Int), rfl, by omega, by omega, ?_⟩
    rw [show (n : Int).toNat = n from Int.toNat_natCast n]
    refine for_it walk_range (fun i σ H' => ∃ (y4 y5 y6 y7 : Option V) (vs : List V) (rows : List (List Stp)), σ = [some (.ref a), some (.int 5), some (.int (n : Int)), some (.ref L), y4, y5, y6, y7] ∧ Dw a q (m + 1 + 16 * i) H' ∧ EL.Off a q H H' ∧ H' L = some (.lst vs) ∧ DqAll K (hi a q L H') vs (rows.map rowPD) ∧ rows.length = i ∧ ∀ (j : Nat) (ts : List Stp), rows[j]? = some ts → RowN n j ts)
      ⟨none, none, none, none, [], [], rfl, D2, o2, gL, .nil, rfl, fun j ts h => by simp at h⟩ (fun _ _ _ _ _ => trivial) ?_ ?_
    · rintro i y σ H9 H3 hil ⟨y4, y5, y6, y7, vs, rows, rfl, D3, o3, g3, A3, hrl, hrows⟩ ⟨rfl, rfl⟩
      refine ⟨Nat.zero_le _, fun l nl => ?_⟩
      have nal := D3.na nl
      have nLl : L ≠ l := ne_of_none g3 nl
      have L4 : Lot K a q l (m + 1 + 16 * i) H3 (upd H3 l (.lst [])) [] := ⟨D3.upd nal.1 nal.2, offUpd (.refl _) nl, nal, nl, [], upd_same, .nil⟩
      generalize upd H3 l (.lst []) = H4 at L4 ⊢
      have two : 2 ≤ sizeLine := by decide
      have iv : 4 ≤ sizeLine := by decide
      have iii : 3 ≤ sizeLine := by decide
      refine ⟨two, fun t1 n1 => ⟨two, fun t2 n2 => ⟨two, fun t3 n3 => ⟨two, fun t4 n4 => ⟨iv, fun c1 nc => ?_⟩⟩⟩⟩⟩
      obtain ⟨H5, e5, s5, nc1, gc1, A5⟩ := four L4.D n1 n2 n3 n4 nc
      rw [e5]
      rw [four1_sgn] at A5
      clear n1 n2 n3 n4 nc e5
      generalize [V.ref t1, .ref t2, .ref t3, .ref t4] = xs1 at A5 gc1
      have na5 := L4.D.na nc1
      obtain ⟨vs4, gl4, _⟩ := L4.g
      have gl5 := s5 _ _ gl4
      have L5 := L4.off (.of_same s5) (L4.D.same s5)
      refine ⟨c1, rfl, ⟨_, sqOf gc1⟩, ?_⟩
      have xl1 : xs1.length = 4 := A5.len
      refine for_it walk_list (fun j σ H' => ∃ (y6 y7 : Option V) (ls : List Stp), σ = [some (.ref a), some (.int 5), some (.int (n : Int)), some (.ref L), some (.int (i : Int)), some (.ref l), y6, y7] ∧ Lot K a q l (m + 1 + 16 * i + 2 * j) H3 H' ls ∧ Same (hi a q l H5) (hi a q l H') ∧ (ls.map (·.1)).Sublist (four1.take j) ∧ ∀ t ∈ ls, 0 ≤ t.2 ∧ t.2 < (n : Int))
        ⟨y6, y7, [], by simp, L5, Same.refl _, .slnil, fun _ h => (List.not_mem_nil h).elim⟩ (fun j H' σ _ z => by
          obtain ⟨_, _, _, _, _, z, _⟩ := z
          exact sqOf (hi_sub _ _ (z _ _ (by rw [hi_ne na5.1 na5.2 (ne_of_none' gl4 nc1)]; exact gc1)))) ?_ ?_
      · rintro j v σ H9 H6 hj ⟨y6, y7, ls, rfl, L6, o6, u1, u2⟩ ⟨rfl, hv⟩
        obtain ⟨px, hpx, t, rfl, hct⟩ := AllR.at A5 hv
        rw [List.getElem?_map] at hpx
        obtain ⟨pc, hpc, rfl⟩ := Option.map_eq_some_iff.mp hpx
        obtain ⟨nt1, nt2, gt5⟩ := hid_some hct
        have gt := hi_sub _ _ (o6 _ _ (by rw [hi_ne nt1 nt2 (fun e => by subst e; rw [gl5] at gt5; cases gt5)]; exact gt5))
        have lsl : ls.length ≤ 8 := by
          have := u1.length_le
          rw [List.length_map, List.length_take] at this
          exact Nat.le_trans this (Nat.le_trans (Nat.min_le_right _ _) (by decide))
        refine ⟨t, _, rfl, stOf gt, rfl, _, _, rfl, _, _, rfl, rfl, ?_⟩
        refine ⟨.ref a, rfl, a, q, _, 5, rfl, L6.D, by omega, by decide, by decide, fun b H7 b0 b1 o7 D7 => ⟨_, _, rfl, rfl, _, rfl, ?_⟩⟩
        have L7 := L6.off o7 D7
        have o57 := o6.trans (off_hi o7)
        by_cases hb : b < 2
        · rw [decide_eq_true hb]
          refine iteT ?_
          obtain ⟨vs7, g7, _⟩ := L7.g
          refine ⟨.ref l, rfl, .inl ⟨rfl, _, sqOf g7⟩, _, rfl, _, rfl, .ref a, rfl, .int (n : Int), rfl, a, q, _, n, rfl, L7.D, by omega, by omega, by omega, fun e H8 e0 e1 o8 D8 => ?_⟩
          have L8 := L7.off o8 D8
          refine ⟨iii, fun p np => ?_⟩
          obtain ⟨vs8, g8, z8, L9, o9⟩ := L8.push (t := (pc, e)) np lsl
          refine ⟨l, vs8, _, rfl, rfl, g8, z8, ?_⟩
          refine ⟨_, _, ls ++ [(pc, e)], rfl, L9.mono (by omega), (o57.trans (off_hi o8)).trans o9, ?_, fun t ht => ?_⟩
          · rw [take_snoc hpc, List.map_append]
            exact u1.append (List.Sublist.refl _)
          · rcases List.mem_append.mp ht with ht | ht
            · exact u2 t ht
            · rw [List.mem_singleton.mp ht]; exact ⟨e0, e1⟩
        · rw [decide_eq_false hb]
          refine iteF ?_
          refine ⟨_, _, ls, rfl, L7.mono (by omega), o57, ?_, u2⟩
          exact u1.trans (List.take_sublist_take_left (Nat.le_succ j))
      rintro σ H6 ⟨y6, y7, ls, rfl, L6, _, u1, u2⟩
      rw [xl1, show four1.take 4 = four1 from rfl] at u1
      rw [xl1] at L6
      clear A5 gc1 nc1 na5 gl5 gl4 L5 s5 xl1 L4
      refine ⟨two, fun t1 n1 => ⟨two, fun t2 n2 => ⟨two, fun t3 n3 => ⟨two, fun t4 n4 => ⟨iv, fun c1 nc => ?_⟩⟩⟩⟩⟩
      obtain ⟨H7, e7, s7, nc1, gc1, A7⟩ := four L6.D n1 n2 n3 n4 nc
      rw [e7]
      rw [four2_sgn] at A7
      clear n1 n2 n3 n4 nc e7
      generalize [V.ref t1, .ref t2, .ref t3, .ref t4] = xs1 at A7 gc1
      have na7 := L6.D.na nc1
      obtain ⟨vs6, gl6, _⟩ := L6.g
      have gl7 := s7 _ _ gl6
      have L7 := L6.off (.of_same s7) (L6.D.same s7)
      refine ⟨c1, rfl, ⟨_, sqOf gc1⟩, ?_⟩
      have xl1 : xs1.length = 4 := A7.len
      refine for_it walk_list (fun j σ H' => ∃ (y6 y7 : Option V) (ls : List Stp), σ = [some (.ref a), some (.int 5), some (.int (n : Int)), some (.ref L), some (.int (i : Int)), some (.ref l), y6, y7] ∧ Lot K a q l (m + 1 + 16 * i + 2 * 4 + 2 * j) H3 H' ls ∧ Same (hi a q l H7) (hi a q l H') ∧ (ls.map (·.1)).Sublist (four1 ++ four2.take j) ∧ ∀ t ∈ ls, 0 ≤ t.2 ∧ t.2 < (n : Int) ∧ (t.1 ∈ four2 → (i : Int) < t.2))
        ⟨y6, y7, ls, rfl, L7, Same.refl _, by rw [List.take_zero, List.append_nil]; exact u1, fun t ht => ⟨(u2 t ht).1, (u2 t ht).2, fun z => ?_⟩⟩ (fun j H' σ _ z => by
          obtain ⟨_, _, _, _, _, z, _⟩ := z
          exact sqOf (hi_sub _ _ (z _ _ (by rw [hi_ne na7.1 na7.2 (ne_of_none' gl6 nc1)]; exact gc1)))) ?_ ?_
      · have := u1.subset (List.mem_map.mpr ⟨t, ht, rfl⟩)
        exact absurd this (four_apart _ z)
      · rintro j v σ H9 H6' hj ⟨y6, y7, ls, rfl, L6, o6, u1, u2⟩ ⟨rfl, hv⟩
        obtain ⟨px, hpx, t, rfl, hct⟩ := AllR.at A7 hv
        rw [List.getElem?_map] at hpx
        obtain ⟨pc, hpc, rfl⟩ := Option.map_eq_some_iff.mp hpx
        obtain ⟨nt1, nt2, gt5⟩ := hid_some hct
        have gt := hi_sub _ _ (o6 _ _ (by rw [hi_ne nt1 nt2 (fun e => by subst e; rw [gl7] at gt5; cases gt5)]; exact gt5))
        have lsl : ls.length ≤ 8 := by
          have := u1.length_le
          rw [List.length_map, List.length_append, List.length_take] at this
          exact Nat.le_trans this (Nat.add_le_add_left (Nat.min_le_right _ _) 4)
        have u1' : (ls.map (·.1)).Sublist (four1 ++ four2.take (j + 1)) := u1.trans (List.Sublist.append (List.Sublist.refl _) (List.take_sublist_take_left (Nat.le_succ j)))
        refine ⟨t, _, rfl, stOf gt, rfl, _, _, rfl, _, _, rfl, rfl, ?_⟩
        refine ⟨_, rfl, _, _, rfl, rfl, _, rfl, _, _, rfl, rfl, _, rfl, ?_⟩
        by_cases hlt : (i : Int) + 1 < (n : Int)
        · rw [decide_eq_true hlt]
          refine iteT ⟨.ref a, rfl, a, q, _, 6, rfl, L6.D, by omega, by decide, by decide, fun b H7 b0 b1 o7 D7 => ⟨rfl, _, rfl, ?_⟩⟩
          have L7 := L6.off o7 D7
          have o57 := o6.trans (off_hi o7)
          by_cases hb : V.int b = V.int 0
          · rw [decide_eq_true hb]
            refine iteT ?_
            obtain ⟨vs7, g7, _⟩ := L7.g
            refine ⟨.ref l, rfl, .inl ⟨rfl, _, sqOf g7⟩, _, rfl, _, rfl, _, rfl, _, _, rfl, rfl, .ref a, rfl, _, rfl, _, rfl, _, _, rfl, rfl, _, _, rfl, rfl, a, q, _, (n : Int) - i - 1, rfl, L7.D, by omega, by omega, by omega, fun e H8 e0 e1 o8 D8 => ⟨_, _, rfl, rfl, ?_⟩⟩
            have L8 := L7.off o8 D8
            refine ⟨iii, fun p np => ?_⟩
            obtain ⟨vs8, g8, z8, L9, o9⟩ := L8.push (t := (pc, (i : Int) + 1 + e)) np lsl
            refine ⟨l, vs8, _, rfl, rfl, g8, z8, ?_⟩
            refine ⟨_, _, ls ++ [(pc, (i : Int) + 1 + e)], rfl, L9.mono (by omega), (o57.trans (off_hi o8)).trans o9, ?_, fun t ht => ?_⟩
            · rw [take_snoc hpc, List.map_append, ← List.append_assoc]
              exact u1.append (List.Sublist.refl _)
            · rcases List.mem_append.mp ht with ht | ht
              · exact u2 t ht
              · rw [List.mem_singleton.mp ht]; exact ⟨by show 0 ≤ (i : Int) + 1 + e; omega, by show (i : Int) + 1 + e < n; omega, fun _ => by show (i : Int) < (i : Int) + 1 + e; omega⟩
          · rw [decide_eq_false hb]
            exact iteF ⟨_, _, ls, rfl, L7.mono (by omega), o57, u1', u2⟩
        · rw [decide_eq_false hlt]
          exact iteF (iteF ⟨_, _, ls, rfl, L6.mono (by omega), o6, u1', u2⟩)
      rintro σ H8 ⟨y6, y7, ls, rfl, L8, _, v1, v2⟩
      rw [xl1, show four2.take 4 = four2 from rfl] at v1
      rw [xl1] at L8
      obtain ⟨vs8, g8, A8⟩ := L8.g
      have gL8 := L8.o _ _ naL.1 naL.2 g3
      have lsl : ls.length ≤ 8 := by
        have := v1.length_le
        rw [List.length_map] at this
        exact this
      refine ⟨.ref L, rfl, .inl ⟨rfl, _, sqOf gL8⟩, .ref l, rfl, l, vs8, ls, rfl, sqOf g8, A8.up hi_sub, alike_stp ls, sortable_stp ls, by omega, fun x _ => by show (stp x).depth ≤ 5; exact (show 1 ≤ 5 by decide), fun p us bs np pm pw du => ⟨p, us, rfl, .inl ⟨sqOf upd_same, fun t nt => ?_⟩⟩⟩
      have s8 : Same H8 (upd (upd H8 p (.lst us)) t (.tup us)) := (same_upd np).trans (same_upd nt)
      have g9 : upd (upd H8 p (.lst us)) t (.tup us) t = some (.tup us) := upd_same
      generalize upd (upd H8 p (.lst us)) t (.tup us) = H9 at s8 g9 ⊢
      have o39 := L8.o.trans (.of_same s8)
      have D9 := L8.D.same s8
      have gL9 := s8 _ _ gL8
      have X9 : Dx a q L (m + 1 + 16 * i + 2 * 4 + 2 * 4) H9 := ⟨D9, .inr ⟨naL.1, naL.2, vs, gL9⟩⟩
      have vl : vs.length = i := by rw [A3.len, List.length_map, hrl]
      have nd4 : (four1 ++ four2).Nodup := by decide
      refine ⟨L, vs, _, rfl, rfl, gL9, lt_sz (by omega), ?_⟩
      refine ⟨_, _, _, _, vs ++ [.ref t], rows ++ [bs], rfl, (D9.upd naL.1 naL.2).mono (by omega), offUpd (o3.trans o39) nLH, upd_same, ?_, by rw [List.length_append, hrl]; rfl, fun j ts hj => ?_⟩
      · rw [hi_upd, List.map_append]
        exact DqAll.snoc (A3.up (off_hi o39)) (dq_hi X9 _ _ (.tup (stOf g9) (du.up s8)) (noLD_row bs))
      · rw [List.getElem?_append] at hj
        split at hj
        · exact hrows j ts hj
        · have e0 : j = i := by
            have := (List.getElem?_eq_some_iff.mp hj).1
            simp at this; omega
          subst e0
          rw [hrl, Nat.sub_self] at hj
          obtain rfl : bs = ts := by simpa using hj
          refine ⟨by rw [pm.length_eq]; exact lsl, (pm.map (·.1)).nodup_iff.mpr (v1.nodup nd4), pw.imp fun h => (le_stp _ _).mp h, fun t ht => ?_⟩
          have ht := pm.mem_iff.mp ht
          exact ⟨v1.subset (List.mem_map.mpr ⟨t, ht, rfl⟩), v2 t ht⟩
    · rintro σ H3 ⟨y4, y5, y6, y7, vs, rows, rfl, D3, o3, g3, A3, hrl, hrows⟩
      have two : 2 ≤ sizeLine := by decide
      refine ⟨.ref L, rfl, L, vs, rfl, .inl ⟨sqOf g3, fun t1 n1 => ?_⟩⟩
      have nat1 := D3.na n1
      have s4 := same_upd (o := .tup vs) n1
      have g4 : upd H3 t1 (.tup vs) t1 = some (.tup vs) := upd_same
      generalize upd H3 t1 (.tup vs) = H4 at s4 g4 ⊢
      have D4 := D3.same s4
      refine ⟨_, rfl, (n : Int), rfl, by omega, by omega, fun D nD => ?_⟩
      have naD := D4.na nD
      rw [show (n : Int).toNat = n from Int.toNat_natCast n]
      refine lc_it walk_range (LcP D (fun i H' => EL.Off a q H4 H' ∧ Dw a q (m + 1 + 16 * n + i) H') (fun j v => v = none ∨ v = some (.int ((0 + j : Nat) : Int)))) (LcP.start ⟨offUpd (.refl _) nD, D4.upd (o := .lst []) naD.1 naD.2⟩) (fun _ _ _ _ => trivial) ?_ ?_
      · rintro i y H' H'' hil ⟨ys, hl, hR, hDD, oo, DD⟩ ⟨rfl, rfl⟩
        refine ⟨rfl, .ref a, rfl, a, q, _, 2, rfl, DD, by omega, by decide, by decide, fun b H5 b0 b1 o5 D5 => ⟨rfl, _, rfl, ?_⟩⟩
        have hD5 := o5 _ _ naD.1 naD.2 hDD
        by_cases hb : V.int b = V.int 0
        · rw [decide_eq_true hb]
          refine iteT ⟨_, rfl, lcp_some hl hR hD5 (by omega) (.inr (by simp)) ⟨offUpd (oo.trans o5) nD, (D5.upd naD.1 naD.2).mono (by omega)⟩⟩
        · rw [decide_eq_false hb]
          exact iteF (lcp_none hl hR hD5 (.inl rfl) ⟨oo.trans o5, D5.mono (by omega)⟩)
      rintro H5 ⟨ys, hl, hR, hDD, o5, D5⟩
      obtain ⟨is, f1, f2, f3, f4⟩ := rows_sub 0 hR
      rw [f1] at hDD
      refine ⟨D, _, rfl, .inl ⟨sqOf hDD, fun t2 n2 => ?_⟩⟩
      have s6 := same_upd (o := .tup (is.map fun (n : Nat) => V.int (n : Int))) n2
      have g6 : upd H5 t2 (.tup (is.map fun (n : Nat) => V.int (n : Int))) t2 = some (.tup (is.map fun (n : Nat) => V.int (n : Int))) := upd_same
      generalize upd H5 t2 (.tup (is.map fun (n : Nat) => V.int (n : Int))) = H6 at s6 g6 ⊢
      refine ⟨two, fun tt ntt => ?_⟩
      have s7 := same_upd (o := .tup [.ref t1, .ref t2]) ntt
      have g7 : upd H6 tt (.tup [.ref t1, .ref t2]) tt = some (.tup [.ref t1, .ref t2]) := upd_same
      generalize upd H6 tt (.tup [.ref t1, .ref t2]) = H7 at s7 g7 ⊢
      have o47 : EL.Off a q H4 H7 := (o5.trans (.of_same s6)).trans (.of_same s7)
      have o37 : EL.Off a q H3 H7 := (EL.Off.of_same s4).trans o47
      have D7 := (D5.same s6).same s7
      have dr : Dq K (hid a q H7) (.ref t1) (.tuple (rows.map rowPD)) := .tup (sqt_hid D7 (stOf (o47 _ _ nat1.1 nat1.2 g4))) ((A3.up hid_sub').up o37.hid)
      have de : Dq K (hid a q H7) (.ref t2) (.tuple (is.map fun n : Nat => PyData.int (n : Int))) := .tup (sqt_hid D7 (stOf (s7 _ _ g6))) (dqAll_numsOf is)
      refine kQ _ rows is H7 ⟨by omega, by omega, fun ts h => ?_, f2, by omega, fun x hx => by have := f3 x hx; omega, fun i => (i : Int), fun i ts t h ht hs => ?_⟩ (.tup (sqt_hid D7 (stOf g7)) (.cons dr (.cons de .nil))) (o3.trans o37) (D7.mono (by omega))
      · obtain ⟨j, hj⟩ := List.mem_iff_getElem?.mp h
        obtain ⟨r1, r2, r3, r4⟩ := hrows j ts hj
        refine ⟨r1, r2, r3, fun t ht => ?_⟩
        obtain ⟨w1, w2, w3, _⟩ := r4 t ht
        have := four_ok t.1 w1
        exact ⟨this.1, this.2, w2, by omega⟩
      · obtain ⟨_, _, _, r4⟩ := hrows i ts h
        obtain ⟨w1, w2, w3, w4⟩ := r4 t ht
        have := w4 (four_gap t w1 hs)
        show (i : Int) < ((t.2.toNat : Nat) : Int)
        omega
end
end KP
namespace KP
open PySem PySem.Spec PyProof.Rows L2 EL
open PySem.W (dataLt dataLe)
/-- all the steps of a sheet with their states -/
abbrev dueL (rows : List (List Stp)) : List (Nat × Stp) := stepsTo rows rows.length
theorem mem_stepsTo {rows : List (List Stp)} : ∀ {n : Nat} {x : Nat × Stp}, x ∈ stepsTo rows n → x.1 < n ∧ ∃ ts, rows[x.1]? = some ts ∧ x.2 ∈ ts
  | 0, x, h => (List.not_mem_nil h).elim
  | n + 1, x, h => by
    rw [stepsTo_succ] at h
    rcases List.mem_append.mp h with h | h
    · obtain ⟨h1, h2⟩ := mem_stepsTo h
      exact ⟨by omega, h2⟩
    · obtain ⟨t, ht, rfl⟩ := List.mem_map.mp h
      refine ⟨Nat.lt_succ_self _, ?_⟩
      rw [List.getD_eq_getElem?_getD] at ht
      cases e : rows[n]? with
      | none => rw [e] at ht; exact (List.not_mem_nil ht).elim
      | some ts => rw [e] at ht; exact ⟨ts, rfl, ht⟩
theorem due_len {rows : List (List Stp)} {ends : List Nat} (D : Drawn rows ends) : (dueL rows).length ≤ 40 := by
  have key : ∀ n, (stepsTo rows n).length ≤ n * 8 := by
    intro n
    induction n with
    | zero => exact Nat.le_refl _
    | succ n ih =>
      rw [stepsTo_succ, List.length_append, List.length_map, Nat.succ_mul]
      have : (rows.getD n []).length ≤ 8 := by
        rw [List.getD_eq_getElem?_getD]
        cases e : rows[n]? with
        | none => exact Nat.zero_le _
        | some ts => exact (D.each ts (List.mem_of_getElem? e)).1
      omega
  have := key rows.length
  have h2 := D.len
  show (stepsTo rows rows.length).length ≤ 40
  omega
theorem due_sorted {rows : List (List Stp)} {ends : List Nat} (D : Drawn rows ends) : ∀ n, (stepsTo rows n).Pairwise fun a b => ¬ LtQ b a
  | 0 => .nil
  | n + 1 => by
    rw [stepsTo_succ, List.pairwise_append]
    refine ⟨due_sorted D n, ?_, fun a ha b hb => ?_⟩
    · rw [List.pairwise_map]
      rw [List.getD_eq_getElem?_getD]
      cases e : rows[n]? with
      | none => exact .nil
      | some ts =>
        refine (D.each ts (List.mem_of_getElem? e)).2.2.1.imp fun {a b} h z => h ?_
        rcases z with z | z
        · exact absurd z (Nat.lt_irrefl _)
        · exact z.2
    · obtain ⟨t, _, rfl⟩ := List.mem_map.mp hb
      have := (mem_stepsTo ha).1
      intro z
      have z : n < a.1 ∨ (n = a.1 ∧ LtS t a.2) := z
      omega
/-- each with each -/
abbrev pairsL (l m : List (Nat × Stp)) : List ((Nat × Stp) × (Nat × Stp)) := l.flatMap fun x => m.map fun y => (x, y)
theorem pairs_fst (l m : List (Nat × Stp)) : (pairsL l m).map (·.1) = l.flatMap fun x => List.replicate m.length x := by
  rw [List.map_flatMap]
  congr 1
  funext x
  rw [List.map_map]
  show m.map (fun _ => x) = _
  exact List.map_const' ..
theorem pairs_len (l m : List (Nat × Stp)) : (pairsL l m).length = l.length * m.length := by
  induction l with
  | nil => simp
  | cons x r ih =>
    show ((m.map fun y => (x, y)) ++ pairsL r m).length = _
    rw [List.length_append, List.length_map, ih, List.length_cons, Nat.succ_mul]; omega
theorem flat_two {α β : Type} (f g : α → List β) : ∀ l : List α, (l.flatMap fun x => f x ++ g x).Perm (l.flatMap f ++ l.flatMap g)
  | [] => .nil
  | x :: r => by
    have ih := flat_two f g r
    show (f x ++ g x ++ r.flatMap fun x => f x ++ g x).Perm (f x ++ r.flatMap f ++ (g x ++ r.flatMap g))
    refine (List.Perm.append_left _ ih).trans ?_
    rw [List.append_assoc, List.append_assoc]
    refine List.Perm.append_left _ ?_
    rw [← List.append_assoc, ← List.append_assoc]
    exact List.Perm.append_right _ List.perm_append_comm
theorem rep_perm {α : Type} (l : List α) : ∀ n, (List.replicate n l).flatten.Perm (l.flatMap fun x => List.replicate n x)
  | 0 => by
    show ([] : List α).Perm (l.flatMap fun x => [])
    rw [show (l.flatMap fun x => ([] : List α)) = [] from by induction l with | nil => rfl | cons x r ih => exact ih]
  | n + 1 => by
    show (l ++ (List.replicate n l).flatten).Perm (l.flatMap fun x => [x] ++ List.replicate n x)
    refine ((rep_perm l n).append_left l).trans ?_
    refine List.Perm.symm ((flat_two (fun x => [x]) (fun x => List.replicate n x) l).trans ?_)
    rw [show (l.flatMap fun x => [x]) = l from by induction l with | nil => rfl | cons x r ih => exact congrArg (x :: ·) ih]
theorem rep_sorted {l : List (Nat × Stp)} (h : l.Pairwise fun a b => ¬ LtQ b a) (n : Nat) : (l.flatMap fun x => List.replicate n x).Pairwise fun a b => ¬ LtQ b a := by
  rw [List.pairwise_flatMap]
  refine ⟨fun x _ => ?_, h.imp fun {a b} h x hx y hy => ?_⟩
  · rw [List.pairwise_replicate]
    right
    intro z
    simp only [LtQ, LtS] at z
    omega
  · rw [List.eq_of_mem_replicate hx, List.eq_of_mem_replicate hy]; exact h
theorem rep_one {l bs : List (Nat × Stp)} (h : l.Pairwise fun a b => ¬ LtQ b a) {n : Nat} (pm : bs.Perm (List.replicate n l).flatten) (pw : bs.Pairwise fun a b => dataLe false stD4 a b = true) : bs = l.flatMap fun x => List.replicate n x :=
  sorted_one anti_stD4 (pm.trans (rep_perm l n)) (pw.imp fun h => (le_stD4 _ _).mp h) (rep_sorted h n)
/-! ### what may be shown -/
def Pln4 (x : Nat × Stp) : Prop := x.1 < 1000 ∧ x.2.1.1 < 128 ∧ x.2.1.2 < 128 ∧ 0 ≤ x.2.2 ∧ x.2.2 < 1000
theorem due_pln {rows : List (List Stp)} {ends : List Nat} (D : Drawn rows ends) : ∀ x ∈ dueL rows, Pln4 x := fun x hx => by
  obtain ⟨h1, ts, h2, h3⟩ := mem_stepsTo hx
  obtain ⟨z1, _, z3, z4⟩ := (D.each ts (List.mem_of_getElem? h2)).2.2.2 _ h3
  have := D.len
  rw [Bool.and_eq_true] at z1
  exact ⟨by omega, ok_lt z1.1, ok_lt z1.2, z3, by omega⟩
theorem pln_stD4 {x : Nat × Stp} (h : Pln4 x) : pln (stD4 x) = true := by
  obtain ⟨h1, h2, h3, h4, h5⟩ := h
  simp only [stD4, pln, plns, Bool.and_true, Bool.and_eq_true, decide_eq_true_eq, List.all_cons, List.all_nil]
  refine ⟨?_, h2, h3, ?_⟩
  · exact Nat.lt_of_lt_of_le (by omega : (x.1 : Int).natAbs < 1000) (by decide)
  · exact Nat.lt_of_lt_of_le (by omega : x.2.2.natAbs < 1000) (by decide)
theorem shw_list {l : List (Nat × Stp)} (h : ∀ x ∈ l, Pln4 x) : plns (l.map stD4) = true ∧ PyData.hasDictAll (l.map stD4) = false ∧ PyData.depthAll (l.map stD4) ≤ 1 ∧ PyData.bulkAll (l.map stD4) = 7 * l.length := by
  induction l with
  | nil => exact ⟨rfl, rfl, Nat.zero_le _, rfl⟩
  | cons x r ih =>
    obtain ⟨i1, i2, i3, i4⟩ := ih fun y hy => h y (List.mem_cons_of_mem _ hy)
    refine ⟨?_, ?_, ?_, ?_⟩
    · show (pln (stD4 x) && plns (r.map stD4)) = true
      rw [pln_stD4 (h x List.mem_cons_self), i1]; rfl
    · show ((stD4 x).hasDict || PyData.hasDictAll (r.map stD4)) = false
      rw [i2]; rfl
    · show max (stD4 x).depth (PyData.depthAll (r.map stD4)) ≤ 1
      rw [show (stD4 x).depth = 1 from rfl]; omega
    · show (stD4 x).bulk + 1 + PyData.bulkAll (r.map stD4) = _
      rw [i4, show (stD4 x).bulk = 6 from rfl, List.length_cons]; omega
theorem shw_due {l : List (Nat × Stp)} (h : ∀ x ∈ l, Pln4 x) (hl : l.length ≤ 10000) : Shw (.list (l.map stD4)) := by
  obtain ⟨i1, i2, i3, i4⟩ := shw_list h
  refine ⟨i1, .inl i2, ?_, ?_⟩
  · show PyData.depthAll (l.map stD4) + 1 ≤ 60
    omega
  · show PyData.bulkAll (l.map stD4) ≤ 200000
    omega
theorem shw_two {l : List (Nat × Stp)} (h : ∀ x ∈ l, Pln4 x) (hl : l.length ≤ 10000) : Shw (.list [.list (l.map stD4), .list (l.map stD4)]) := by
  obtain ⟨i1, i2, i3, i4⟩ := shw_list h
  refine ⟨?_, .inl ?_, ?_, ?_⟩
  · show (plns (l.map stD4) && (plns (l.map stD4) && true)) = true
    rw [i1]; rfl
  · show (PyData.hasDictAll (l.map stD4) || (PyData.hasDictAll (l.map stD4) || false)) = false
    rw [i2]; rfl
  · show max (PyData.depthAll (l.map stD4) + 1) (max (PyData.depthAll (l.map stD4) + 1) 0) + 1 ≤ 60
    omega
  · show PyData.bulkAll (l.map stD4) + 1 + (PyData.bulkAll (l.map stD4) + 1 + 0) ≤ 200000
    omega
/-! ### the texts of a and b -/
theorem fnd_ab : ∀ l ∈ fnd ab2 3, l.length ≤ 3 ∧ ∀ c ∈ l, c < 128 := by decide +kernel
theorem fnd_len : (fnd ab2 3).length = 15 := by decide +kernel
theorem rowN_lt {xs ys : List Nat} (hx : ∀ c ∈ xs, c < 128) (hy : ∀ c ∈ ys, c < 128) : ∀ p ∈ rowN xs ys, p.1 < 128 ∧ p.2 < 128 := fun p hp => by
  have key : ∀ (zs : List Nat) (n : Nat), (∀ c ∈ zs, c < 128) → ∀ c ∈ padL zs n, c < 128 := fun zs n h c hc => by
    rcases List.mem_append.mp hc with hc | hc
    · exact h c hc
    · rw [List.eq_of_mem_replicate hc]; decide
  have := List.of_mem_zip hp
  exact ⟨key _ _ hx _ this.1, key _ _ hy _ this.2⟩
end KP
namespace KP
open PySem PySem.Spec PyProof.Rows L2 EL
open Evl (pss_cut)
abbrev sLRight : Stmt := topS 60
theorem scLRight : FnScope ["_law_sheet_here", "_law_most", "_law_code", "_law_every", "_law_x", "_law_told", "_law_due", "_law_spot", "_law_lot", "_law_pairs", "_law_step", "_law_y", "_law_other_step"] ["_law_sheet_here", "_law_most"] (defScope sLRight) := ⟨rfl, rfl, rfl, by decide +kernel, rfl, by decide +kernel, by decide +kernel⟩
open LamX NdefX
/-- a method that may be called -/
structure CalM (P : Program) (w : World) (K : PySem.W.Frag) (mg : Str → Option Value) (base : Heap) (k : Nat) (C : Addr) (m : Str) (ps : List Str) (sp : Sp) where
  f : Addr
  fd : FuncData
  ok : FnOk P w K mg base CX0 k f fd ps sp
  mt : Meth K C m f
  b : Binds K fd ps []
theorem pe_calM {X : Cx} {k : Nat} {C : Addr} {m : Str} {ps : List Str} {sp : Sp} {E : XK} {o e : Expr} {es : List Expr} {ta : TE} {t : TA} {apos pos : Pos} {pl : Sem Bool} (c : Cls X.K C) (M : CalM X.prog X.w X.K X.mg X.base k C m ps sp) (hr : Room k X.A) (hx : Passes CX0 X E) (he : PE X o ta) (ha : PA X (e :: es) t)
    (hst : starEach (e :: es) X.env = (false, eval e X.env) :: starEach es X.env := by rfl) (hpl : (backTo pos (starEach es X.env)).any (·.1) = false := by rfl)
    (ht : eval (.Call (.Attribute o m apos) (e :: es) [] pos) X.env = (do
      let ov ← eval o X.env
      standAt apos.atName
      let (f, first) ← holding [ov] (getMethod ov m pl)
      callWith pos f first (backTo pos (starEach (e :: es) X.env)) (backToKw pos (keywordEach [] X.env))) := by rfl) :
    PE X (.Call (.Attribute o m apos) (e :: es) [] pos) (tMeth C m sp [] E ta t) := pe_meth he c M.mt M.ok hr M.b .nil hx ha hst hpl ht

theorem lcl_extend {α : Type} {R : Hp → V → α → Prop} {D : Addr} {H H1 H2 : Hp} {l ms : List α} {zs : List V} (u : UpR R) (L : LcL R D H l H1) (s : Same H1 H2) (hv : AllR R (wo D H2) zs ms) :
    ∃ acc, H2 D = some (.lst acc) ∧ acc.length = l.length ∧ LcL R D H (l ++ ms) (upd H2 D (.lst (acc ++ zs))) := by
  obtain ⟨vs, h1, h2, h4⟩ := L.up u s
  refine ⟨vs, h1, h2.len, vs ++ zs, upd_same, ?_, ?_⟩
  · rw [wo_upd]; exact AllR.app h2 hv
  · rw [wo_upd]; exact h4
/-- two steps with their states -/
def Sd2 (K : PySem.W.Frag) (H : Hp) (v : V) (x : (Nat × Stp) × (Nat × Stp)) : Prop := ∃ t y z, v = .ref t ∧ H t = some (.tup [y, z]) ∧ Dq K H y (stD4 x.1) ∧ Dq K H z (stD4 x.2)
theorem sd2_up {K : PySem.W.Frag} : UpR (Sd2 K) := fun _ _ _ _ s h => by
  obtain ⟨t, y, z, e, h1, h2, h3⟩ := h
  exact ⟨t, y, z, e, s _ _ h1, h2.up s, h3.up s⟩
theorem sdR_kpt {K : PySem.W.Frag} {H H' : Hp} {vs : List V} {l : List (Nat × Stp)} (k : KpT H H') (h : AllR (SdR K) H vs l) : AllR (SdR K) H' vs l := Paired.mapP h fun _ _ z => dq_kpt k _ _ z rfl
theorem sd2_kpt {K : PySem.W.Frag} {H H' : Hp} {vs : List V} {l : List ((Nat × Stp) × (Nat × Stp))} (k : KpT H H') (h : AllR (Sd2 K) H vs l) : AllR (Sd2 K) H' vs l := Paired.mapP h fun _ _ z => by
  obtain ⟨t, y, w, e, h1, h2, h3⟩ := z
  exact ⟨t, y, w, e, (k t _).1 h1, dq_kpt k _ _ h2 rfl, dq_kpt k _ _ h3 rfl⟩
theorem lcl_dq {K : PySem.W.Frag} {D : Addr} {H H1 : Hp} {l : List (Nat × Stp)} (L : LcL (SdR K) D H l H1) : ∃ vs, H1 D = some (.lst vs) ∧ vs.length = l.length ∧ DqAll K H1 vs (l.map stD4) := by
  obtain ⟨vs, h1, h2, _⟩ := L
  exact ⟨vs, h1, h2.len, (sdR_all h2).up wo_sub⟩
theorem dq_rep {K : PySem.W.Frag} {H : Hp} {vs : List V} {l : List (Nat × Stp)} (h : DqAll K H vs (l.map stD4)) : ∀ n : Nat, DqAll K H (List.replicate n vs).flatten ((List.replicate n l).flatten.map stD4)
  | 0 => .nil
  | n + 1 => by
    rw [List.replicate_succ, List.replicate_succ, List.flatten_cons, List.flatten_cons, List.map_append]
    exact h.app (dq_rep h n)
theorem pairs_snoc (l m : List (Nat × Stp)) (x : Nat × Stp) : pairsL (l ++ [x]) m = pairsL l m ++ m.map fun y => (x, y) := by
  show (l ++ [x]).flatMap _ = _
  rw [List.flatMap_append]; simp
theorem alike_self : ∀ l : List (Nat × Stp), PySem.W.alikeAll (l.map stD4) (l.map stD4) = true
  | [] => by simp [PySem.W.alikeAll]
  | x :: r => by
    rw [List.map_cons, PySem.W.alikeAll, alike_self r]
    simp [stD4, PySem.W.alike, PySem.W.alikeAll]
theorem due_item {K : PySem.W.Frag} {H : Hp} {zs : List V} {l : List (Nat × Stp)} {i : Nat} {v : V} (h : DqAll K H zs (l.map stD4)) (e : zs[i]? = some v) : ∃ x, l[i]? = some x ∧ Dq K H v (stD4 x) := by
  obtain ⟨d, h1, h2⟩ := h.at e
  rw [List.getElem?_map] at h1
  obtain ⟨x, h3, rfl⟩ := Option.map_eq_some_iff.mp h1
  exact ⟨x, h3, h2⟩
/-- a method called by names -/
def tKw (C : Addr) (m : Str) (sp : Sp) (E : XK) (ta : TE) (tk : TA) (gV : List V → List V → List V) : TE := fun σ H Q => ta σ H fun x H1 => ∃ a dx fs, x = .ref a ∧ H1 a = some (.ins C dx fs) ∧ fs.lookup m = none ∧ tk σ H1 fun zs H2 => sp (gV [.ref a] zs) H2 Q E
def spRightS (K : PySem.W.Frag) (T : List (Addr × Str)) (b0 : Addr) : Sp := fun vs H Q _ => ∃ (v : V) (rows : List (List Stp)) (ends : List Nat), vs = [v, .int 3] ∧ Dq K H v (sheetD rows ends) ∧ Drawn rows ends ∧ Grd T b0 H ∧
  ∀ H', ExtN H H' → Tabs T H' → Q (.bl true) H'
section
variable {P : Program} {w : World} {K : PySem.W.Frag} {mg : Str → Option Value} {base : Heap}
theorem StpAt.ins {C : Addr} {H : Hp} {x : Addr} {rows : List (List Stp)} {ends : List Nat} (h : StpAt K C H x rows ends) : ∃ dx fs st zs, H x = some (.ins C dx fs) ∧ fs.lookup ("tells" : Str) = none ∧ fs.lookup ("steps" : Str) = some (.ref st) ∧ SqT K H st zs ∧ DqAll K H zs ((dueL rows).map stD4) := by
  obtain ⟨dx, a, b, st, tb, tl, h1, h2, h3, h4, h5, h6⟩ := h.at_
  obtain ⟨_, zs, e, hs, ha⟩ := dq_tup h4
  cases e
  exact ⟨dx, _, st, zs, h1, sf_miss _ _ _ _ (by decide +kernel) (by decide +kernel) (by decide +kernel) (by decide +kernel), sf_s _ _ _ _, hs, ha⟩
theorem bools_dq {H : Hp} (l : List (List Nat)) (f : List Nat → Bool) : DqAll K H (l.map fun y => V.bl (f y)) ((l.map f).map PyData.bool) := by
  induction l with
  | nil => exact .nil
  | cons x r ih => exact .cons (.bl _) ih
theorem bools_lc {D : Addr} {P : Nat → Hp → Prop} {H1 : Hp} {l : List (List Nat)} {f : List Nat → Bool} (h : LcP D P (fun j v => ∃ y, l[j]? = some y ∧ v = some (.bl (f y))) l.length H1) : H1 D = some (.lst (l.map fun y => V.bl (f y))) ∧ P l.length H1 := by
  obtain ⟨ys, hl, hR, hD, hP⟩ := h
  have e := rows_map (f := fun y => some (V.bl (f y))) (l := l) hl hR
  rw [e] at hD
  exact ⟨by rw [hD]; simp [List.filterMap_map, Function.comp_def], hP⟩
theorem ok_LRight {f C b0 : Addr} {T : List (Addr × Str)} {fd : FuncData} {k : Nat} (F : Fun K "_law_right" "_law_right" sLRight f fd) (nrepr : mg "repr" = none) (nenumerate : mg "enumerate" = none) (nlen : mg "len" = none) (nsorted : mg "sorted" = none) (S : STxt K C) (CS : CalS P w K mg base k C T b0) (CLTexts : Cal P w K mg base (k + 1) "_law_texts" ["_law_most"] (spTextsM K)) (CLIsRead : Cal P w K mg base (k + 1) "_law_is_read" ["_law_sheet_here", "_law_x", "_law_y"] (spIsRead K))
    (M : CalM P w K mg base (k + 1) C "tells" ["self", "left", "right"] (spTells K C)) (kb : KBinds K M.fd ["self", "left", "right"] ["right", "left"] kwM2r kwM2r) (CI : CalI P w K mg base (k + 1) C "steps") : FnG P w K mg base (k + 2) f fd ["_law_sheet_here", "_law_most"] (spRightS K T b0) := by
  refine FnG.body F scLRight (fun vs H Q E h => ?_) (fun cdv A outer s H vs Q E hr h => ?_)
  · obtain ⟨v, rows, ends, rfl, _⟩ := h; rfl
  · obtain ⟨v, rows, ends, rfl, hv, D, hG, kQ⟩ := h
    have hu := hr.r.units
    have hr1 := hr.r
    have hu2 : (A.deeper (envOfC "_law_right" (defScope sLRight) s.heap.objs.size f cdv)).units + 64 < cLine := by omega
    refine ⟨_, (pss_cons (ps_asg (pe_tup (pa_cons (pe_stp CS hr1 (by rfl) pass0 (pa_cons (pe_ix (show IxR _ (rIxT K) from ix_tup) (pv 0) pe_int (fun _ _ => rfl)) (pa_cons (pe_ix (show IxR _ (rIxT K) from ix_tup) (pv 0) pe_int (fun _ _ => rfl)) pa_nil))) (pa_cons (pe_cal CLTexts hr.r (by rfl) pass0 (pa_cons (pv 1) pa_nil)) pa_nil))) (pg_tup (by rfl) (pgs_cons (pg_name (i := 2) scLRight.nd rfl (by first | exact Or.inl rfl | exact Or.inr rfl)) (pgs_cons (pg_name (i := 3) scLRight.nd rfl (by first | exact Or.inl rfl | exact Or.inr rfl)) pgs_nil))))
      (pss_cons (ps_for PassesOwn.never rfl (pi_list (pv 3)) (pg_name (i := 4) scLRight.nd rfl (by first | exact Or.inl rfl | exact Or.inr rfl)) (pss_cons (ps_par (i := 5) (j := 6) (by rfl) scLRight.nd rfl rfl (by decide) rfl rfl (pa_cons (pe_lc (own := [("_law_y", 11)]) (g := (gName 11)) (by rfl) scLRight.nd (pi_list (pv 3)) (blkOk_by (own := [("_law_y", 11)]) (N := ["_law_sheet_here", "_law_most", "_law_code", "_law_every", "_law_x", "_law_told", "_law_due", "_law_spot", "_law_lot", "_law_pairs", "_law_step", "_law_y", "_law_other_step"]) (sc := defScope sLRight) (by decide +kernel)) (fun _ _ _ _ _ => (pg_name (i := 11) scLRight.nd rfl (by first | exact Or.inl rfl | exact Or.inr rfl))) (fun _ _ _ _ _ => pts_nil) (fun _ _ _ _ _ => (pe_calM S.cl M hr.r pass0 (pv 2) (pa_cons (pv 4) (pa_cons (pv 11) pa_nil))))) (pa_cons (pe_lc (own := [("_law_y", 11)]) (g := (gName 11)) (by rfl) scLRight.nd (pi_list (pv 3)) (blkOk_by (own := [("_law_y", 11)]) (N := ["_law_sheet_here", "_law_most", "_law_code", "_law_every", "_law_x", "_law_told", "_law_due", "_law_spot", "_law_lot", "_law_pairs", "_law_step", "_law_y", "_law_other_step"]) (sc := defScope sLRight) (by decide +kernel)) (fun _ _ _ _ _ => (pg_name (i := 11) scLRight.nd rfl (by first | exact Or.inl rfl | exact Or.inr rfl))) (fun _ _ _ _ _ => pts_nil) (fun _ _ _ _ _ => (pe_cal CLIsRead hr.r (by rfl) pass0 (pa_cons (pv 0) (pa_cons (pv 4) (pa_cons (pv 11) pa_nil)))))) pa_nil)) (by rfl))
      (pss_one (ps_if (pt_cmpR op_ne (pe_callB (call_repr hr) (by rfl) nrepr (by decide +kernel) (pa_cons (pv 5) pa_nil)) (pe_callB (call_repr hr) (by rfl) nrepr (by decide +kernel) (pa_cons (pv 6) pa_nil)) (nomark _)) (pss_one (ps_ret pe_bl)) pss_nil))))
      (pss_cons (ps_if (pt_cmpR op_ne (pe_callB (call_repr hr) (by rfl) nrepr (by decide +kernel) (pa_cons (pe_lc (own := [("_law_x", 4)]) (g := (gName 4)) (by rfl) scLRight.nd (pi_list (pv 3)) (blkOk_by (own := [("_law_x", 4)]) (N := ["_law_sheet_here", "_law_most", "_law_code", "_law_every", "_law_x", "_law_told", "_law_due", "_law_spot", "_law_lot", "_law_pairs", "_law_step", "_law_y", "_law_other_step"]) (sc := defScope sLRight) (by decide +kernel)) (fun _ _ _ _ _ => (pg_name (i := 4) scLRight.nd rfl (by first | exact Or.inl rfl | exact Or.inr rfl))) (fun _ _ _ _ _ => pts_nil) (fun _ _ _ _ _ => (show PE _ _ (tKw C "tells" (spTells K C) E0 (tVar 2) _ kwM2r) from pe_methK0 (pv 2) S.cl M.mt M.ok hr.r kb pass0 (pk_cons pe_str (pk_cons (pv 4) pk_nil))))) pa_nil)) (pe_callB (call_repr hr) (by rfl) nrepr (by decide +kernel) (pa_cons (pe_lc (own := [("_law_x", 4)]) (g := (gName 4)) (by rfl) scLRight.nd (pi_list (pv 3)) (blkOk_by (own := [("_law_x", 4)]) (N := ["_law_sheet_here", "_law_most", "_law_code", "_law_every", "_law_x", "_law_told", "_law_due", "_law_spot", "_law_lot", "_law_pairs", "_law_step", "_law_y", "_law_other_step"]) (sc := defScope sLRight) (by decide +kernel)) (fun _ _ _ _ _ => (pg_name (i := 4) scLRight.nd rfl (by first | exact Or.inl rfl | exact Or.inr rfl))) (fun _ _ _ _ _ => pts_nil) (fun _ _ _ _ _ => (pe_cal CLIsRead hr.r (by rfl) pass0 (pa_cons (pv 0) (pa_cons (pv 4) (pa_cons pe_str pa_nil)))))) pa_nil)) (nomark _)) (pss_one (ps_ret pe_bl)) pss_nil)
      (pss_cons (ps_set (i := 6) scLRight.nd rfl (by first | exact Or.inl rfl | exact Or.inr rfl) (pe_lst pa_nil))
      (pss_cons (ps_for PassesOwn.never rfl (pi_enumT (by rfl) nenumerate (pa_cons (pe_ix (show IxR _ (rIxT K) from ix_tup) (pv 0) pe_int (fun _ _ => rfl)) pa_nil)) (pg_tup (by rfl) (pgs_cons (pg_name (i := 7) scLRight.nd rfl (by first | exact Or.inl rfl | exact Or.inr rfl)) (pgs_cons (pg_name (i := 8) scLRight.nd rfl (by first | exact Or.inl rfl | exact Or.inr rfl)) pgs_nil))) (pss_one (ps_expr (pe_bm PySem.F.plainAttrs_list PySem.F.slot_list_extend PySem.F.type_list_extend mt_extend (pv 6) (pa_cons (pe_lc (own := [("_law_step", 10)]) (g := (gName 10)) (by rfl) scLRight.nd (pi_tup (pv 8)) (blkOk_by (own := [("_law_step", 10)]) (N := ["_law_sheet_here", "_law_most", "_law_code", "_law_every", "_law_x", "_law_told", "_law_due", "_law_spot", "_law_lot", "_law_pairs", "_law_step", "_law_y", "_law_other_step"]) (sc := defScope sLRight) (by decide +kernel)) (fun _ _ _ _ _ => (pg_name (i := 10) scLRight.nd rfl (by first | exact Or.inl rfl | exact Or.inr rfl))) (fun _ _ _ _ _ => pts_nil) (fun _ _ _ _ _ => (pe_op (show OpR _ _ (rCatA K) from op_catA) (pe_tup (pa_cons (pv 7) pa_nil)) (pv 10)))) pa_nil)))))
      (pss_cons (ps_if (pt_cmpR op_ne (pe_callB (call_repr hr) (by rfl) nrepr (by decide +kernel) (pa_cons (pe_lst (pa_cons (pe_lc (own := [("_law_step", 10)]) (g := (gName 10)) (by rfl) scLRight.nd (pi_own CI hr.r pass0 (pv 2)) (blkOk_by (own := [("_law_step", 10)]) (N := ["_law_sheet_here", "_law_most", "_law_code", "_law_every", "_law_x", "_law_told", "_law_due", "_law_spot", "_law_lot", "_law_pairs", "_law_step", "_law_y", "_law_other_step"]) (sc := defScope sLRight) (by decide +kernel)) (fun _ _ _ _ _ => (pg_name (i := 10) scLRight.nd rfl (by first | exact Or.inl rfl | exact Or.inr rfl))) (fun _ _ _ _ _ => pts_nil) (fun _ _ _ _ _ => (pv 10))) (pa_cons (pe_lc (own := [("_law_step", 10)]) (g := (gName 10)) (by rfl) scLRight.nd (pi_own CI hr.r pass0 (pv 2)) (blkOk_by (own := [("_law_step", 10)]) (N := ["_law_sheet_here", "_law_most", "_law_code", "_law_every", "_law_x", "_law_told", "_law_due", "_law_spot", "_law_lot", "_law_pairs", "_law_step", "_law_y", "_law_other_step"]) (sc := defScope sLRight) (by decide +kernel)) (fun _ _ _ _ _ => (pg_name (i := 10) scLRight.nd rfl (by first | exact Or.inl rfl | exact Or.inr rfl))) (fun _ _ _ _ _ => pts_nil) (fun _ _ _ _ _ => (pv 10))) pa_nil))) pa_nil)) (pe_callB (call_repr hr) (by rfl) nrepr (by decide +kernel) (pa_cons (pe_lst (pa_cons (pv 6) (pa_cons (pv 6) pa_nil))) pa_nil)) (nomark _)) (pss_one (ps_ret pe_bl)) pss_nil)
      (pss_cons (ps_set (i := 9) scLRight.nd rfl (by first | exact Or.inl rfl | exact Or.inr rfl) (pe_lst pa_nil))
      (pss_cons (ps_for PassesOwn.never rfl (pi_own CI hr.r pass0 (pv 2)) (pg_name (i := 10) scLRight.nd rfl (by first | exact Or.inl rfl | exact Or.inr rfl)) (pss_one (ps_expr (pe_bm PySem.F.plainAttrs_list PySem.F.slot_list_extend PySem.F.type_list_extend mt_extend (pv 9) (pa_cons (pe_lc (own := [("_law_other_step", 12)]) (g := (gName 12)) (by rfl) scLRight.nd (pi_own CI hr.r pass0 (pv 2)) (blkOk_by (own := [("_law_other_step", 12)]) (N := ["_law_sheet_here", "_law_most", "_law_code", "_law_every", "_law_x", "_law_told", "_law_due", "_law_spot", "_law_lot", "_law_pairs", "_law_step", "_law_y", "_law_other_step"]) (sc := defScope sLRight) (by decide +kernel)) (fun _ _ _ _ _ => (pg_name (i := 12) scLRight.nd rfl (by first | exact Or.inl rfl | exact Or.inr rfl))) (fun _ _ _ _ _ => pts_nil) (fun _ _ _ _ _ => (pe_tup (pa_cons (pv 10) (pa_cons (pv 12) pa_nil))))) pa_nil)))))
      (pss_one (ps_ret (pe_and (pe_cmpR op_eq (pe_callB (show CallR _ _ (rLenK K) from call_len) (by rfl) nlen (by decide +kernel) (pa_cons (pv 9) pa_nil)) (pe_op op_pow (pe_callB (show CallR _ _ (rLenK K) from call_len) (by rfl) nlen (by decide +kernel) (pa_cons (pv 6) pa_nil)) pe_int) (nomark _)) (pe_one (pe_cmpR (op_eqD hu2) (pe_lc (own := [("_law_step", 10), ("_law_other_step", 12)]) (g := (gTup K 2 (gCons (gName 10) (gCons (gName 12) gNil)))) (by rfl) scLRight.nd (pi_list (pv 9)) (blkOk_by (own := [("_law_step", 10), ("_law_other_step", 12)]) (N := ["_law_sheet_here", "_law_most", "_law_code", "_law_every", "_law_x", "_law_told", "_law_due", "_law_spot", "_law_lot", "_law_pairs", "_law_step", "_law_y", "_law_other_step"]) (sc := defScope sLRight) (by decide +kernel)) (fun _ _ _ _ _ => (pg_tup (by rfl) (pgs_cons (pg_name (i := 10) scLRight.nd rfl (by first | exact Or.inl rfl | exact Or.inr rfl)) (pgs_cons (pg_name (i := 12) scLRight.nd rfl (by first | exact Or.inl rfl | exact Or.inr rfl)) pgs_nil)))) (fun _ _ _ _ _ => pts_nil) (fun _ _ _ _ _ => (pv 10))) (pe_callB (cr_sortedD stD4 hu2) (by rfl) nsorted (by decide +kernel) (pa_cons (pe_op op_rep (pv 6) (pe_callB (show CallR _ _ (rLenK K) from call_len) (by rfl) nlen (by decide +kernel) (pa_cons (pv 6) pa_nil))) pa_nil)) (nomark _)))))))))))))), ?_⟩
    have two : 2 ≤ sizeLine := by decide
    have one : 1 ≤ sizeLine := by decide
    have iv : 4 ≤ sizeLine := by decide
    obtain ⟨a, xs, rfl, hxs, hxa⟩ := dq_tup hv
    obtain ⟨vr, ve, rfl, hvr, hve⟩ := dq_two hxa
    obtain ⟨ar, xr, rfl, hsr, har⟩ := dq_tup hvr
    obtain ⟨ae, xe, rfl, hse, hae⟩ := dq_tup hve
    obtain rfl := dqAll_nums hae
    refine ⟨.ref a, rfl, a, _, _, .ref ar, rfl, rfl, hxs, (by rfl), .ref a, rfl, a, _, _, .ref ae, rfl, rfl, hxs, (by rfl), ?_⟩
    refine ⟨ar, ae, rows, ends, rfl, hvr, hse, D.ok, hG, fun x H1 e1 t1 nx hS => ?_⟩
    refine ⟨.int 3, rfl, 3, rfl, by decide, fun H2 r s2 g2 n2 => ?_⟩
    refine ⟨two, fun tt ntt => ?_⟩
    have s3 := same_upd (o := .tup [.ref x, .ref r]) ntt
    have g3 : upd H2 tt (.tup [.ref x, .ref r]) tt = some (.tup [.ref x, .ref r]) := upd_same
    generalize upd H2 tt (.tup [.ref x, .ref r]) = H3 at s3 g3 ⊢
    have hS3 := (hS.up s2).up s3
    have e3 : ExtN H H3 := (e1.trans (ExtN.of s2)).trans (ExtN.of s3)
    have t3 : Tabs T H3 := (t1.ext s2).ext s3
    have hv3 := hv.ext e3
    have gr := s3 _ _ g2
    have tl : ((fnd ab2 3).map strV).length = 15 := by rw [List.length_map, fnd_len]
    clear hS s2 s3 t1 e1 g2 n2 ntt nx
    refine ⟨tt, _, rfl, stOf g3, rfl, _, _, rfl, _, _, rfl, rfl, ?_⟩
    clear g3
    refine ⟨.ref r, rfl, r, rfl, ⟨_, sqOf gr⟩, ?_⟩
    refine for_it walk_list (fun j σ H' => ∃ (y4 y5 y6 : Option V), σ = [some (.ref a), some (.int 3), some (.ref x), some (.ref r), y4, y5, y6, none, none, none, none, none, none] ∧ Same H3 H')
      ⟨none, none, none, rfl, Same.refl _⟩ (fun j H' σ _ z => by obtain ⟨_, _, _, _, z⟩ := z; exact sqOf (z _ _ gr)) ?_ ?_
    · rintro j v σ H9 H4 hj ⟨y4, y5, y6, rfl, s4⟩ ⟨rfl, hvj⟩
      rw [List.getElem?_map] at hvj
      obtain ⟨xt, hxt, rfl⟩ := Option.map_eq_some_iff.mp hvj
      obtain ⟨x1, x2⟩ := fnd_ab xt (List.mem_of_getElem? hxt)
      refine ⟨.ref r, rfl, r, rfl, ⟨_, sqOf (s4 _ _ gr)⟩, fun D1 nD1 => ?_⟩
      refine lc_it walk_list (LcP D1 (fun _ H' => Same H4 H') (fun j v => ∃ y, (fnd ab2 3)[j]? = some y ∧ v = some (.bl (readN rows ends (rowN xt y))))) (LcP.start (same_upd nD1)) (fun i H' _ z => by obtain ⟨_, _, _, _, sm⟩ := z; exact sqOf (sm _ _ (s4 _ _ gr))) ?_ ?_
      · rintro i w9 H9 H5 hi ⟨ys, hl, hR, hD, sm⟩ ⟨rfl, hw⟩
        rw [List.getElem?_map] at hw
        obtain ⟨y, hy, rfl⟩ := Option.map_eq_some_iff.mp hw
        obtain ⟨y1, y2⟩ := fnd_ab y (List.mem_of_getElem? hy)
        refine ⟨rfl, ?_⟩
        dsimp only [tYes]
        refine iteT ?_
        have sy := s4.trans sm
        obtain ⟨dx, fs, st, zs, i1, i2, i3, i4, i5⟩ := (hS3.up sy).ins
        refine ⟨_, rfl, x, dx, fs, rfl, i1, i2, _, rfl, _, rfl, x, _, _, rows, ends, rfl, hS3.up sy, D.R, (by show xt.length ≤ 1000000; omega), (by show y.length ≤ 1000000; omega), fun H7 s7 => ?_⟩
        exact lcp_some hl hR (s7 _ _ hD) (by omega) ⟨y, hy, rfl⟩ fun b o q => by rw [upd_ne (ne_of_none q nD1)]; exact s7 _ _ (sm b o q)
      rintro H6 hLC
      rw [tl] at hLC
      rw [← fnd_len] at hLC
      obtain ⟨gD1, sD1⟩ := bools_lc (f := fun y => readN rows ends (rowN xt y)) hLC
      have s6 := s4.trans sD1
      refine ⟨.ref r, rfl, r, rfl, ⟨_, sqOf (s6 _ _ gr)⟩, fun D2 nD2 => ?_⟩
      refine lc_it walk_list (LcP D2 (fun _ H' => Same H6 H') (fun j v => ∃ y, (fnd ab2 3)[j]? = some y ∧ v = some (.bl (readN rows ends (rowN xt y))))) (LcP.start (same_upd nD2)) (fun i H' _ z => by obtain ⟨_, _, _, _, sm⟩ := z; exact sqOf (sm _ _ (s6 _ _ gr))) ?_ ?_
      · rintro i w9 H9 H5 hi ⟨ys, hl, hR, hD, sm⟩ ⟨rfl, hw⟩
        rw [List.getElem?_map] at hw
        obtain ⟨y, hy, rfl⟩ := Option.map_eq_some_iff.mp hw
        obtain ⟨y1, y2⟩ := fnd_ab y (List.mem_of_getElem? hy)
        refine ⟨rfl, ?_⟩
        dsimp only [tYes]
        refine iteT ?_
        have sy := s6.trans sm
        obtain ⟨dx, fs, st, zs, i1, i2, i3, i4, i5⟩ := (hS3.up sy).ins
        refine ⟨_, rfl, _, rfl, _, rfl, _, _, _, rows, ends, rfl, hv3.up sy, D.sheet, (by show xt.length ≤ 1000; omega), (by show y.length ≤ 1000; omega), rowN_lt x2 y2, fun H7 s7 => ?_⟩
        exact lcp_some hl hR (s7 _ _ hD) (by omega) ⟨y, hy, rfl⟩ fun b o q => by rw [upd_ne (ne_of_none q nD2)]; exact s7 _ _ (sm b o q)
      rintro H7 hLC
      rw [tl] at hLC
      rw [← fnd_len] at hLC
      obtain ⟨gD2, sD2⟩ := bools_lc (f := fun y => readN rows ends (rowN xt y)) hLC
      have gD1 := sD2 _ _ gD1
      refine ⟨_, _, rfl, ?_⟩
      have S1 : Shw (.list ((((fnd ab2 3).map fun y => readN rows ends (rowN xt y))).map PyData.bool)) := shw_bools _ (by rw [List.length_map, fnd_len]; decide)
      refine ⟨_, rfl, _, _, rfl, .lst (sqOf gD1) (bools_dq _ _), S1.r.1, S1.r.2.1, S1.r.2.2.1, S1.r.2.2.2, ?_⟩
      refine ⟨_, rfl, _, _, rfl, .lst (sqOf gD2) (bools_dq _ _), S1.r.1, S1.r.2.1, S1.r.2.2.1, S1.r.2.2.2, ?_⟩
      refine ⟨rfl, _, rfl, ?_⟩
      rw [decide_eq_true rfl]
      exact iteF ⟨_, _, _, rfl, s6.trans sD2⟩
    rintro σ H4 ⟨y4, y5, y6, rfl, s4⟩
    refine ⟨.ref r, rfl, r, rfl, ⟨_, sqOf (s4 _ _ gr)⟩, fun D1 nD1 => ?_⟩
    refine lc_it walk_list (LcP D1 (fun _ H' => Same H4 H') (fun j v => ∃ y, (fnd ab2 3)[j]? = some y ∧ v = some (.bl (readN rows ends (rowN y [97, 98]))))) (LcP.start (same_upd nD1)) (fun i H' _ z => by obtain ⟨_, _, _, _, sm⟩ := z; exact sqOf (sm _ _ (s4 _ _ gr))) ?_ ?_
    · rintro i w9 H9 H5 hi ⟨ys, hl, hR, hD, sm⟩ ⟨rfl, hw⟩
      rw [List.getElem?_map] at hw
      obtain ⟨y, hy, rfl⟩ := Option.map_eq_some_iff.mp hw
      obtain ⟨y1, y2⟩ := fnd_ab y (List.mem_of_getElem? hy)
      refine ⟨rfl, ?_⟩
      dsimp only [tYes]
      refine iteT ?_
      have sy := s4.trans sm
      obtain ⟨dx, fs, st, zs, i1, i2, i3, i4, i5⟩ := (hS3.up sy).ins
      refine ⟨_, rfl, x, dx, fs, rfl, i1, i2, _, rfl, x, _, _, rows, ends, rfl, hS3.up sy, D.R, (by show y.length ≤ 1000000; omega), (by decide), fun H7 s7 => ?_⟩
      exact lcp_some hl hR (s7 _ _ hD) (by omega) ⟨y, hy, rfl⟩ fun b o q => by rw [upd_ne (ne_of_none q nD1)]; exact s7 _ _ (sm b o q)
    rintro H6 hLC
    rw [tl] at hLC
    rw [← fnd_len] at hLC
    obtain ⟨gD1, sD1⟩ := bools_lc (f := fun y => readN rows ends (rowN y [97, 98])) hLC
    have S1 : Shw (.list ((((fnd ab2 3).map fun y => readN rows ends (rowN y [97, 98]))).map PyData.bool)) := shw_bools _ (by rw [List.length_map, fnd_len]; decide)
    refine ⟨_, _, rfl, .lst (sqOf gD1) (bools_dq _ _), S1.r.1, S1.r.2.1, S1.r.2.2.1, S1.r.2.2.2, ?_⟩
    have s6 := s4.trans sD1
    refine ⟨.ref r, rfl, r, rfl, ⟨_, sqOf (s6 _ _ gr)⟩, fun D2 nD2 => ?_⟩
    refine lc_it walk_list (LcP D2 (fun _ H' => Same H6 H') (fun j v => ∃ y, (fnd ab2 3)[j]? = some y ∧ v = some (.bl (readN rows ends (rowN y [97, 98]))))) (LcP.start (same_upd nD2)) (fun i H' _ z => by obtain ⟨_, _, _, _, sm⟩ := z; exact sqOf (sm _ _ (s6 _ _ gr))) ?_ ?_
    · rintro i w9 H9 H5 hi ⟨ys, hl, hR, hD, sm⟩ ⟨rfl, hw⟩
      rw [List.getElem?_map] at hw
      obtain ⟨y, hy, rfl⟩ := Option.map_eq_some_iff.mp hw
      obtain ⟨y1, y2⟩ := fnd_ab y (List.mem_of_getElem? hy)
      refine ⟨rfl, ?_⟩
      dsimp only [tYes]
      refine iteT ?_
      have sy := s6.trans sm
      obtain ⟨dx, fs, st, zs, i1, i2, i3, i4, i5⟩ := (hS3.up sy).ins
      refine ⟨_, rfl, _, rfl, _, _, _, rows, ends, rfl, hv3.up sy, D.sheet, (by show y.length ≤ 1000; omega), (by decide), rowN_lt y2 (by decide), fun H7 s7 => ?_⟩
      exact lcp_some hl hR (s7 _ _ hD) (by omega) ⟨y, hy, rfl⟩ fun b o q => by rw [upd_ne (ne_of_none q nD2)]; exact s7 _ _ (sm b o q)
    rintro H7 hLC
    rw [tl] at hLC
    rw [← fnd_len] at hLC
    obtain ⟨gD2, sD2⟩ := bools_lc (f := fun y => readN rows ends (rowN y [97, 98])) hLC
    refine ⟨_, _, rfl, .lst (sqOf gD2) (bools_dq _ _), S1.r.1, S1.r.2.1, S1.r.2.2.1, S1.r.2.2.2, ?_⟩
    refine ⟨rfl, _, rfl, ?_⟩
    rw [decide_eq_true rfl]
    refine iteF ?_
    have s7 := s6.trans sD2
    clear gD1 sD1 gD2 sD2 nD1 nD2 s4 s6
    refine ⟨Nat.zero_le _, fun U nU => ?_⟩
    have LU : LcL (SdR K) U H7 (stepsTo rows 0) (upd H7 U (.lst [])) := LcL.start nU
    generalize upd H7 U (.lst []) = H8 at LU ⊢
    have s38 := s7.trans LU.sm
    refine ⟨.ref a, rfl, a, _, _, .ref ar, rfl, rfl, ex_t' s38 (SqT.ext hxs e3), (by rfl), ar, xr, rfl, ex_t' s38 (SqT.ext hsr e3), ?_⟩
    have hsr3 := SqT.ext hsr e3
    have har3 := DqAll.ext har e3
    have xrl : xr.length = rows.length := by rw [har.len, List.length_map]
    refine for_it (walk_enumT (K := K) (a := ar) (ys := xr)) (fun j σ H' => ∃ (y4 y5 y7 y8 : Option V), σ = [some (.ref a), some (.int 3), some (.ref x), some (.ref r), y4, y5, some (.ref U), y7, y8, none, none, none, none] ∧ LcL (SdR K) U H7 (stepsTo rows j) H')
      ⟨y4, y5, none, none, rfl, LU⟩ (fun j H' σ _ z => by obtain ⟨_, _, _, _, _, L⟩ := z; exact ex_t' (s7.trans L.sm) hsr3) ?_ ?_
    · rintro j v σ H9 Hz hj ⟨y4, y5, y7, y8, rfl, L⟩ ⟨T0, v1, v2, rfl, nT, rfl, q1, q2⟩
      cases q1
      have s9 := same_upd (o := .tup [V.int (j : Int), v2]) nT
      have g9 : upd H9 T0 (.tup [V.int (j : Int), v2]) T0 = some (.tup [V.int (j : Int), v2]) := upd_same
      generalize upd H9 T0 (.tup [V.int (j : Int), v2]) = H10 at s9 g9 ⊢
      obtain ⟨dr, hdr, dvr⟩ := har3.at q2
      obtain ⟨ts, hts, rfl⟩ := mv_get hdr
      obtain ⟨rr, rs, rfl, hrs, hra⟩ := dq_tup (dvr.up ((s7.trans L.sm).trans s9))
      have jl : j < rows.length := (List.getElem?_eq_some_iff.mp hts).1
      have tsl := (D.each ts (List.mem_of_getElem? hts)).1
      have rsl : rs.length = ts.length := by rw [hra.len, List.length_map]
      have tsG : rows.getD j [] = ts := by rw [List.getD_eq_getElem?_getD, hts]; rfl
      obtain ⟨va, gU, _⟩ := L.up sdR_up s9
      refine ⟨T0, _, rfl, stOf g9, rfl, _, _, rfl, _, _, rfl, rfl, ?_⟩
      refine ⟨.ref U, rfl, .inl ⟨rfl, _, sqOf gU⟩, .ref rr, rfl, rr, rfl, ⟨_, hrs⟩, fun E nE => ?_⟩
      refine lc_it walk_tup (fun i H' => LcL (SdR K) E H10 ((ts.take i).map fun t => (j, t)) H') (by rw [List.take_zero]; exact LcL.start nE) (fun i H' _ L => ex_t' L.sm hrs) ?_ ?_
      · rintro i w9 H11 H12 hi LE ⟨rfl, hw⟩
        obtain ⟨d, hd, dw⟩ := hra.at hw
        rw [List.getElem?_map] at hd
        obtain ⟨t, ht, rfl⟩ := Option.map_eq_some_iff.mp hd
        obtain ⟨q, rfl, hq⟩ := dq_stp (dw.up LE.sm)
        refine ⟨rfl, ?_⟩
        dsimp only [tYes]
        refine iteT ?_
        refine ⟨_, rfl, one, fun q1 nq1 => ⟨.ref q, rfl, q1, q, _, _, rfl, rfl, stOf upd_same, ex_t' (same_upd nq1) hq, iv, fun e => (by cases e), fun _ e => (by cases e), fun _ _ p np => ?_⟩⟩
        have s13 := (same_upd (o := .tup [V.int (j : Int)]) nq1).trans (same_upd (o := .tup ([V.int (j : Int)] ++ [.str ⟨#[t.1.1]⟩, .str ⟨#[t.1.2]⟩, .int t.2])) np)
        have hE := (LE.up sdR_up (same_upd (o := .tup [V.int (j : Int)]) nq1)).at
        rw [take_snoc ht, List.map_append]
        refine lcl_push sdR_up LE s13 (.tup (stOf (new_wo hE np)) (.cons (.int _) (.cons (.str _) (.cons (.str _) (.cons (.int _) .nil))))) (lt_sz (by rw [List.length_map, List.length_take]; omega))
      rintro H11 LE
      rw [rsl, List.take_length] at LE
      obtain ⟨zs, gE, aE, sE⟩ := LE
      have s911 : Same H9 H11 := s9.trans (sE.trans wo_sub)
      have gU11 := (sE.trans wo_sub) _ _ gU
      have aU : AllR (SdR K) (wo U H11) zs (ts.map fun t => (j, t)) := sdR_kpt ((KpT.of wo_sub).trans (KpT.wo gU11)) aE
      obtain ⟨acc, g1, l1, L1⟩ := lcl_extend sdR_up L s911 aU
      have l2 : (stepsTo rows j).length ≤ 5000 := Nat.le_trans (stepsTo_len D.R j) (by have := D.len; omega)
      refine ⟨U, E, acc, zs, rfl, rfl, g1, gE, len_sz (by rw [aE.len, List.length_map]; omega), ?_⟩
      exact ⟨y4, y5, _, _, rfl, by rw [stepsTo_succ, tsG]; exact L1⟩
    rintro σ H9 ⟨y4, y5, y7, y8, rfl, LU⟩
    rw [xrl] at LU
    have s39 := s7.trans LU.sm
    have dl := due_len D
    obtain ⟨dx, fs, st, zs, i1, i2, i3, i4, i5⟩ := (hS3.up s39).ins
    have zl : zs.length = (dueL rows).length := by rw [i5.len, List.length_map]
    refine ⟨_, rfl, x, dx, fs, st, zs, rfl, i1, i3, i4, fun E1 nE1 => ?_⟩
    refine lc_it walk_tup (fun i H' => LcL (SdR K) E1 H9 ((dueL rows).take i) H') (LcL.start nE1) (fun i H' _ L => ex_t' L.sm i4) ?_ ?_
    · rintro i w9 Hx Hy hi LE ⟨rfl, hw⟩
      obtain ⟨xx, hx, dw⟩ := due_item i5 hw
      refine ⟨rfl, ?_⟩
      dsimp only [tYes]
      refine iteT ⟨_, rfl, ?_⟩
      rw [take_snoc hx]
      exact lcl_push sdR_up LE (Same.refl _) (dw.up LE.sw) (lt_sz (by rw [List.length_take]; omega))
    rintro H10 LE1
    rw [zl, List.take_length] at LE1
    have s10 := LE1.sm
    replace i1 := s10 _ _ i1
    replace i4 := ex_t' s10 i4
    replace i5 := i5.up s10
    refine ⟨_, rfl, x, dx, fs, st, zs, rfl, i1, i3, i4, fun E2 nE2 => ?_⟩
    refine lc_it walk_tup (fun i H' => LcL (SdR K) E2 H10 ((dueL rows).take i) H') (LcL.start nE2) (fun i H' _ L => ex_t' L.sm i4) ?_ ?_
    · rintro i w9 Hx Hy hi LE ⟨rfl, hw⟩
      obtain ⟨xx, hx, dw⟩ := due_item i5 hw
      refine ⟨rfl, ?_⟩
      dsimp only [tYes]
      refine iteT ⟨_, rfl, ?_⟩
      rw [take_snoc hx]
      exact lcl_push sdR_up LE (Same.refl _) (dw.up LE.sw) (lt_sz (by rw [List.length_take]; omega))
    rintro H11 LE2
    rw [zl, List.take_length] at LE2
    have s11 := LE2.sm
    have LE1 := LE1.up sdR_up s11
    have LU := (LU.up sdR_up s10).up sdR_up s11
    replace i1 := s11 _ _ i1
    replace i4 := ex_t' s11 i4
    replace i5 := i5.up s11
    have S2 : Shw (.list [.list ((dueL rows).map stD4), .list ((dueL rows).map stD4)]) := shw_two (due_pln D) (by omega)
    obtain ⟨vs1, g1, l1, d1⟩ := lcl_dq LE1
    obtain ⟨vs2, g2, l2, d2⟩ := lcl_dq LE2
    refine ⟨two, fun W nW => ?_⟩
    have sW := same_upd (o := .lst [.ref E1, .ref E2]) nW
    have gW : upd H11 W (.lst [.ref E1, .ref E2]) W = some (.lst [.ref E1, .ref E2]) := upd_same
    generalize upd H11 W (.lst [.ref E1, .ref E2]) = H12 at sW gW ⊢
    refine ⟨_, _, rfl, .lst (sqOf gW) (.cons (.lst (sqOf (sW _ _ g1)) (d1.up sW)) (.cons (.lst (sqOf (sW _ _ g2)) (d2.up sW)) .nil)), S2.r.1, S2.r.2.1, S2.r.2.2.1, S2.r.2.2.2, ?_⟩
    refine ⟨_, rfl, _, rfl, two, fun W2 nW2 => ?_⟩
    have sW2 := same_upd (o := .lst [.ref U, .ref U]) nW2
    have gW2 : upd H12 W2 (.lst [.ref U, .ref U]) W2 = some (.lst [.ref U, .ref U]) := upd_same
    generalize upd H12 W2 (.lst [.ref U, .ref U]) = H13 at sW2 gW2 ⊢
    have LU := (LU.up sdR_up sW).up sdR_up sW2
    obtain ⟨vsU, gU, lU, dU⟩ := lcl_dq LU
    refine ⟨_, _, rfl, .lst (sqOf gW2) (.cons (.lst (sqOf gU) dU) (.cons (.lst (sqOf gU) dU) .nil)), S2.r.1, S2.r.2.1, S2.r.2.2.1, S2.r.2.2.2, ?_⟩
    refine ⟨rfl, _, rfl, ?_⟩
    rw [decide_eq_true rfl]
    refine iteF ?_
    have s913 : Same H11 H13 := sW.trans sW2
    replace i1 := s913 _ _ i1
    replace i4 := ex_t' s913 i4
    replace i5 := i5.up s913
    have s713 : Same H7 H13 := LU.sm
    clear LE1 LE2 g1 g2 d1 d2 gW gW2 sW sW2 nW nW2 nE1 nE2 s10 s11 s913 s39 nU
    refine ⟨Nat.zero_le _, fun V0 nV => ?_⟩
    have LV : LcL (Sd2 K) V0 H13 (pairsL ((dueL rows).take 0) (dueL rows)) (upd H13 V0 (.lst [])) := LcL.start nV
    generalize upd H13 V0 (.lst []) = H14 at LV ⊢
    have s14 := LV.sm
    refine ⟨_, rfl, x, dx, fs, st, zs, rfl, s14 _ _ i1, i3, ex_t' s14 i4, ?_⟩
    refine for_it walk_tup (fun j σ H' => ∃ (y10 : Option V), σ = [some (.ref a), some (.int 3), some (.ref x), some (.ref r), y4, y5, some (.ref U), y7, y8, some (.ref V0), y10, none, none] ∧ LcL (Sd2 K) V0 H13 (pairsL ((dueL rows).take j) (dueL rows)) H')
      ⟨none, rfl, LV⟩ (fun j H' σ _ z => by obtain ⟨_, _, L⟩ := z; exact ex_t' L.sm i4) ?_ ?_
    · rintro j v σ Hz H15 hj ⟨y10, rfl, L⟩ ⟨rfl, hvj⟩
      have s15 := L.sm
      obtain ⟨xx, hx, dv⟩ := due_item (i5.up s15) hvj
      obtain ⟨va, gV, _⟩ := L
      have L : LcL (Sd2 K) V0 H13 (pairsL ((dueL rows).take j) (dueL rows)) H15 := ⟨va, gV, by assumption⟩
      refine ⟨.ref V0, rfl, .inl ⟨rfl, _, sqOf gV⟩, _, rfl, x, dx, fs, st, zs, rfl, s15 _ _ i1, i3, ex_t' s15 i4, fun E nE => ?_⟩
      refine lc_it walk_tup (fun i H' => LcL (Sd2 K) E H15 (((dueL rows).take i).map fun y => (xx, y)) H') (LcL.start nE) (fun i H' _ L => ex_t' (s15.trans L.sm) i4) ?_ ?_
      · rintro i w9 Hx Hy hi LE ⟨rfl, hw⟩
        obtain ⟨yy, hy, dw⟩ := due_item (i5.up (s15.trans LE.sw)) hw
        refine ⟨rfl, ?_⟩
        dsimp only [tYes]
        refine iteT ⟨_, rfl, _, rfl, two, fun p np => ?_⟩
        have hE := LE.at
        have sp := same_upd (o := .tup [v, w9]) np
        rw [take_snoc hy, List.map_append]
        exact lcl_push sd2_up LE sp ⟨p, v, w9, rfl, new_wo hE np, (dv.up LE.sw).up (same_wo sp), dw.up (same_wo sp)⟩ (lt_sz (by rw [List.length_map, List.length_take]; omega))
      rintro H16 LE
      rw [zl, List.take_length] at LE
      obtain ⟨us, gE, aE, sE⟩ := LE
      have s16 : Same H15 H16 := sE.trans wo_sub
      have gV16 := s16 _ _ gV
      have aV := sd2_kpt ((KpT.of wo_sub).trans (KpT.wo gV16)) aE
      obtain ⟨acc, g1, l1, L1⟩ := lcl_extend sd2_up L s16 aV
      have pl := pairs_len ((dueL rows).take j) (dueL rows)
      have tj : ((dueL rows).take j).length ≤ 40 := by rw [List.length_take]; omega
      have pb : (pairsL ((dueL rows).take j) (dueL rows)).length ≤ 40 * 40 := by rw [pl]; exact Nat.mul_le_mul tj dl
      refine ⟨V0, E, acc, us, rfl, rfl, g1, gE, len_sz (by rw [aE.len, List.length_map]; omega), ?_⟩
      exact ⟨_, rfl, by rw [take_snoc hx, pairs_snoc]; exact L1⟩
    rintro σ H15 ⟨y10, rfl, LV⟩
    rw [zl, List.take_length] at LV
    have pl := pairs_len (dueL rows) (dueL rows)
    have pb : (pairsL (dueL rows) (dueL rows)).length ≤ 40 * 40 := by rw [pl]; exact Nat.mul_le_mul dl dl
    have s15 := LV.sm
    have LU := LU.up sdR_up s15
    obtain ⟨vsU, gU, lU, dU⟩ := lcl_dq LU
    have vU : vsU.length ≤ 40 := by rw [lU]; exact dl
    have s315 : Same H3 H15 := (s7.trans s713).trans s15
    obtain ⟨vp, gV, aV, _⟩ := LV
    have vpl : vp.length = (pairsL (dueL rows) (dueL rows)).length := aV.len
    have aV := AllR.up sd2_up wo_sub aV
    refine ⟨.ref V0, rfl, .ref V0, (vp.length : Nat), rfl, .inl ⟨_, sqOf gV, rfl⟩, .ref U, rfl, .ref U, (vsU.length : Nat), rfl, .inl ⟨_, sqOf gU, rfl⟩, _, _, rfl, rfl, ⟨by decide, by decide, by omega⟩, rfl, _, rfl, ?_⟩
    rw [decide_eq_true (show V.int ((vp.length : Nat) : Int) = V.int (((vsU.length : Nat) : Int) ^ (2 : Int).toNat) from by rw [vpl, lU, pl, show (2 : Int).toNat = 2 from rfl, Int.pow_succ, Int.pow_succ, Int.pow_zero]; congr 1; simp)]
    refine iteT ?_
    refine ⟨.ref V0, rfl, V0, rfl, ⟨_, sqOf gV⟩, fun E nE => ?_⟩
    refine lc_it walk_list (fun i H' => LcL (SdR K) E H15 (((pairsL (dueL rows) (dueL rows)).take i).map (·.1)) H') (LcL.start nE) (fun i H' _ L => sqOf (L.sm _ _ gV)) ?_ ?_
    · rintro i w9 Hx Hy hi LE ⟨rfl, hw⟩
      obtain ⟨xy, hxy, t, y, z, rfl, gt, dy, dz⟩ := AllR.at aV hw
      refine ⟨t, _, rfl, stOf (LE.sm _ _ gt), rfl, _, _, rfl, _, _, rfl, rfl, rfl, ?_⟩
      dsimp only [tYes]
      refine iteT ⟨_, rfl, ?_⟩
      rw [take_snoc hxy, List.map_append]
      exact lcl_push sdR_up LE (Same.refl _) (dy.up LE.sw) (lt_sz (by rw [List.length_map, List.length_take]; omega))
    rintro H16 LE
    rw [vpl, List.take_length, pairs_fst] at LE
    have s16 := LE.sm
    replace gU := s16 _ _ gU
    replace dU := dU.up s16
    have mul : vsU.length * (vsU.length : Int).toNat ≤ sizeLine := len_sz (by rw [Int.toNat_natCast, lU]; exact Nat.le_trans (Nat.mul_le_mul dl dl) (by decide))
    refine ⟨.ref U, rfl, .ref U, rfl, .ref U, (vsU.length : Nat), rfl, .inl ⟨_, sqOf gU, rfl⟩, U, _, vsU, rfl, rfl, gU, by omega, by omega, mul, fun p np => ?_⟩
    rw [Int.toNat_natCast]
    have s17 := same_upd (o := .lst (List.replicate vsU.length vsU).flatten) np
    have g17 : upd H16 p (.lst (List.replicate vsU.length vsU).flatten) p = some (.lst (List.replicate vsU.length vsU).flatten) := upd_same
    generalize upd H16 p (.lst (List.replicate vsU.length vsU).flatten) = H17 at s17 g17 ⊢
    have dR := dq_rep (dU.up s17) vsU.length
    have lR : ((List.replicate vsU.length (dueL rows)).flatten).length ≤ 1600 := by
      rw [List.length_flatten, List.map_replicate, List.sum_replicate_nat, lU]
      exact Nat.mul_le_mul dl dl
    refine ⟨p, _, (List.replicate vsU.length (dueL rows)).flatten, rfl, sqOf g17, dR, alike_stD4 _, sortable_stD4 _, by omega, fun x _ => (show 1 ≤ 5 by decide), fun p2 us bs np2 pm pw du => ?_⟩
    have eb := rep_one (due_sorted D rows.length) pm pw
    rw [lU] at eb
    subst eb
    have s18 := same_upd (o := .lst us) np2
    have g18 : upd H17 p2 (.lst us) p2 = some (.lst us) := upd_same
    generalize upd H17 p2 (.lst us) = H18 at s18 g18 ⊢
    obtain ⟨ve, gE, _, dE⟩ := lcl_dq ((LE.up sdR_up s17).up sdR_up s18)
    have fl : ((dueL rows).flatMap fun x => List.replicate (dueL rows).length x).length ≤ 1600 := by
      rw [← pairs_fst, List.length_map]; exact pb
    have pR : ∀ x ∈ ((dueL rows).flatMap fun x => List.replicate (dueL rows).length x), Pln4 x := fun x hx => by
      obtain ⟨y, hy, h2⟩ := List.mem_flatMap.mp hx
      rw [List.eq_of_mem_replicate h2]; exact due_pln D y hy
    generalize ((dueL rows).flatMap fun x => List.replicate (dueL rows).length x) = fs at du dE fl pR
    have S3 := shw_due pR (by omega)
    obtain ⟨_, nd3, dp3, _⟩ := shw_list pR
    have sh3 : SeqAt.shaped (.list (fs.map stD4)) = true := shaped_pln S3.p nd3 (by show PyData.depthAll (fs.map stD4) + 1 ≤ 64; omega)
    refine ⟨.list (fs.map stD4), .list (fs.map stD4), dp_of _ _ (.lst (sqOf gE) dE) nd3, dp_of _ _ (.lst (sqOf g18) (du.up s18)) nd3, sh3, sh3, ?_⟩
    rw [PySem.W.eqv_refl_alike _ (by simp only [PySem.W.alike]; exact alike_self fs)]
    have s318 : Same H3 H18 := ((s315.trans s16).trans s17).trans s18
    exact kQ H18 (e3.trans (ExtN.of s318)) (t3.ext s318)
end
end KP
namespace KP
open PySem PySem.Spec PyProof.Rows L2 EL
open Evl (pss_cut)
abbrev sLaw : Stmt := topS 61
theorem scLaw : FnScope ["_law_script", "_law_deck_here", "_law_go", "_law_same", "_law_first", "_law_last", "_law_late", "_law_word", "_law_told"] ["_law_script"] (defScope sLaw) := ⟨rfl, rfl, rfl, by decide +kernel, rfl, by decide +kernel, by decide +kernel⟩
open LamX NdefX
/-! ### the steppers by hand -/
abbrev sameR : List (List Stp) := [[((97, 97), 0), ((98, 98), 0)]]
abbrev lateR : List (List Stp) := [[((45, 97), 1), ((97, 97), 0), ((98, 97), 2)], [], [((45, 98), 1), ((97, 98), 0), ((98, 98), 2)]]
theorem okS_ab : okS 97 = true ∧ okS 98 = true ∧ okS 45 = true := by decide
theorem same_drawn : Drawn sameR [0] where
  pos := by decide
  len := by decide
  each := by decide
  en := by decide
  el := by decide
  es := by decide
  up := ⟨fun _ => 0, fun i ts t h ht hs => by
    have h1 := List.mem_of_getElem? h
    have key : ∀ ts ∈ sameR, ∀ t ∈ ts, sdN t = 0 := by decide
    exact absurd (key ts h1 t ht) hs⟩
theorem late_drawn : Drawn lateR [1] where
  pos := by decide
  len := by decide
  each := by decide
  en := by decide
  el := by decide
  es := by decide
  up := ⟨fun i => if i = 1 then 1 else 0, fun i ts t h ht hs => by
    have i3 : i < 3 := (List.getElem?_eq_some_iff.mp h).1
    have key : ∀ i < 3, ∀ t ∈ lateR.getD i [], sdN t ≠ 0 → ((if i = 1 then 1 else 0 : Int) < if t.2.toNat = 1 then 1 else 0) := by decide
    refine key i i3 t ?_ hs
    rw [List.getD_eq_getElem?_getD, h]; exact ht⟩
abbrev wordsL : List Str := ["abbabaabbbab", "bbbbbbbbbbbb", "abababababab"]
abbrev cutW (w : Str) : Str := cutS w none (some (-1))
theorem words_ok : ∀ w ∈ wordsL, w.length = 12 ∧ (cutW w).length ≤ 12 ∧ readN sameR [0] (rowN w.cps.toList w.cps.toList) = true ∧ readN sameR [0] (rowN w.cps.toList (cutW w).cps.toList) = false ∧ readN lateR [1] (rowN (cutW w).cps.toList ("a" ++ cutW w : Str).cps.toList) = true ∧ readN lateR [1] (rowN w.cps.toList w.cps.toList) = false := by decide +kernel
theorem word_a : readN lateR [1] (rowN ("" : Str).cps.toList ("a" : Str).cps.toList) = true ∧ readN sameR [0] (rowN ("" : Str).cps.toList ("" : Str).cps.toList) = true := by decide +kernel
theorem str_a : ("a" : Str) = ⟨#[97]⟩ := by decide
theorem str_b : ("b" : Str) = ⟨#[98]⟩ := by decide
theorem str_d : ("-" : Str) = ⟨#[45]⟩ := by decide
theorem dw_ext {a q : Addr} {m : Nat} {H H' : Hp} (d : Dw a q m H) (e : ExtN H H') : Dw a q m H' := by
  obtain ⟨c, hc, k⟩ := d
  obtain ⟨b, h1, h2, h3⟩ := k.top
  obtain ⟨ns, h4, h5⟩ := k.que
  exact ⟨c, hc, k.ne, ⟨b, h1, h2, e _ _ h3 fun _ z => nomatch z⟩, ⟨ns, h4, e _ _ h5 fun _ z => nomatch z⟩⟩
theorem grd_off {T : List (Addr × Str)} {b0 a q : Addr} {m : Nat} {H H' : Hp} (g : Grd T b0 H) (d : Dw a q m H) (o : EL.Off a q H H') : Grd T b0 H' := by
  obtain ⟨c, _, k⟩ := d
  obtain ⟨b, _, _, h3⟩ := k.top
  obtain ⟨ns, _, h5⟩ := k.que
  have key : ∀ {b o'}, H b = some o' → (∀ ys, o' ≠ .lst ys) → (∀ ys, o' ≠ .dK ys) → H' b = some o' := fun {b o'} h n1 n2 => o b o' (fun e => by subst e; rw [h3] at h; exact n2 _ (Option.some.inj h).symm) (fun e => by subst e; rw [h5] at h; exact n1 _ (Option.some.inj h).symm) h
  refine ⟨fun p hp => ?_⟩
  obtain ⟨ps, t1, t2, t3⟩ := g.tab p hp
  refine ⟨ps, key t1 (fun _ z => nomatch z) (fun _ z => nomatch z), t2, fun pos cv hc => ?_⟩
  obtain ⟨c, e1, e2⟩ := t3 pos cv hc
  exact ⟨c, e1, key e2 (fun _ z => nomatch z) (fun _ z => nomatch z)⟩
theorem dq_two' {K : PySem.W.Frag} {H : Hp} {vs : List V} {d e : PyData} (h : DqAll K H vs [d, e]) : ∃ v1 v2, vs = [v1, v2] ∧ Dq K H v1 d ∧ Dq K H v2 e := by
  cases h with
  | cons a b =>
  cases b with
  | cons b c =>
  cases c
  exact ⟨_, _, rfl, a, b⟩
theorem one_num {K : PySem.W.Frag} {H : Hp} {vs : List V} {n : Int} (h : DqAll K H vs [.int n]) : vs = [.int n] := by
  cases h with
  | cons a b =>
  cases b
  cases a
  rfl
theorem dq_pair {K : PySem.W.Frag} {H : Hp} {v : V} {d e : List PyData} (h : Dq K H v (.tuple [.tuple d, .tuple e])) : ∃ a v1 v2 b, v = .ref a ∧ SqT K H a [v1, v2] ∧ Dq K H v1 (.tuple d) ∧ Dq K H v2 (.tuple e) ∧ b = a := by
  obtain ⟨a, xs, rfl, hs, ha⟩ := dq_tup h
  obtain ⟨v1, v2, rfl, h1, h2⟩ := dq_two' ha
  exact ⟨a, v1, v2, a, rfl, hs, h1, h2, rfl⟩
theorem dq_e {K : PySem.W.Frag} {H : Hp} {v : V} {d d' : PyData} (e : d = d') (h : Dq K H v d) : Dq K H v d' := e ▸ h
theorem same_data : (.tuple [.tuple [.tuple [.str "a", .str "a", .int 0], .tuple [.str "b", .str "b", .int 0]]] : PyData) = .tuple (sameR.map rowPD) := by rw [str_a, str_b]; rfl
theorem late_data : (.tuple [.tuple [.tuple [.str "-", .str "a", .int 1], .tuple [.str "a", .str "a", .int 0], .tuple [.str "b", .str "a", .int 2]], .tuple [], .tuple [.tuple [.str "-", .str "b", .int 1], .tuple [.str "a", .str "b", .int 0], .tuple [.str "b", .str "b", .int 2]]] : PyData) = .tuple (lateR.map rowPD) := by rw [str_a, str_b, str_d]; rfl
theorem stp_hid {K : PySem.W.Frag} {C a q x : Addr} {m : Nat} {H : Hp} {rows : List (List Stp)} {ends : List Nat} (d : Dw a q m H) (h : StpAt K C H x rows ends) : StpAt K C (hid a q H) x rows ends := by
  obtain ⟨dx, ar, b, st, tb, tl, h1, h2, h3, h4, h5, h6⟩ := h.at_
  have d' := d
  obtain ⟨c, _, k⟩ := d'
  obtain ⟨bb, _, _, k3⟩ := k.top
  obtain ⟨ns, _, k5⟩ := k.que
  have key : ∀ {b o'}, H b = some o' → (∀ ys, o' ≠ .lst ys) → (∀ ys, o' ≠ .dK ys) → hid a q H b = some o' := fun {b o'} h n1 n2 => by
    rw [hid_ne (fun e => by subst e; rw [k3] at h; exact n2 _ (Option.some.inj h).symm) (fun e => by subst e; rw [k5] at h; exact n1 _ (Option.some.inj h).symm)]; exact h
  refine ⟨dx, ar, b, st, tb, tl, key h1 (fun _ z => nomatch z) (fun _ z => nomatch z), dq_hidT d _ _ h2 (noLDs_map (fun ts => noLD_row ts) rows), sqt_hid d h3, dq_hidT d _ _ h4 (noLDs_sd _), key h5 (fun _ z => nomatch z) (fun _ z => nomatch z), Paired.mapP h6 fun v ts z => ?_⟩
  obtain ⟨e, z1, z2⟩ := z
  exact ⟨e, z1, key z2 (fun _ z => nomatch z) (fun _ z => nomatch z)⟩
theorem str_app (x y : Str) : (x ++ y).length = x.length + y.length := by show (x.cps ++ y.cps).size = _; rw [Array.size_append]; rfl
def spLaw (K : PySem.W.Frag) (T : List (Addr × Str)) (b0 : Addr) : Sp := fun vs H Q _ => ∃ (a : Addr) (ns : List Int), vs = [.ref a] ∧ SqL K H a (ns.map V.int) ∧ ns.length ≤ 63 ∧ Grd T b0 H ∧ ∀ H', Q (.bl true) H'
section
variable {P : Program} {w : World} {K : PySem.W.Frag} {mg : Str → Option Value} {base : Heap}
theorem ok_Law {f C b0 : Addr} {T : List (Addr × Str)} {fd : FuncData} {k : Nat} (F : Fun K "law" "law" sLaw f fd) (nrange : mg "range" = none) (S : STxt K C) (CS : CalS P w K mg base k C T b0) (M : CalM P w K mg base (k + 1) C "tells" ["self", "left", "right"] (spTells K C))
    (CLDeck : Cal P w K mg base (k + 1) "_law_deck" ["_law_script"] (spDeck K)) (CLSheet : Cal P w K mg base (k + 1) "_law_sheet" ["_law_deck_here", "_law_most"] (spSheet K)) (CLPick : Cal P w K mg base (k + 1) "_law_pick" ["_law_deck_here", "_law_some"] (spPick K)) (CLRight : CalG P w K mg base (k + 1) "_law_right" ["_law_sheet_here", "_law_most"] (spRightS K T b0)) : FnG P w K mg base (k + 2) f fd ["_law_script"] (spLaw K T b0) := by
  refine FnG.body F scLaw (fun vs H Q E h => ?_) (fun cdv A outer s H vs Q E hg h => ?_)
  · obtain ⟨a, ns, rfl, _⟩ := h; rfl
  · obtain ⟨a, ns, rfl, hs, hl, hG, kQ⟩ := h
    have hr := hg.r
    have hr1 := hg.r
    have hu := hr.units
    have hu2 : (A.deeper (envOfC "law" (defScope sLaw) s.heap.objs.size f cdv)).units + 64 < cLine := by omega
    refine ⟨_, (pss_cons (ps_set (i := 1) scLaw.nd rfl (by first | exact Or.inl rfl | exact Or.inr rfl) (pe_cal CLDeck hr (by rfl) pass0 (pa_cons (pv 0) pa_nil)))
      (pss_cons (ps_for PassesOwn.never rfl (pi_range1 rfl nrange (pa_cons pe_int pa_nil)) (pg_name (i := 2) scLaw.nd rfl (by first | exact Or.inl rfl | exact Or.inr rfl)) (pss_one (ps_if (pt_not (pt_val (pe_calG CLRight hg (by rfl) pass0 (pa_cons (pe_cal CLSheet hr (by rfl) pass0 (pa_cons (pv 1) (pa_cons pe_int pa_nil))) (pa_cons pe_int pa_nil))))) (pss_one (ps_ret pe_bl)) pss_nil)))
      (pss_cons (ps_set (i := 3) scLaw.nd rfl (by first | exact Or.inl rfl | exact Or.inr rfl) (pe_stp CS hr1 (by rfl) pass0 (kd_cons (kd_tup (kd_cons (kd_tup (kd_cons (kd_tup (kd_cons kd_str (kd_cons kd_str (kd_cons kd_int kd_nil)))) (kd_cons (kd_tup (kd_cons kd_str (kd_cons kd_str (kd_cons kd_int kd_nil)))) kd_nil))) kd_nil)) (kd_cons (kd_tup (kd_cons kd_int kd_nil)) kd_nil))))
      (pss_cons (ps_asg (kd_tup (kd_cons (kd_tup (kd_cons (kd_tup (kd_cons kd_str (kd_cons kd_str (kd_cons kd_int kd_nil)))) (kd_cons (kd_tup (kd_cons kd_str (kd_cons kd_str (kd_cons kd_int kd_nil)))) (kd_cons (kd_tup (kd_cons kd_str (kd_cons kd_str (kd_cons kd_int kd_nil)))) kd_nil)))) (kd_cons (kd_tup (kd_cons (kd_tup (kd_cons kd_str (kd_cons kd_str (kd_cons kd_int kd_nil)))) (kd_cons (kd_tup (kd_cons kd_str (kd_cons kd_str (kd_cons kd_int kd_nil)))) (kd_cons (kd_tup (kd_cons kd_str (kd_cons kd_str (kd_cons kd_int kd_nil)))) kd_nil)))) kd_nil))) (pg_tup (by rfl) (pgs_cons (pg_name (i := 4) scLaw.nd rfl (by first | exact Or.inl rfl | exact Or.inr rfl)) (pgs_cons (pg_name (i := 5) scLaw.nd rfl (by first | exact Or.inl rfl | exact Or.inr rfl)) pgs_nil))))
      (pss_cons (ps_set (i := 6) scLaw.nd rfl (by first | exact Or.inl rfl | exact Or.inr rfl) (pe_stp CS hr1 (by rfl) pass0 (pa_cons (pe_tup (pa_cons (pv 4) (pa_cons (pe_tup pa_nil) (pa_cons (pv 5) pa_nil)))) (pa_cons (kd_tup (kd_cons kd_int kd_nil)) pa_nil))))
      (pss_cons (ps_set (i := 7) scLaw.nd rfl (by first | exact Or.inl rfl | exact Or.inr rfl) (pe_cal CLPick hr (by rfl) pass0 (pa_cons (pv 1) (pa_cons (pe_lst (pa_cons pe_str (pa_cons pe_str (pa_cons pe_str pa_nil)))) pa_nil))))
      (pss_cons (ps_set (i := 8) scLaw.nd rfl (by first | exact Or.inl rfl | exact Or.inr rfl) (pe_lst (pa_cons (pe_calM S.cl M hr pass0 (pv 3) (pa_cons (pv 7) (pa_cons (pv 7) pa_nil))) (pa_cons (pe_calM S.cl M hr pass0 (pv 3) (pa_cons (pv 7) (pa_cons (pe_slice sl_str (pv 7) po_none (po_some (pe_un un_neg pe_int))) pa_nil))) (pa_cons (pe_calM S.cl M hr pass0 (pv 6) (pa_cons (pe_slice sl_str (pv 7) po_none (po_some (pe_un un_neg pe_int))) (pa_cons (pe_op op_add_str pe_str (pe_slice sl_str (pv 7) po_none (po_some (pe_un un_neg pe_int)))) pa_nil))) pa_nil)))))
      (pss_cons (ps_set (i := 8) scLaw.nd rfl (by first | exact Or.inl rfl | exact Or.inr rfl) (pe_op op_cat (pv 8) (pe_lst (pa_cons (pe_calM S.cl M hr pass0 (pv 6) (pa_cons (pv 7) (pa_cons (pv 7) pa_nil))) (pa_cons (pe_calM S.cl M hr pass0 (pv 6) (pa_cons pe_str (pa_cons pe_str pa_nil))) (pa_cons (pe_calM S.cl M hr pass0 (pv 3) (pa_cons pe_str (pa_cons pe_str pa_nil))) pa_nil))))))
      (pss_one (ps_ret (pe_cmpR (op_eqD hu2) (pv 8) (kd_lst (kd_cons kd_bl (kd_cons kd_bl (kd_cons kd_bl (kd_cons kd_bl (kd_cons kd_bl (kd_cons kd_bl kd_nil))))))) (nomark _)))))))))))), ?_⟩
    refine ⟨.ref a, rfl, a, ns, rfl, hs, hl, fun p q H1 s1 D1 np nq => ?_⟩
    refine ⟨5, rfl, by decide, by decide, ?_⟩
    refine for_it walk_range (fun i σ H' => ∃ (y2 : Option V), σ = [some (.ref a), some (.ref p), y2, none, none, none, none, none, none] ∧ Grd T b0 H' ∧ Dw p q (200 * i) H')
      ⟨none, rfl, hG.up s1, D1⟩ (fun _ _ _ _ _ => trivial) ?_ ?_
    · rintro i y σ H9 H2 hil ⟨y2, rfl, g, d⟩ ⟨rfl, rfl⟩
      have hil : i < 5 := hil
      refine ⟨.ref p, rfl, p, q, _, rfl, d, by omega, fun v rows ends H3 DR dv o3 D3 => ?_⟩
      refine ⟨v, rows, ends, rfl, dv.up hid_sub, DR, grd_off g d o3, fun H4 e4 t4 => ⟨_, rfl, ?_⟩⟩
      exact iteF ⟨_, rfl, (grd_off g d o3).ext e4 t4, (dw_ext D3 e4).mono (by omega)⟩
    rintro σ H2 ⟨y2, rfl, g2, d2⟩
    rintro vs H3 s3 ds3
    obtain ⟨v1, v2, rfl, dv1, dv2⟩ := dq_two' ds3
    obtain ⟨a1, x1, rfl, h1s, h1a⟩ := dq_tup dv1
    obtain ⟨a2, x2, rfl, h2s, h2a⟩ := dq_tup dv2
    obtain rfl := one_num h2a
    refine ⟨a1, a2, sameR, [0], rfl, dq_e same_data dv1, h2s, same_drawn.ok, g2.up s3, fun x H4 e4 t4 nx hS => ?_⟩
    have g4 := (g2.up s3).ext e4 t4
    have d4 := dw_ext (d2.same s3) e4
    rintro v H5 s5 dv5
    obtain ⟨af, v4, v5, _, rfl, hfl, df, dl, _⟩ := dq_pair dv5
    refine ⟨af, _, rfl, hfl, rfl, _, _, rfl, _, _, rfl, rfl, ?_⟩
    have iii : 3 ≤ sizeLine := by decide
    have vi : 6 ≤ sizeLine := by decide
    have hfl' := hfl
    refine ⟨_, rfl, Nat.zero_le _, fun te nte => ⟨_, rfl, iii, fun tt ntt => ?_⟩⟩
    have s6 := same_upd (o := .tup []) nte
    have g6 : upd H5 te (.tup []) te = some (.tup []) := upd_same
    generalize upd H5 te (.tup []) = H6 at s6 g6 ntt ⊢
    have s7 := same_upd (o := .tup [v4, .ref te, v5]) ntt
    have g7 : upd H6 tt (.tup [v4, .ref te, v5]) tt = some (.tup [v4, .ref te, v5]) := upd_same
    generalize upd H6 tt (.tup [v4, .ref te, v5]) = H7 at s7 g7 ⊢
    rintro v1 H8 s8 dv8
    obtain ⟨b8, x8, rfl, h8s, h8a⟩ := dq_tup dv8
    obtain rfl := one_num h8a
    have s58 : Same H5 H8 := (s6.trans s7).trans s8
    have dlate : Dq K H8 (.ref tt) (.tuple (lateR.map rowPD)) := dq_e late_data (.tup (stOf (s8 _ _ g7)) (.cons (df.up s58) (.cons (.tup (stOf (s8 _ _ (s7 _ _ g6))) .nil) (.cons (dl.up s58) .nil))))
    have s48 := s5.trans s58
    refine ⟨tt, b8, lateR, [1], rfl, dlate, h8s, late_drawn.ok, g4.up s48, fun x2 H9 e9 t9 nx2 hT => ?_⟩
    have hS9 := (hS.up s48).ext e9
    have d9 := dw_ext (d4.same s48) e9
    refine ⟨.ref p, rfl, iii, fun l nl => ?_⟩
    have s10 := same_upd (o := .lst [.str "abbabaabbbab", .str "bbbbbbbbbbbb", .str "abababababab"]) nl
    have g10 : upd H9 l (.lst [.str "abbabaabbbab", .str "bbbbbbbbbbbb", .str "abababababab"]) l = some (.lst (wordsL.map V.str)) := upd_same
    generalize upd H9 l (.lst [.str "abbabaabbbab", .str "bbbbbbbbbbbb", .str "abababababab"]) = H10 at s10 g10 ⊢
    have d10 := d9.same s10
    refine ⟨p, q, _, .ref l, rfl, d10, by show 200 * 5 < 1000000000; decide, .inl ⟨l, _, rfl, sqOf (hid_of d9 nl g10), by simp, by decide, fun i xw H11 hx o11 d11 => ?_⟩⟩
    obtain ⟨w0, hw0, rfl⟩ := List.mem_map.mp (List.mem_of_getElem? hx)
    obtain ⟨w1, w2, w3, w4, w5, w6⟩ := words_ok w0 hw0
    have hS11 : StpAt K C H11 x sameR [0] := ((stp_hid d10 (hS9.up s10)).up o11.hid).up hid_sub
    have hT11 : StpAt K C H11 x2 lateR [1] := ((stp_hid d10 (hT.up s10)).up o11.hid).up hid_sub
    clear hS hS9 hT g4 d4 d9 d10 d11 o11 hx g10 s10 nl dlate h8s
    have wl : w0.length ≤ 1000000 := by rw [w1]; decide
    have cl : (cutW w0).length ≤ 1000000 := Nat.le_trans w2 (by decide)
    obtain ⟨dx, fs, st, zs, i1, i2, _, _, _⟩ := hS11.ins
    refine ⟨_, rfl, x, dx, fs, rfl, i1, i2, _, rfl, _, rfl, x, w0, w0, sameR, [0], rfl, hS11, same_drawn.R, wl, wl, fun H12 s12 => ?_⟩
    rw [w3]
    obtain ⟨dx, fs, st, zs, i1, i2, _, _, _⟩ := (hS11.up s12).ins
    refine ⟨_, rfl, x, dx, fs, rfl, i1, i2, _, rfl, _, rfl, 1, rfl, -1, rfl, w0, rfl, len_sz wl, x, w0, cutW w0, sameR, [0], rfl, hS11.up s12, same_drawn.R, wl, cl, fun H13 s13 => ?_⟩
    rw [w4]
    have s113 := s12.trans s13
    obtain ⟨dx, fs, st, zs, i1, i2, _, _, _⟩ := (hT11.up s113).ins
    refine ⟨_, rfl, x2, dx, fs, rfl, i1, i2, _, rfl, 1, rfl, -1, rfl, w0, rfl, len_sz wl, _, rfl, 1, rfl, -1, rfl, w0, rfl, len_sz wl, "a", cutW w0, rfl, rfl, len_sz (by rw [show ("a" : Str).length = 1 from rfl]; omega), x2, cutW w0, "a" ++ cutW w0, lateR, [1], rfl, hT11.up s113, late_drawn.R, cl, (by rw [str_app, show ("a" : Str).length = 1 from rfl]; omega), fun H14 s14 => ?_⟩
    rw [w5]
    have s114 := s113.trans s14
    refine ⟨iii, fun L1 nL1 => ?_⟩
    have s15 := same_upd (o := .lst [.bl true, .bl false, .bl true]) nL1
    have g15 : upd H14 L1 (.lst [.bl true, .bl false, .bl true]) L1 = some (.lst [.bl true, .bl false, .bl true]) := upd_same
    generalize upd H14 L1 (.lst [.bl true, .bl false, .bl true]) = H15 at s15 g15 ⊢
    have s115 := s114.trans s15
    obtain ⟨dx, fs, st, zs, i1, i2, _, _, _⟩ := (hT11.up s115).ins
    refine ⟨_, rfl, _, rfl, x2, dx, fs, rfl, i1, i2, _, rfl, _, rfl, x2, w0, w0, lateR, [1], rfl, hT11.up s115, late_drawn.R, wl, wl, fun H16 s16 => ?_⟩
    rw [w6]
    have s116 := s115.trans s16
    obtain ⟨dx, fs, st, zs, i1, i2, _, _, _⟩ := (hT11.up s116).ins
    refine ⟨_, rfl, x2, dx, fs, rfl, i1, i2, x2, "", "a", lateR, [1], rfl, hT11.up s116, late_drawn.R, by decide, by decide, fun H17 s17 => ?_⟩
    rw [word_a.1]
    have s117 := s116.trans s17
    obtain ⟨dx, fs, st, zs, i1, i2, _, _, _⟩ := (hS11.up s117).ins
    refine ⟨_, rfl, x, dx, fs, rfl, i1, i2, x, "", "", sameR, [0], rfl, hS11.up s117, same_drawn.R, by decide, by decide, fun H18 s18 => ?_⟩
    rw [word_a.2]
    have s158 := (s16.trans s17).trans s18
    refine ⟨iii, fun L2 nL2 => ?_⟩
    have s19 := same_upd (o := .lst [.bl false, .bl true, .bl true]) nL2
    have g19 : upd H18 L2 (.lst [.bl false, .bl true, .bl true]) L2 = some (.lst [.bl false, .bl true, .bl true]) := upd_same
    generalize upd H18 L2 (.lst [.bl false, .bl true, .bl true]) = H19 at s19 g19 ⊢
    refine ⟨L1, L2, _, _, rfl, rfl, s19 _ _ (s158 _ _ g15), g19, vi, fun L3 nL3 => ?_⟩
    have g20 : upd H19 L3 (.lst ([.bl true, .bl false, .bl true] ++ [.bl false, .bl true, .bl true])) L3 = some (.lst [.bl true, .bl false, .bl true, .bl false, .bl true, .bl true]) := upd_same
    generalize upd H19 L3 (.lst ([.bl true, .bl false, .bl true] ++ [.bl false, .bl true, .bl true])) = H20 at g20 ⊢
    refine ⟨_, rfl, ?_⟩
    rintro v9 H21 s21 d21
    have dd : Dq K H21 (.ref L3) (.list [.bool true, .bool false, .bool true, .bool false, .bool true, .bool true]) := .lst (sqOf (s21 _ _ g20)) (.cons (.bl _) (.cons (.bl _) (.cons (.bl _) (.cons (.bl _) (.cons (.bl _) (.cons (.bl _) .nil))))))
    refine ⟨_, _, dp_of _ _ dd (by decide +kernel), dp_of _ _ d21 (by decide +kernel), by decide +kernel, by decide +kernel, ?_⟩
    rw [show PyData.eqv (.list [.bool true, .bool false, .bool true, .bool false, .bool true, .bool true]) (.list [.bool true, .bool false, .bool true, .bool false, .bool true, .bool true]) = true by decide +kernel]
    exact kQ _
end
end KP
namespace KP
open PySem PySem.Spec PyProof.Rows L2 EL
open Evl (pss_cut)
abbrev sLDeck : Stmt := topS 53
theorem scLDeck : FnScope ["_law_script", "_law_cells", "_law_stir", "_law_cell"] ["_law_script"] (defScope sLDeck) := ⟨rfl, rfl, rfl, by decide +kernel, rfl, by decide +kernel, by decide +kernel⟩
abbrev sLDraw : Stmt := topS 54
theorem scLDraw : FnScope ["_law_deck_here", "_law_below", "_law_turn", "_law_figure", "_law_cell"] ["_law_deck_here", "_law_below"] (defScope sLDraw) := ⟨rfl, rfl, rfl, by decide +kernel, rfl, by decide +kernel, by decide +kernel⟩
abbrev sLPick : Stmt := topS 55
theorem scLPick : FnScope ["_law_deck_here", "_law_some"] ["_law_deck_here", "_law_some"] (defScope sLPick) := ⟨rfl, rfl, rfl, by decide +kernel, rfl, by decide +kernel, by decide +kernel⟩
abbrev dkV (q : Addr) (b c : Int) : List (L2.Key × V) := [(.inr "cells", .ref q), (.inr "stir", .int b), (.inr "draws", .int c)]
theorem dk_n1 : ¬ ("cells" : Str) = "stir" := by decide +kernel
theorem dk_n2 : ¬ ("cells" : Str) = "draws" := by decide +kernel
theorem dk_n3 : ¬ ("stir" : Str) = "draws" := by decide +kernel
theorem dk_cells {H : Hp} {a q : Addr} {b c : Int} (h : H a = some (.dK (dkV q b c))) : DGet H a (kV (.inr "cells")) (some (.ref q)) := by
  have := DGet.k (k := .inr "cells") h
  simpa [valV] using this
theorem dk_stir {H : Hp} {a q : Addr} {b c : Int} (h : H a = some (.dK (dkV q b c))) : DGet H a (kV (.inr "stir")) (some (.int b)) := by
  have := DGet.k (k := .inr "stir") h
  simpa [valV, dk_n1] using this
theorem dk_draws {H : Hp} {a q : Addr} {b c : Int} (h : H a = some (.dK (dkV q b c))) : DGet H a (kV (.inr "draws")) (some (.int c)) := by
  have := DGet.k (k := .inr "draws") h
  simpa [valV, dk_n2, dk_n3] using this
theorem dk_put (q : Addr) (b c e : Int) : putK (dkV q b c) (.inr "draws") (.int e) = dkV q b e := by
  simp [putK, dk_n2, dk_n3]
theorem dk_merge (q : Addr) (b c : Int) : mergeK [] (dkV q b c) = dkV q b c := by
  simp [mergeK, putK, dk_n1, dk_n2, dk_n3]
theorem cast1 (c : Nat) : ((c : Int) + 1) = ((c + 1 : Nat) : Int) := rfl
section
variable {P : Program} {w : World} {K : PySem.W.Frag} {mg : Str → Option Value} {base : Heap}
theorem ok_deck {f : Addr} {fd : FuncData} {k : Nat} (F : Fun K "_law_deck" "_law_deck" sLDeck f fd) (nlist : mg "list" = none) (nint : mg "int" = none) : FnOk P w K mg base CX0 (k + 1) f fd ["_law_script"] (spDeck K) := by
  refine F.ok scLDeck (fun vs H Q E h => ?_) (fun cdv A outer s H vs Q E hr h => ?_)
  · obtain ⟨a, ns, rfl, _⟩ := h; rfl
  · obtain ⟨a, ns, rfl, hS, hl, kQ⟩ := h
    refine ⟨_, (pss_cons (ps_par (i := 1) (j := 2) (by rfl) scLDeck.nd rfl rfl (by decide) rfl rfl (pa_cons (pe_callTy call_list_of (by rfl) nlist (by decide +kernel) (pa_cons (pe_slice sl_list (pv 0) po_none (po_some pe_int)) pa_nil)) (pa_cons pe_int pa_nil)) (by rfl))
      (pss_cons (ps_for PassesOwn.never rfl (pi_list (pv 1)) (pg_name (i := 3) scLDeck.nd rfl (by first | exact Or.inl rfl | exact Or.inr rfl)) (pss_one (ps_set (i := 2) scLDeck.nd rfl (by first | exact Or.inl rfl | exact Or.inr rfl) (pe_op op_mod (pe_callTy call_int1 (by rfl) nint (by decide +kernel) (pa_cons (pe_op op_add (pe_op op_add (pe_op op_mul (pv 2) pe_int) (pe_op op_mod (pe_callTy call_int1 (by rfl) nint (by decide +kernel) (pa_cons (pv 3) pa_nil)) pe_int)) pe_int) pa_nil)) pe_int))))
      (pss_one (ps_ret (pe_disp (pps_cons pe_str (pe_revL (pv 1)) (pps_cons pe_str (pv 2) (pps_cons pe_str pe_int pps_nil))) rfl rfl (by simp) (by decide)))))), ?_⟩
    refine ⟨.ref a, rfl, 63, rfl, a, ns.map V.int, rfl, hS, fun p np => ?_⟩
    have s1 : Same H (upd H p (.lst (cutV (ns.map V.int) none (some 63)))) := same_upd np
    refine ⟨p, cutV (ns.map V.int) none (some 63), rfl, .inl (.inl (.inl upd_same)), fun l nl => ?_⟩
    have s2 := s1.trans (same_upd (o := .lst (cutV (ns.map V.int) none (some 63))) nl)
    obtain ⟨ms, e1, e2⟩ : ∃ ms : List Int, cutV (ns.map V.int) none (some 63) = ms.map V.int ∧ ms.length ≤ 63 := ⟨cutI ns 63, cutI_map ns, cutI_len _ _ hl⟩
    generalize hG : upd (upd H p (.lst (cutV (ns.map V.int) none (some 63)))) l (.lst (cutV (ns.map V.int) none (some 63))) = G at s2 ⊢
    have hGl : G l = some (.lst (ms.map V.int)) := by rw [← hG, upd_same, e1]
    refine ⟨.ref l, _, rfl, .ref l, rfl, l, rfl, ⟨_, .inl (.inl hGl)⟩, for_list (K := K) (a := l) (xs := ms.map V.int) (fun i σ H' => ∃ (b : Int) (y : Option V), σ = [some (.ref a), some (.ref l), some (.int b), y] ∧ 0 ≤ b ∧ b < 2147483648 ∧ H' = G)
      ⟨_, none, rfl, by decide, by decide, rfl⟩ (fun i σ H' _ ⟨_, _, _, _, _, e⟩ => by rw [e]; exact .inl (.inl hGl)) ?_ ?_⟩
    · rintro i x σ H' hi ⟨b, y, rfl, h0, h1, rfl⟩
      obtain ⟨z, hz, rfl⟩ := get_map_int hi
      refine ⟨_, rfl, b, 39373, rfl, rfl, .inl ⟨by omega, by omega⟩, _, rfl, .inl ⟨_, rfl, _, _, rfl, rfl, (by show (0:Int) < _; decide), ?_⟩⟩
      refine ⟨_, _, rfl, rfl, _, _, rfl, rfl, .inl ⟨_, rfl, _, _, rfl, rfl, (by show (0:Int) < _; decide), ?_⟩⟩
      exact ⟨_, _, rfl, Int.emod_nonneg _ (by decide), Int.lt_trans (Int.emod_lt_of_pos _ (by decide)) (by decide), rfl⟩
    · rintro σ H' ⟨b, y, rfl, h0, h1, rfl⟩
      refine fun d nd => ?_
      have s3 : Same H' (upd H' d (.dK [])) := same_upd nd
      have g3 : upd H' d (.dK []) d = some (.dK []) := upd_same
      generalize upd H' d (.dK []) = G1 at s3 g3 ⊢
      refine ⟨.ref l, rfl, l, _, rfl, .inl (.inl (s3 _ _ hGl)), fun r nr => ?_⟩
      have s4 : Same G1 (upd G1 r (.lst (ms.map V.int).reverse)) := same_upd nr
      have g4 : upd G1 r (.lst (ms.map V.int).reverse) r = some (.lst (ms.reverse.map V.int)) := by rw [upd_same, List.map_reverse]
      generalize upd G1 r (.lst (ms.map V.int).reverse) = G2 at s4 g4 ⊢
      have g3' := s4 _ _ g3
      refine ⟨_, rfl, g3', dkV r b 0, rfl, by show 3 ≤ 15; decide, ?_⟩
      rw [dk_merge]
      have nd0 : H d = none := s2.free nd
      have sF : Same H (upd G2 d (.dK (dkV r b 0))) := fun x o e => by rw [upd_ne (ne_of_none e nd0)]; exact s4 _ _ (s3 _ _ (s2 _ _ e))
      have tr : r ≠ d := fun e => by rw [e, g3'] at g4; cases g4
      exact kQ d r _ sF ⟨0, Nat.le_refl _, tr.symm, ⟨b, h0, h1, upd_same⟩, ⟨ms.reverse, by rw [List.length_reverse]; exact e2, by rw [upd_ne tr]; exact g4⟩⟩ nd0 ((s2.trans s3).free nr)
theorem ok_draw {f : Addr} {fd : FuncData} {k : Nat} (F : Fun K "_law_draw" "_law_draw" sLDraw f fd) (nint : mg "int" = none) : FnOk P w K mg base CX0 (k + 1) f fd ["_law_deck_here", "_law_below"] spDraw := by
  refine F.ok scLDraw (fun vs H Q E h => ?_) (fun cdv A outer s H vs Q E hr h => ?_)
  · obtain ⟨a, q, m, n, rfl, _⟩ := h; rfl
  · obtain ⟨a, q, m, n, rfl, ⟨c, hc, DD⟩, hm, hn0, hn1, kQ⟩ := h
    have hu : _ := hr.units
    have hu1 : (A.deeper (envOfC "_law_draw" (defScope sLDraw) s.heap.objs.size f cdv)).units + 1 < cLine := by omega
    refine ⟨_, (pss_cons (ps_dput hu1 (pv 0) pe_str (pe_op op_add (pe_dget hu1 (pv 0) pe_str (fun _ _ => rfl)) pe_int) rfl)
      (pss_cons (ps_par (i := 2) (j := 3) (by rfl) scLDraw.nd rfl rfl (by decide) rfl rfl (pa_cons (pe_dget hu1 (pv 0) pe_str (fun _ _ => rfl)) (pa_cons (pe_dget hu1 (pv 0) pe_str (fun _ _ => rfl)) pa_nil)) (by rfl))
      (pss_cut (ps_if (pt_cmpR (op_neN hr.units0) (pe_dget hu1 (pv 0) pe_str (fun _ _ => rfl)) (pe_lst pa_nil) (nomark _)) (pss_cons (ps_set (i := 4) scLDraw.nd rfl (by first | exact Or.inl rfl | exact Or.inr rfl) (pe_bm0 PySem.F.plainAttrs_list PySem.F.slot_list_pop PySem.F.type_list_pop mt_pop (pe_dget hu1 (pv 0) pe_str (fun _ _ => rfl))))
      (pss_cons (ps_if (pt_cmpR op_ge (pv 4) (pe_op op_pow pe_int pe_int) (nomark _)) (pss_cons (ps_expr (pe_bm PySem.F.plainAttrs_list PySem.F.slot_list_append PySem.F.type_list_append mt_append (pe_dget hu1 (pv 0) pe_str (fun _ _ => rfl)) (pa_cons (pe_op op_fdiv (pv 4) (pv 1)) pa_nil)))
      (pss_one (ps_ret (pe_op op_mod (pe_callTy call_int1 (by rfl) nint (by decide +kernel) (pa_cons (pv 4) pa_nil)) (pv 1))))) pss_nil)
      (pss_one (ps_set (i := 3) scLDraw.nd rfl (by first | exact Or.inl rfl | exact Or.inr rfl) (pe_op op_add (pv 3) (pe_op op_mod (pe_callTy call_int1 (by rfl) nint (by decide +kernel) (pa_cons (pv 4) pa_nil)) pe_int)))))) pss_nil)
      (pss_cons (ps_set (i := 3) scLDraw.nd rfl (by first | exact Or.inl rfl | exact Or.inr rfl) (pe_op op_mod (pe_op op_mul (pe_callTy call_int1 (by rfl) nint (by decide +kernel) (pa_cons (pe_op op_add (pe_op op_add (pe_op op_mod (pv 3) pe_int) (pe_op op_mul (pe_op op_mul pe_int (pv 2)) (pv 2))) pe_int) pa_nil)) pe_int) pe_int))
      (pss_cons (ps_set (i := 3) scLDraw.nd rfl (by first | exact Or.inl rfl | exact Or.inr rfl) (pe_op op_mod (pe_callTy call_int1 (by rfl) nint (by decide +kernel) (pa_cons (pe_op op_add (pe_op op_add (pe_op op_mul (pv 3) (pv 3)) (pe_op op_mul pe_int (pv 2))) pe_int) pa_nil)) pe_int))
      (pss_one (ps_ret (pe_op op_mod (pe_op op_fdiv (pe_op op_mod (pe_callTy call_int1 (by rfl) nint (by decide +kernel) (pa_cons (pe_op op_mul (pv 3) pe_int) pa_nil)) pe_int) pe_int) (pv 1))))))))), ?_⟩
    obtain ⟨b, hb0, hb1, hA⟩ := DD.top
    obtain ⟨ns, hns, hQ⟩ := DD.que
    refine ⟨_, rfl, a, _, rfl, dk_draws hA, _, _, rfl, rfl, .ref a, rfl, a, _, rfl, DPut.k (k := .inr "draws") hA (lt_sz (by show 3 ≤ 1000000; decide)), ?_⟩
    rw [dk_put, cast1]
    generalize hG : upd H a (.dK (dkV q b ((c + 1 : Nat) : Int))) = G
    have hGa : G a = some (.dK (dkV q b ((c + 1 : Nat) : Int))) := by rw [← hG]; exact upd_same
    have hGq : G q = some (.lst (ns.map V.int)) := by rw [← hG, upd_ne DD.ne.symm]; exact hQ
    have oG : EL.Off a q H G := fun x o h1 h2 h => by rw [← hG, upd_ne h1]; exact h
    have dkG : Dk a q (c + 1) G := ⟨DD.ne, ⟨b, hb0, hb1, hGa⟩, ⟨ns, hns, hGq⟩⟩
    refine ⟨_, rfl, a, _, rfl, dk_draws hGa, _, rfl, a, _, rfl, dk_stir hGa, _, _, rfl, ?_⟩
    refine ⟨fun σ H' => ∃ (z : Int) (y : Option V), σ = [some (.ref a), some (.int n), some (.int ((c + 1 : Nat) : Int)), some (.int z), y] ∧ EL.Off a q H H' ∧ Dk a q (c + 1) H', ?_, ?_⟩
    · refine ⟨_, rfl, a, _, rfl, dk_cells hGa, by show 0 ≤ sizeLine; decide, fun l nl => ?_⟩
      generalize hG2 : L2.upd G l (.lst []) = G2
      have s2 : Same G G2 := by rw [← hG2]; exact same_upd nl
      have dk2 := dkG.same s2
      have o2 : EL.Off a q H G2 := oG.trans (.of_same s2)
      have hl2 : G2 l = some (.lst []) := by rw [← hG2]; exact upd_same
      have hq2 := s2 _ _ hGq
      have ha2 := s2 _ _ hGa
      refine ⟨q, l, _, rfl, rfl, sqOf hq2, sqOf hl2, _, rfl, ?_⟩
      by_cases hz : ns = []
      · rw [decide_eq_true (by rw [hz]; rfl)]
        exact iteF ⟨_, none, rfl, o2, dk2⟩
      · rw [decide_eq_false (by simpa using hz)]
        refine iteT ?_
        obtain ⟨y, hy⟩ := last_int hz
        refine ⟨_, rfl, a, _, rfl, dk_cells ha2, .inl ⟨rfl, _, sqOf hq2⟩, q, _, .int y, rfl, rfl, hq2, hy, ?_⟩
        generalize hG3 : L2.upd G2 q (.lst (ns.map V.int).dropLast) = G3
        have o3 : EL.Off a q H G3 := o2.trans fun x o h1 h2 h => by rw [← hG3, upd_ne h2]; exact h
        have ha3 : G3 a = some (.dK (dkV q b ((c + 1 : Nat) : Int))) := by rw [← hG3, upd_ne DD.ne]; exact ha2
        have hq3 : G3 q = some (.lst (ns.dropLast.map V.int)) := by rw [← hG3, upd_same, List.map_dropLast]
        have hl3 : ns.dropLast.length ≤ 62 := by rw [List.length_dropLast]; omega
        have dk3 : Dk a q (c + 1) G3 := ⟨DD.ne, ⟨b, hb0, hb1, ha3⟩, ⟨_, by omega, hq3⟩⟩
        refine ⟨_, rfl, 10, 18, rfl, rfl, ⟨by decide, by decide, by decide⟩, y, _, rfl, rfl, _, rfl, ite2 (fun _ => ?_) (fun _ => ?_)⟩
        · refine ⟨_, rfl, a, _, rfl, dk_cells ha3, .inl ⟨rfl, _, sqOf hq3⟩, _, rfl, _, rfl, y, n, rfl, rfl, ⟨by omega, by omega⟩, q, _, _, rfl, rfl, hq3, (by rw [List.length_map]; exact lt_sz (by omega)), ?_⟩
          generalize hG4 : L2.upd G3 q (.lst (ns.dropLast.map V.int ++ [V.int (y / n)])) = G4
          have o4 : EL.Off a q H G4 := o3.trans fun x o h1 h2 h => by rw [← hG4, upd_ne h2]; exact h
          have ha4 : G4 a = some (.dK (dkV q b ((c + 1 : Nat) : Int))) := by rw [← hG4, upd_ne DD.ne]; exact ha3
          have hq4 : G4 q = some (.lst ((ns.dropLast ++ [y / n]).map V.int)) := by rw [← hG4, upd_same, List.map_append]; rfl
          have dk4 : Dk a q (c + 1) G4 := ⟨DD.ne, ⟨b, hb0, hb1, ha4⟩, ⟨_, by rw [List.length_append]; show _ + 1 ≤ 63; omega, hq4⟩⟩
          refine ⟨_, rfl, .inl ⟨_, rfl, _, rfl, _, _, rfl, rfl, hn0, ?_⟩⟩
          exact kQ _ _ (Int.emod_nonneg _ (by omega)) (Int.emod_lt_of_pos _ hn0) o4 ⟨c + 1, by omega, dk4⟩
        · refine ⟨_, rfl, _, rfl, .inl ⟨_, rfl, _, _, rfl, rfl, (by show (0:Int) < _; decide), _, _, rfl, rfl, ?_⟩⟩
          exact ⟨_, some (.int y), rfl, o3, dk3⟩
    · rintro σ H' ⟨z, y, rfl, o5, D5⟩
      have hc3 : ((c + 1 : Nat) : Int) < 1000000001 := by omega
      have hc4 : (0 : Int) ≤ ((c + 1 : Nat) : Int) := by omega
      generalize ((c + 1 : Nat) : Int) = t at hc3 hc4 ⊢
      refine ⟨_, rfl, _, _, rfl, rfl, (by show (0:Int) < _; decide), _, rfl, _, _, rfl, rfl, .inr ⟨by omega, by omega⟩, _, rfl, _, _, rfl, rfl, .inr ⟨by omega, by omega⟩, _, _, rfl, rfl, _, _, rfl, rfl, ?_⟩
      refine .inl ⟨_, rfl, _, _, rfl, rfl, .inr ⟨by omega, by omega⟩, _, _, rfl, rfl, (by show (0:Int) < _; decide), ?_⟩
      refine ⟨_, rfl, _, rfl, _, _, rfl, rfl, .inl ⟨by omega, by omega⟩, _, rfl, _, _, rfl, rfl, .inl ⟨by omega, by omega⟩, _, _, rfl, rfl, _, _, rfl, rfl, ?_⟩
      refine .inl ⟨_, rfl, _, _, rfl, rfl, (by show (0:Int) < _; decide), ?_⟩
      refine ⟨_, rfl, _, _, rfl, rfl, .inr ⟨by omega, by omega⟩, .inl ⟨_, rfl, _, _, rfl, rfl, (by show (0:Int) < _; decide), _, _, rfl, rfl, ⟨by omega, by omega⟩, _, rfl, _, _, rfl, rfl, hn0, ?_⟩⟩
      exact kQ _ _ (Int.emod_nonneg _ (by omega)) (Int.emod_lt_of_pos _ hn0) o5 ⟨c + 1, by omega, D5⟩
theorem ok_pick {f : Addr} {fd : FuncData} {k : Nat} (F : Fun K "_law_pick" "_law_pick" sLPick f fd) (nlen : mg "len" = none) (C : Cal P w K mg base (k + 1) "_law_draw" ["_law_deck_here", "_law_below"] spDraw) :
    FnOk P w K mg base CX0 (k + 2) f fd ["_law_deck_here", "_law_some"] (spPick K) := by
  refine F.ok scLPick (fun vs H Q E h => ?_) (fun cdv A outer s H vs Q E hr h => ?_)
  · obtain ⟨a, q, m, y, rfl, _⟩ := h; rfl
  · obtain ⟨a, q, m, y, rfl, hD, hm, h⟩ := h
    refine ⟨_, pss_one (ps_ret (pe_ix ix_seq (pv 1) (pe_cal C hr (by rfl) pass0 (pa_cons (pv 0) (pa_cons (pe_callB call_len (by rfl) nlen boot_len (pa_cons (pv 1) pa_nil)) pa_nil))) (fun _ _ => rfl))), ?_⟩
    refine ⟨y, rfl, .ref a, rfl, y, rfl, ?_⟩
    rcases h with ⟨l, xs, rfl, hS, hne, hlen, kQ⟩ | ⟨z, rfl, hne, hlen, kQ⟩
    · have hS' : SqL K H l xs := ex_l' hid_sub hS
      have hp : 0 < xs.length := List.length_pos_iff.mpr hne
      refine ⟨_, _, rfl, .inl ⟨_, hS', rfl⟩, a, q, m, _, rfl, hD, hm, by omega, by omega, fun j H' h0 h1 o D' => ?_⟩
      obtain ⟨i, rfl⟩ := Int.eq_ofNat_of_zero_le h0
      have hi : i < xs.length := by omega
      refine .inl ⟨l, xs, (i : Int), xs[i], rfl, rfl, ex_l' hid_sub (ex_l' o.hid hS), atI_nat (List.getElem?_eq_getElem hi), ?_⟩
      exact kQ i _ H' (List.getElem?_eq_getElem hi) o D'
    · refine ⟨_, _, rfl, ⟨len_sz hlen, rfl⟩, a, q, m, _, rfl, hD, hm, by omega, by omega, fun j H' h0 h1 o D' => ?_⟩
      obtain ⟨i, rfl⟩ := Int.eq_ofNat_of_zero_le h0
      have hi : i < z.cps.toList.length := by
        have e : z.cps.toList.length = z.length := by rw [Array.length_toList]; rfl
        omega
      refine .inr (.inr ⟨z, (i : Int), z.cps.toList[i], rfl, rfl, len_sz hlen, atI_nat (List.getElem?_eq_getElem hi), ?_⟩)
      exact kQ i _ H' (List.getElem?_eq_getElem hi) o D'

end
end KP
/-! The end of a law whose defs make lambdas: tables of code objects, by FnG. -/
namespace EL
open PySem PySem.Spec PyProof.Rows L2 LamX
section
variable {P : Program} {w : World} {K : PySem.W.Frag} {mg mb : Str → Option Value} {s₁ : Shared} {ts : List Addr}
/-- an empty table -/
abbrev tabZ : Obj := { cls := .none, data := .fields #[] }
/-- the heap that tracks tables and one list at most: what is under it -/
theorem base_tabs {H : Hp} {a : Addr} {vs : List Value} (KX : K.In s₁.heap) (hns : s₁.heap.Ns mainGlobals mg) (hb : s₁.heap.Ns builtinsNs mb) (hbb : ∀ x : Str, x ≠ "__name__" → mb x = bootBuiltins x) (hlim : s₁.heap.NoLimit)
    (hbm : ∃ (bm : Addr) (ob : Obj), mg "__builtins__" = some (.ref bm) ∧ bm ≠ builtinsNs ∧ s₁.heap.get? bm = some ob ∧ ob.cls = .type "module" ∧ ob.dict = some builtinsNs ∧ ob.data = .plain)
    (ha : s₁.heap.get? a = some { cls := .type "list", data := .seq vs.toArray }) (hT : ∀ t ∈ ts, s₁.heap.get? t = some tabZ) (nT : ∀ t ∈ ts, K.lookup t = none) (hA : ∀ b u, H b = some u → b = a ∨ b ∈ ts) (hK : ∀ u, H a = some u → K.lookup a = none) :
    K.In (hidT s₁.heap H) ∧ Mod K mg (hidT s₁.heap H) ∧ ∀ t ∈ ts, (hidT s₁.heap H).BuiltinsAt mg t ∧ mainGlobals ≠ t := by
  have free : ∀ {b : Addr} {o : Obj}, s₁.heap.get? b = some o → (∀ n, o.data ≠ .seq vs.toArray n) → o.data ≠ .fields #[] → H b = none := by
    intro b o e d1 d2
    cases q : H b with
    | none => rfl
    | some u =>
      rcases hA b u q with rfl | m
      · rw [ha] at e
        cases e
        exact absurd rfl (d1 _)
      · rw [hT b m] at e
        cases e
        exact absurd rfl d2
  have dictFree : ∀ {b : Addr} {o : Obj} {es : Array DictEntry} {n : Nat}, s₁.heap.get? b = some o → o.data = .dict es n → H b = none := fun {b o es n} e d => free e (fun k z => by rw [d] at z; cases z) fun z => by rw [d] at z; cases z
  have ns : ∀ {b : Addr} {m : Str → Option Value}, s₁.heap.Ns b m → (hidT s₁.heap H).Ns b m := by
    rintro b m ⟨o, es, n, e, d, r⟩
    exact ⟨o, es, n, hidT_get e (dictFree e d), d, r⟩
  have kin : K.In (hidT s₁.heap H) := by
    intro b o e
    refine hidT_get (KX b o e) ?_
    cases q : H b with
    | none => rfl
    | some u =>
      rcases hA b u q with rfl | m
      · rw [hK u q] at e
        exact nomatch e
      · rw [nT b m] at e
        exact nomatch e
  obtain ⟨mc, l1, l2⟩ := hlim
  refine ⟨kin, ⟨kin, ns hns, ⟨mb, ns hb, hbb⟩, ⟨mc, ns l1, l2⟩⟩, fun t ht => ?_⟩
  have gt := hT t ht
  obtain ⟨o, es, ep, e, d, _⟩ := hns
  obtain ⟨bm, ob, b1, b2, b3, b4, b5, b6⟩ := hbm
  refine ⟨⟨bm, ob, b1, b2, fun z => ?_, fun z => ?_, hidT_get b3 (free b3 (fun k z => by rw [b6] at z; cases z) fun z => by rw [b6] at z; cases z), b4, b5, b6⟩, fun z => ?_⟩
  · rw [z, e] at b3
    cases b3
    rw [d] at b6
    cases b6
  · rw [z, gt] at b3
    cases b3
    cases b6
  · rw [z, gt] at e
    cases e
    cases d
theorem law_callGT {k : Nat} {fa a : Addr} {fd : FuncData} {x : Str} {sp : Sp} {vs : List Value} {ns : List Int}
    (KX : K.In s₁.heap) (hns : s₁.heap.Ns mainGlobals mg) (hb : s₁.heap.Ns builtinsNs mb) (hbb : ∀ x : Str, x ≠ "__name__" → mb x = bootBuiltins x) (hlim : s₁.heap.NoLimit) (hg : s₁.gens = #[])
    (hbm : ∃ (bm : Addr) (ob : Obj), mg "__builtins__" = some (.ref bm) ∧ bm ≠ builtinsNs ∧ s₁.heap.get? bm = some ob ∧ ob.cls = .type "module" ∧ ob.dict = some builtinsNs ∧ ob.data = .plain)
    (hT : ∀ t ∈ ts, s₁.heap.get? t = some tabZ) (nT : ∀ t ∈ ts, K.lookup t = none) (hC : ∀ t ∈ ts, ∃ c, PySem.W.CodeHd s₁.heap c t)
    (ha : s₁.heap.get? a = some { cls := .type "list", data := .seq vs.toArray }) (hi : IntsAre vs ns) (hl : ns.length ≤ sizeLine) (hr : Room k callerA)
    (F : ∀ base : Heap, K.In base → base.Ns mainGlobals mg → (∀ t ∈ ts, base.BuiltinsAt mg t ∧ mainGlobals ≠ t) → FnG P w K mg base k fa fd [x] sp) (hbind : ∀ (s : Shared) (u : Value), BindsTo s fd ⟨[u], []⟩ [(x, u)])
    (hsp : ∀ H : Hp, (∀ t ∈ ts, H t = some (.tbl #[])) → SqL K H a (ns.map V.int) → sp [.ref a] H (fun v _ => v = .bl true) fun _ _ _ => False) :
    codeAny (model P w) callerA (.call (.ref fa) ⟨[.ref a], []⟩) (fun r s' => r = .ok (.ret (.bool true)) ∧ OldK s₁.heap s'.heap ∧ s'.os = s₁.os ∧ AllBare s'.gens) s₁ := by
  have rv : Vals (ns.map V.int) vs := vals_ints hi
  have aT : a ∉ ts := fun m => by
    have q := hT a m
    rw [ha] at q
    cases q
  have key : ∀ H : Hp, (∀ t ∈ ts, H t = some (.tbl #[])) → (∀ b, b ∉ ts → H b = none ∨ ∃ o xs, H b = some (.frz o (.lst xs))) → SqL K H a (ns.map V.int) → HOk P w H s₁.heap → (∀ b u, H b = some u → b = a ∨ b ∈ ts) → (∀ u, H a = some u → K.lookup a = none) →
      codeAny (model P w) callerA (.call (.ref fa) ⟨[.ref a], []⟩) (fun r s' => r = .ok (.ret (.bool true)) ∧ OldK s₁.heap s'.heap ∧ s'.os = s₁.os ∧ AllBare s'.gens) s₁ := by
    intro H hH hO hS hok hA hK
    obtain ⟨kb, md, tb⟩ := base_tabs KX hns hb hbb hlim hbm ha hT nT hA hK
    have e0 : Env0 P w K mg (hidT s₁.heap H) callerA [] s₁ H := ⟨rfl, md, fun _ _ e => of_hidT e, Nat.le_of_eq (hidT_size s₁.heap H), trivial, fun _ z => (List.not_mem_nil z).elim, hok, .of_eq hg⟩
    have run := (F _ kb md.glob tb).go (Q := fun v _ => v = .bl true) (E := fun _ _ _ => False) ⟨hr, rfl⟩ e0 (vs := [.ref a]) (us := [.ref a]) (hbind s₁ (.ref a)) (Paired.cons (show RelV (.ref a) (.ref a) from rfl) .nil) (hsp H hH hS)
    refine codeAny_mono run fun r s2 h2 => ?_
    match r, h2 with
    | .error e, h2 => exact h2.elim
    | .ok .next, h2 => exact h2.elim
    | .ok .brk, h2 => exact h2.elim
    | .ok .cont, h2 => exact h2.elim
    | .ok (.ret u), ⟨v, H2, os, bare, un, ok2, r2, q2⟩ =>
      obtain rfl : v = .bl true := q2
      obtain rfl : u = Value.bool true := r2
      have grown : ∀ t ∈ ts, ∃ more : Array Value, s2.heap.get? t = some { cls := .none, data := .fields more } := fun t ht => by
        obtain ⟨more, z⟩ := un.tbls t #[] (hH t ht)
        exact ⟨_, ok2 t _ z⟩
      have same : ∀ b o, b ∉ ts → s₁.heap.get? b = some o → s2.heap.get? b = some o := fun b o nb e => by
        cases q : H b with
        | none => exact un.keep b o e q (List.not_mem_nil) (List.not_mem_nil)
        | some u =>
          obtain ⟨ob, xs, z⟩ := (hO b nb).resolve_left (by rw [q]; exact fun y => nomatch y)
          have e1 : s₁.heap.get? b = some ob := (hok b _ z).1
          have e2 : s2.heap.get? b = some ob := (ok2 b _ (un.frzs b ob _ z)).1
          rw [e] at e1
          rw [Option.some.inj e1]; exact e2
      refine ⟨rfl, ⟨fun b o e => ?_, fun b o e => ?_⟩, os, bare⟩
      · by_cases m : b ∈ ts
        · obtain ⟨more, g⟩ := grown b m
          obtain ⟨c, hc⟩ := hC b m
          have gb := hT b m
          rw [gb] at e
          cases e
          refine .inr (.inl ⟨(hc.tab gb).isCodeTable, rfl, #[], more, rfl, ?_⟩)
          rw [Array.empty_append]; exact g
        · exact .inl (same b o m e)
      · by_cases m : b ∈ ts
        · obtain ⟨more, g⟩ := grown b m
          exact ⟨_, g⟩
        · exact ⟨o, same b o m e⟩
  by_cases hk : K.lookup a = none
  · refine key (fun b => if b = a then some (.frz { cls := .type "list", data := .seq vs.toArray } (.lst (ns.map V.int))) else if b ∈ ts then some (.tbl #[]) else none) (fun t ht => ?_) (fun b nb => ?_) (.inl (.inr ⟨_, if_pos rfl⟩)) (fun b u z => ?_) (fun b u z => ?_) fun _ _ => hk
    · exact (if_neg fun e => aT (by rw [← e]; exact ht)).trans (if_pos ht)
    · by_cases e : b = a
      · exact .inr ⟨_, _, if_pos e⟩
      · exact .inl ((if_neg e).trans (if_neg nb))
    · by_cases e : b = a
      · subst e
        obtain rfl := Option.some.inj ((if_pos rfl).symm.trans z)
        exact ⟨ha, (by rw [List.length_map]; exact hl), vs, _, rv, ha⟩
      · have z := (if_neg e).symm.trans z
        by_cases m : b ∈ ts
        · obtain rfl := Option.some.inj ((if_pos m).symm.trans z)
          exact hT b m
        · exact nomatch (if_neg m).symm.trans z
    · by_cases e : b = a
      · exact .inl e
      · by_cases m : b ∈ ts
        · exact .inr m
        · exact nomatch ((if_neg e).trans (if_neg m)).symm.trans z
  · obtain ⟨o, ho⟩ := Option.ne_none_iff_exists'.mp hk
    have e := KX a o ho
    rw [ha] at e
    obtain rfl := Option.some.inj e
    have lv : vs.length = ns.length := hi.length
    refine key (fun b => if b ∈ ts then some (.tbl #[]) else none) (fun t ht => if_pos ht) (fun b nb => .inl (if_neg nb)) (.inr ⟨_, vs.toArray, _, ho, rfl, rfl, rfl, (by rw [List.size_toArray, lv]; exact hl), (by simpa using rv)⟩) (fun b u z => ?_) (fun b u z => ?_) fun u z => ?_
    · by_cases m : b ∈ ts
      · obtain rfl := Option.some.inj ((if_pos m).symm.trans z)
        exact hT b m
      · exact nomatch (if_neg m).symm.trans z
    · by_cases m : b ∈ ts
      · exact .inr m
      · exact nomatch (if_neg m).symm.trans z
    · exact nomatch (if_neg aT).symm.trans z
end
theorem walk_ofGT {l : PySem.W.OpenLaw} {n k : Nat} {q : Program} {loose : List Str} {XP : (Str → Option Value) → Heap → Prop} {YP : World → Heap → Prop} {d : DefRec} {K : Params → PySem.W.Frag} {ts : List Addr} {x : Str}
    (hn : l.most = some n) (hn2 : n ≤ sizeLine) (hdf : d.params.defaults = []) (hr : Room k callerA) (hY : ∀ (w : World) (h : Heap), YP w h → (K w.params).In h) (hYT : ∀ (w : World) (h : Heap), YP w h → ∀ t ∈ ts, h.get? t = some tabZ)
    (F : ∀ (w : World) (mg : Str → Option Value) (fa : Addr) (h : Heap), (K w.params).In h → h.Ns mainGlobals mg → mg d.name = some (.ref fa) →
      ∃ (fd : FuncData) (sp : Sp), (∀ t ∈ ts, (K w.params).lookup t = none ∧ ∃ c, PySem.W.codeHdIn (K w.params) c t = true) ∧ (∀ (s : Shared) (u : Value), BindsTo s fd ⟨[u], []⟩ [(x, u)]) ∧
        (∀ (H : Hp) (a : Addr) (ns : List Int), ns.length ≤ n → (∀ t ∈ ts, H t = some (.tbl #[])) → SqL (K w.params) H a (ns.map V.int) → sp [.ref a] H (fun v _ => v = .bl true) fun _ _ _ => False) ∧
        ∀ base : Heap, (K w.params).In base → base.Ns mainGlobals mg → (∀ t ∈ ts, base.BuiltinsAt mg t ∧ mainGlobals ≠ t) → FnG l.prog w (K w.params) mg base k fa fd [x] sp) :
    PySem.W.WalkO q loose XP YP l.row.toRowW d [] (fun f vs => PySem.call f vs) := by
  refine Att.attach_call hn hdf fun w _ _ mg mb fa _ _ _ _ a vs ns G Y _ _ _ hmg hobj hints hlen hg => ?_
  obtain ⟨fd, sp, hc, hb, hsp, hF⟩ := F w mg fa _ (hY w _ Y) G.T.g hmg
  exact law_callGT (ts := ts) (hY w _ Y) G.T.g G.T.b G.T.builtins G.T.nolimit hg G.T.bmain (hYT w _ Y) (fun t ht => (hc t ht).1) (fun t ht => (hc t ht).2.elim fun c e => ⟨c, PySem.W.codeHd_of_K (hY w _ Y) e⟩) hobj hints (Nat.le_trans hlen hn2) hr hF hb (fun H hH hS => hsp H a ns hlen hH hS)
end EL
namespace KP
open PySem PySem.Spec PyProof.Rows L2 EL
theorem gup {P : Program} {w : World} {K : PySem.W.Frag} {mg : Str → Option Value} {base : Heap} {j k : Nat} {f : Addr} {fd : FuncData} {ps : List Str} {sp : Sp} (F : FnG P w K mg base j f fd ps sp) (h : j ≤ k) : FnG P w K mg base k f fd ps sp := ⟨F.ln, fun hr => F.go (hr.mono h)⟩
theorem itup {P : Program} {w : World} {K : PySem.W.Frag} {mg : Str → Option Value} {base : Heap} {j k : Nat} {f C : Addr} {fd : FuncData} {fld : Str} (F : FnIt P w K mg base j f fd C fld) (h : j ≤ k) : FnIt P w K mg base k f fd C fld := ⟨fun A outer s H args us x dx t fs zs hr => F.run A outer s H args us x dx t fs zs (hr.mono h)⟩
/-- the table that a code object names -/
def at11 (o : Obj) : Option Value := match o.data with
  | .fields vs => vs.toList[11]?
  | _ => none
theorem all_mk {ts : List Addr} {Pt cS bSt : Addr} {oC : Obj} {dST : Option Addr} {tS1 tS2 : Tok} {nST : Nat} {slST : Array (Option Value)} {l : PySem.W.OpenLaw} {w : World} {K : PySem.W.Frag} {h : Heap} {mg : Str → Option Value} {fa f0 f1 f2 f3 f4 f5 f6 f7 f8 f9 f10 f11 f12 f13 f14 f15 f16 f17 f18 f19 f20 f21 f22 f23 f24 f25 f26 f27 f28 f29 f30 f31 f32 CStepper : Addr} {tLETTERS tNO_LETTER tBOTH_SIDES tLEFT_SIDE tRIGHT_SIDE : Tok} (X : K.In h) (G : h.Ns mainGlobals mg) (hfa : mg "law" = some (.ref fa))
    (aStepper : PySem.W.nsIn K mainGlobals "Stepper" = some (some (.ref CStepper)))
    {od0 an0 : Option Addr} {sl0 : Array (Option Value)} {oc0 kV0 dc0 pm0 cd0 ct0 : Value} (a0 : PySem.W.nsIn K mainGlobals "is_text" = some (some (.ref f0))) (l0 : K.lookup f0 = some ⟨oc0, od0, .func (PySem.W.fnOf "is_text" "is_text" (defArgs sIsText) (defBody sIsText) (defScope sIsText) .none kV0 dc0 pm0 an0 cd0 ct0), sl0⟩) (c0 : PySem.W.codeIn K cd0 "is_text" = true) (k0 : PySem.W.keepIn K (.ref f0) = true)
    {od1 an1 : Option Addr} {sl1 : Array (Option Value)} {oc1 kV1 dc1 pm1 cd1 ct1 : Value} (a1 : PySem.W.nsIn K mainGlobals "is_integer" = some (some (.ref f1))) (l1 : K.lookup f1 = some ⟨oc1, od1, .func (PySem.W.fnOf "is_integer" "is_integer" (defArgs sIsInteger) (defBody sIsInteger) (defScope sIsInteger) .none kV1 dc1 pm1 an1 cd1 ct1), sl1⟩) (c1 : PySem.W.codeIn K cd1 "is_integer" = true) (k1 : PySem.W.keepIn K (.ref f1) = true)
    {od2 an2 : Option Addr} {sl2 : Array (Option Value)} {oc2 kV2 dc2 pm2 cd2 ct2 : Value} (a2 : PySem.W.nsIn K mainGlobals "is_state" = some (some (.ref f2))) (l2 : K.lookup f2 = some ⟨oc2, od2, .func (PySem.W.fnOf "is_state" "is_state" (defArgs sIsState) (defBody sIsState) (defScope sIsState) .none kV2 dc2 pm2 an2 cd2 ct2), sl2⟩) (c2 : PySem.W.codeIn K cd2 "is_state" = true) (k2 : PySem.W.keepIn K (.ref f2) = true)
    {od3 an3 : Option Addr} {sl3 : Array (Option Value)} {oc3 kV3 dc3 pm3 cd3 ct3 : Value} (a3 : PySem.W.nsIn K mainGlobals "is_tuple_of_states" = some (some (.ref f3))) (l3 : K.lookup f3 = some ⟨oc3, od3, .func (PySem.W.fnOf "is_tuple_of_states" "is_tuple_of_states" (defArgs sIsTupleOfStates) (defBody sIsTupleOfStates) (defScope sIsTupleOfStates) .none kV3 dc3 pm3 an3 cd3 ct3), sl3⟩) (c3 : PySem.W.codeIn K cd3 "is_tuple_of_states" = true) (k3 : PySem.W.keepIn K (.ref f3) = true)
    {od4 an4 : Option Addr} {sl4 : Array (Option Value)} {oc4 kV4 dc4 pm4 cd4 ct4 : Value} (a4 : PySem.W.nsIn K mainGlobals "is_letter" = some (some (.ref f4))) (l4 : K.lookup f4 = some ⟨oc4, od4, .func (PySem.W.fnOf "is_letter" "is_letter" (defArgs sIsLetter) (defBody sIsLetter) (defScope sIsLetter) .none kV4 dc4 pm4 an4 cd4 ct4), sl4⟩) (c4 : PySem.W.codeIn K cd4 "is_letter" = true) (k4 : PySem.W.keepIn K (.ref f4) = true)
    {od5 an5 : Option Addr} {sl5 : Array (Option Value)} {oc5 kV5 dc5 pm5 cd5 ct5 : Value} (a5 : PySem.W.nsIn K mainGlobals "is_sign" = some (some (.ref f5))) (l5 : K.lookup f5 = some ⟨oc5, od5, .func (PySem.W.fnOf "is_sign" "is_sign" (defArgs sIsSign) (defBody sIsSign) (defScope sIsSign) .none kV5 dc5 pm5 an5 cd5 ct5), sl5⟩) (c5 : PySem.W.codeIn K cd5 "is_sign" = true) (k5 : PySem.W.keepIn K (.ref f5) = true)
    {od6 an6 : Option Addr} {sl6 : Array (Option Value)} {oc6 kV6 dc6 pm6 cd6 ct6 : Value} (a6 : PySem.W.nsIn K mainGlobals "is_pair_of_signs" = some (some (.ref f6))) (l6 : K.lookup f6 = some ⟨oc6, od6, .func (PySem.W.fnOf "is_pair_of_signs" "is_pair_of_signs" (defArgs sIsPairOfSigns) (defBody sIsPairOfSigns) (defScope sIsPairOfSigns) .none kV6 dc6 pm6 an6 cd6 ct6), sl6⟩) (c6 : PySem.W.codeIn K cd6 "is_pair_of_signs" = true) (k6 : PySem.W.keepIn K (.ref f6) = true)
    {od7 an7 : Option Addr} {sl7 : Array (Option Value)} {oc7 kV7 dc7 pm7 cd7 ct7 : Value} (a7 : PySem.W.nsIn K mainGlobals "is_step" = some (some (.ref f7))) (l7 : K.lookup f7 = some ⟨oc7, od7, .func (PySem.W.fnOf "is_step" "is_step" (defArgs sIsStep) (defBody sIsStep) (defScope sIsStep) .none kV7 dc7 pm7 an7 cd7 ct7), sl7⟩) (c7 : PySem.W.codeIn K cd7 "is_step" = true) (k7 : PySem.W.keepIn K (.ref f7) = true)
    {od8 an8 : Option Addr} {sl8 : Array (Option Value)} {oc8 kV8 dc8 pm8 cd8 ct8 : Value} (a8 : PySem.W.nsIn K mainGlobals "is_row_of_steps" = some (some (.ref f8))) (l8 : K.lookup f8 = some ⟨oc8, od8, .func (PySem.W.fnOf "is_row_of_steps" "is_row_of_steps" (defArgs sIsRowOfSteps) (defBody sIsRowOfSteps) (defScope sIsRowOfSteps) .none kV8 dc8 pm8 an8 cd8 ct8), sl8⟩) (c8 : PySem.W.codeIn K cd8 "is_row_of_steps" = true) (k8 : PySem.W.keepIn K (.ref f8) = true)
    {od9 an9 : Option Addr} {sl9 : Array (Option Value)} {oc9 kV9 dc9 pm9 cd9 ct9 : Value} (a9 : PySem.W.nsIn K mainGlobals "is_tuple_of_rows" = some (some (.ref f9))) (l9 : K.lookup f9 = some ⟨oc9, od9, .func (PySem.W.fnOf "is_tuple_of_rows" "is_tuple_of_rows" (defArgs sIsTupleOfRows) (defBody sIsTupleOfRows) (defScope sIsTupleOfRows) .none kV9 dc9 pm9 an9 cd9 ct9), sl9⟩) (c9 : PySem.W.codeIn K cd9 "is_tuple_of_rows" = true) (k9 : PySem.W.keepIn K (.ref f9) = true)
    {od10 an10 : Option Addr} {sl10 : Array (Option Value)} {oc10 kV10 dc10 pm10 cd10 ct10 : Value} (a10 : PySem.W.nsIn K mainGlobals "side_of" = some (some (.ref f10))) (l10 : K.lookup f10 = some ⟨oc10, od10, .func (PySem.W.fnOf "side_of" "side_of" (defArgs sSideOf) (defBody sSideOf) (defScope sSideOf) .none kV10 dc10 pm10 an10 cd10 ct10), sl10⟩) (c10 : PySem.W.codeIn K cd10 "side_of" = true) (k10 : PySem.W.keepIn K (.ref f10) = true)
    {od11 an11 : Option Addr} {sl11 : Array (Option Value)} {oc11 kV11 dc11 pm11 cd11 ct11 : Value} (a11 : PySem.W.nsIn K mainGlobals "steps_at" = some (some (.ref f11))) (l11 : K.lookup f11 = some ⟨oc11, od11, .func (PySem.W.fnOf "steps_at" "steps_at" (defArgs sStepsAt) (defBody sStepsAt) (defScope sStepsAt) .none kV11 dc11 pm11 an11 cd11 ct11), sl11⟩) (c11 : PySem.W.codeIn K cd11 "steps_at" = true) (k11 : PySem.W.keepIn K (.ref f11) = true)
    {od12 an12 : Option Addr} {sl12 : Array (Option Value)} {oc12 kV12 dc12 pm12 cd12 ct12 : Value} (a12 : PySem.W.nsIn K mainGlobals "explored" = some (some (.ref f12))) (l12 : K.lookup f12 = some ⟨oc12, od12, .func (PySem.W.fnOf "explored" "explored" (defArgs sExplored) (defBody sExplored) (defScope sExplored) .none kV12 dc12 pm12 an12 cd12 ct12), sl12⟩) (c12 : PySem.W.codeIn K cd12 "explored" = true) (k12 : PySem.W.keepIn K (.ref f12) = true)
    {od13 an13 : Option Addr} {sl13 : Array (Option Value)} {oc13 kV13 dc13 pm13 ct13 : Value} (a13 : PySem.W.nsIn K mainGlobals "steps_in_rows" = some (some (.ref f13))) (l13 : K.lookup f13 = some ⟨oc13, od13, .func (PySem.W.fnOf "steps_in_rows" "steps_in_rows" (defArgs sStepsInRows) (defBody sStepsInRows) (defScope sStepsInRows) .none kV13 dc13 pm13 an13 (.ref cS) ct13), sl13⟩) (c13 : PySem.W.codeIn K (.ref cS) "steps_in_rows" = true) (k13 : PySem.W.keepIn K (.ref f13) = true)
    {od14 an14 : Option Addr} {sl14 : Array (Option Value)} {oc14 kV14 dc14 pm14 cd14 ct14 : Value} (a14 : PySem.W.nsIn K mainGlobals "reached" = some (some (.ref f14))) (l14 : K.lookup f14 = some ⟨oc14, od14, .func (PySem.W.fnOf "reached" "reached" (defArgs sReached) (defBody sReached) (defScope sReached) .none kV14 dc14 pm14 an14 cd14 ct14), sl14⟩) (c14 : PySem.W.codeIn K cd14 "reached" = true) (k14 : PySem.W.keepIn K (.ref f14) = true)
    {od15 an15 : Option Addr} {sl15 : Array (Option Value)} {oc15 kV15 dc15 pm15 cd15 ct15 : Value} (a15 : PySem.W.nsIn K mainGlobals "turned_about" = some (some (.ref f15))) (l15 : K.lookup f15 = some ⟨oc15, od15, .func (PySem.W.fnOf "turned_about" "turned_about" (defArgs sTurnedAbout) (defBody sTurnedAbout) (defScope sTurnedAbout) .none kV15 dc15 pm15 an15 cd15 ct15), sl15⟩) (c15 : PySem.W.codeIn K cd15 "turned_about" = true) (k15 : PySem.W.keepIn K (.ref f15) = true)
    {od16 an16 : Option Addr} {sl16 : Array (Option Value)} {oc16 kV16 dc16 pm16 cd16 ct16 : Value} (a16 : PySem.W.nsIn K mainGlobals "useful_places" = some (some (.ref f16))) (l16 : K.lookup f16 = some ⟨oc16, od16, .func (PySem.W.fnOf "useful_places" "useful_places" (defArgs sUsefulPlaces) (defBody sUsefulPlaces) (defScope sUsefulPlaces) .none kV16 dc16 pm16 an16 cd16 ct16), sl16⟩) (c16 : PySem.W.codeIn K cd16 "useful_places" = true) (k16 : PySem.W.keepIn K (.ref f16) = true)
    {od17 an17 : Option Addr} {sl17 : Array (Option Value)} {oc17 kV17 dc17 pm17 cd17 ct17 : Value} (a17 : PySem.W.nsIn K mainGlobals "has_ring" = some (some (.ref f17))) (l17 : K.lookup f17 = some ⟨oc17, od17, .func (PySem.W.fnOf "has_ring" "has_ring" (defArgs sHasRing) (defBody sHasRing) (defScope sHasRing) .none kV17 dc17 pm17 an17 cd17 ct17), sl17⟩) (c17 : PySem.W.codeIn K cd17 "has_ring" = true) (k17 : PySem.W.keepIn K (.ref f17) = true)
    {od18 an18 : Option Addr} {sl18 : Array (Option Value)} {oc18 kV18 dc18 pm18 cd18 ct18 : Value} (a18 : PySem.W.nsIn K mainGlobals "places_of" = some (some (.ref f18))) (l18 : K.lookup f18 = some ⟨oc18, od18, .func (PySem.W.fnOf "places_of" "places_of" (defArgs sPlacesOf) (defBody sPlacesOf) (defScope sPlacesOf) .none kV18 dc18 pm18 an18 cd18 ct18), sl18⟩) (c18 : PySem.W.codeIn K cd18 "places_of" = true) (k18 : PySem.W.keepIn K (.ref f18) = true)
    {od19 an19 : Option Addr} {sl19 : Array (Option Value)} {oc19 kV19 dc19 pm19 cd19 ct19 : Value} (a19 : PySem.W.nsIn K mainGlobals "has_bound" = some (some (.ref f19))) (l19 : K.lookup f19 = some ⟨oc19, od19, .func (PySem.W.fnOf "has_bound" "has_bound" (defArgs sHasBound) (defBody sHasBound) (defScope sHasBound) .none kV19 dc19 pm19 an19 cd19 ct19), sl19⟩) (c19 : PySem.W.codeIn K cd19 "has_bound" = true) (k19 : PySem.W.keepIn K (.ref f19) = true)
    {od20 an20 : Option Addr} {sl20 : Array (Option Value)} {oc20 kV20 dc20 pm20 cd20 ct20 : Value} (a20 : PySem.W.nsIn K mainGlobals "row_of" = some (some (.ref f20))) (l20 : K.lookup f20 = some ⟨oc20, od20, .func (PySem.W.fnOf "row_of" "row_of" (defArgs sRowOf) (defBody sRowOf) (defScope sRowOf) .none kV20 dc20 pm20 an20 cd20 ct20), sl20⟩) (c20 : PySem.W.codeIn K cd20 "row_of" = true) (k20 : PySem.W.keepIn K (.ref f20) = true)
    {od21 an21 : Option Addr} {sl21 : Array (Option Value)} {oc21 kV21 dc21 pm21 cd21 ct21 : Value} (a21 : PySem.W.findIn K (.ref CStepper) "__init__" = some (some (.ref f21))) (i21 : PySem.W.isFn K (.ref f21) = true) (l21 : K.lookup f21 = some ⟨oc21, od21, .func (PySem.W.fnOf "__init__" "Stepper.__init__" (defArgs sStepperInit) (defBody sStepperInit) (defScope sStepperInit) .none kV21 dc21 pm21 an21 cd21 ct21), sl21⟩) (c21 : PySem.W.codeIn K cd21 "Stepper.__init__" = true) (k21 : PySem.W.keepIn K (.ref f21) = true)
    {od22 an22 : Option Addr} {sl22 : Array (Option Value)} {oc22 kV22 dc22 pm22 cd22 ct22 : Value} (a22 : PySem.W.findIn K (.ref CStepper) "tells" = some (some (.ref f22))) (i22 : PySem.W.isFn K (.ref f22) = true) (l22 : K.lookup f22 = some ⟨oc22, od22, .func (PySem.W.fnOf "tells" "Stepper.tells" (defArgs sStepperTells) (defBody sStepperTells) (defScope sStepperTells) .none kV22 dc22 pm22 an22 cd22 ct22), sl22⟩) (c22 : PySem.W.codeIn K cd22 "Stepper.tells" = true) (k22 : PySem.W.keepIn K (.ref f22) = true)
    {od23 an23 : Option Addr} {sl23 : Array (Option Value)} {oc23 kV23 dc23 pm23 cd23 ct23 : Value} (a23 : PySem.W.findIn K (.ref CStepper) "__iter__" = some (some (.ref f23))) (i23 : PySem.W.isFn K (.ref f23) = true) (l23 : K.lookup f23 = some ⟨oc23, od23, .func (PySem.W.fnOf "__iter__" "Stepper.__iter__" (defArgs sStepperIter) (defBody sStepperIter) (defScope sStepperIter) .none kV23 dc23 pm23 an23 cd23 ct23), sl23⟩) (c23 : PySem.W.codeIn K cd23 "Stepper.__iter__" = true) (k23 : PySem.W.keepIn K (.ref f23) = true)
    {od24 an24 : Option Addr} {sl24 : Array (Option Value)} {oc24 kV24 dc24 pm24 cd24 ct24 : Value} (a24 : PySem.W.nsIn K mainGlobals "_law_deck" = some (some (.ref f24))) (l24 : K.lookup f24 = some ⟨oc24, od24, .func (PySem.W.fnOf "_law_deck" "_law_deck" (defArgs sLDeck) (defBody sLDeck) (defScope sLDeck) .none kV24 dc24 pm24 an24 cd24 ct24), sl24⟩) (c24 : PySem.W.codeIn K cd24 "_law_deck" = true) (k24 : PySem.W.keepIn K (.ref f24) = true)
    {od25 an25 : Option Addr} {sl25 : Array (Option Value)} {oc25 kV25 dc25 pm25 cd25 ct25 : Value} (a25 : PySem.W.nsIn K mainGlobals "_law_draw" = some (some (.ref f25))) (l25 : K.lookup f25 = some ⟨oc25, od25, .func (PySem.W.fnOf "_law_draw" "_law_draw" (defArgs sLDraw) (defBody sLDraw) (defScope sLDraw) .none kV25 dc25 pm25 an25 cd25 ct25), sl25⟩) (c25 : PySem.W.codeIn K cd25 "_law_draw" = true) (k25 : PySem.W.keepIn K (.ref f25) = true)
    {od26 an26 : Option Addr} {sl26 : Array (Option Value)} {oc26 kV26 dc26 pm26 cd26 ct26 : Value} (a26 : PySem.W.nsIn K mainGlobals "_law_pick" = some (some (.ref f26))) (l26 : K.lookup f26 = some ⟨oc26, od26, .func (PySem.W.fnOf "_law_pick" "_law_pick" (defArgs sLPick) (defBody sLPick) (defScope sLPick) .none kV26 dc26 pm26 an26 cd26 ct26), sl26⟩) (c26 : PySem.W.codeIn K cd26 "_law_pick" = true) (k26 : PySem.W.keepIn K (.ref f26) = true)
    {od27 an27 : Option Addr} {sl27 : Array (Option Value)} {oc27 kV27 dc27 pm27 cd27 ct27 : Value} (a27 : PySem.W.nsIn K mainGlobals "_law_sheet" = some (some (.ref f27))) (l27 : K.lookup f27 = some ⟨oc27, od27, .func (PySem.W.fnOf "_law_sheet" "_law_sheet" (defArgs sLSheet) (defBody sLSheet) (defScope sLSheet) .none kV27 dc27 pm27 an27 cd27 ct27), sl27⟩) (c27 : PySem.W.codeIn K cd27 "_law_sheet" = true) (k27 : PySem.W.keepIn K (.ref f27) = true)
    {od28 an28 : Option Addr} {sl28 : Array (Option Value)} {oc28 kV28 dc28 pm28 cd28 ct28 : Value} (a28 : PySem.W.nsIn K mainGlobals "_law_beside" = some (some (.ref f28))) (l28 : K.lookup f28 = some ⟨oc28, od28, .func (PySem.W.fnOf "_law_beside" "_law_beside" (defArgs sLBeside) (defBody sLBeside) (defScope sLBeside) .none kV28 dc28 pm28 an28 cd28 ct28), sl28⟩) (c28 : PySem.W.codeIn K cd28 "_law_beside" = true) (k28 : PySem.W.keepIn K (.ref f28) = true)
    {od29 an29 : Option Addr} {sl29 : Array (Option Value)} {oc29 kV29 dc29 pm29 cd29 ct29 : Value} (a29 : PySem.W.nsIn K mainGlobals "_law_is_read" = some (some (.ref f29))) (l29 : K.lookup f29 = some ⟨oc29, od29, .func (PySem.W.fnOf "_law_is_read" "_law_is_read" (defArgs sLIsRead) (defBody sLIsRead) (defScope sLIsRead) .none kV29 dc29 pm29 an29 cd29 ct29), sl29⟩) (c29 : PySem.W.codeIn K cd29 "_law_is_read" = true) (k29 : PySem.W.keepIn K (.ref f29) = true)
    {od30 an30 : Option Addr} {sl30 : Array (Option Value)} {oc30 kV30 dc30 pm30 cd30 ct30 : Value} (a30 : PySem.W.nsIn K mainGlobals "_law_texts" = some (some (.ref f30))) (l30 : K.lookup f30 = some ⟨oc30, od30, .func (PySem.W.fnOf "_law_texts" "_law_texts" (defArgs sLTexts) (defBody sLTexts) (defScope sLTexts) .none kV30 dc30 pm30 an30 cd30 ct30), sl30⟩) (c30 : PySem.W.codeIn K cd30 "_law_texts" = true) (k30 : PySem.W.keepIn K (.ref f30) = true)
    {od31 an31 : Option Addr} {sl31 : Array (Option Value)} {oc31 kV31 dc31 pm31 cd31 ct31 : Value} (a31 : PySem.W.nsIn K mainGlobals "_law_right" = some (some (.ref f31))) (l31 : K.lookup f31 = some ⟨oc31, od31, .func (PySem.W.fnOf "_law_right" "_law_right" (defArgs sLRight) (defBody sLRight) (defScope sLRight) .none kV31 dc31 pm31 an31 cd31 ct31), sl31⟩) (c31 : PySem.W.codeIn K cd31 "_law_right" = true) (k31 : PySem.W.keepIn K (.ref f31) = true)
    {od32 an32 : Option Addr} {sl32 : Array (Option Value)} {oc32 kV32 dc32 pm32 cd32 ct32 : Value} (a32 : PySem.W.nsIn K mainGlobals "law" = some (some (.ref f32))) (l32 : K.lookup f32 = some ⟨oc32, od32, .func (PySem.W.fnOf "law" "law" (defArgs sLaw) (defBody sLaw) (defScope sLaw) .none kV32 dc32 pm32 an32 cd32 ct32), sl32⟩) (c32 : PySem.W.codeIn K cd32 "law" = true) (k32 : PySem.W.keepIn K (.ref f32) = true)
    (zBOTH_SIDES : PySem.W.nsIn K mainGlobals "BOTH_SIDES" = some (some (.int 0 tBOTH_SIDES)))
    (zLEFT_SIDE : PySem.W.nsIn K mainGlobals "LEFT_SIDE" = some (some (.int 1 tLEFT_SIDE)))
    (zRIGHT_SIDE : PySem.W.nsIn K mainGlobals "RIGHT_SIDE" = some (some (.int 2 tRIGHT_SIDE)))
    (pg : PySem.W.plainGet K CStepper Str.empty = true)
    (hd : PySem.W.hasDictIn K CStepper = true)
    (po : PySem.W.plainOver K CStepper = true)
    (sa : PySem.W.findIn K (.ref CStepper) "__setattr__" = some (some (.builtin "object.__setattr__")))
    (mk : PySem.W.makesIn K CStepper = true)
    (kc : PySem.W.keepIn K (.ref CStepper) = true)
    (nR : PySem.W.findIn K (.ref CStepper) "rows" = some none)
    (nE : PySem.W.findIn K (.ref CStepper) "ends" = some none)
    (nS : PySem.W.findIn K (.ref CStepper) "steps" = some none)
    (nT : PySem.W.findIn K (.ref CStepper) "table" = some none)
    (zST : PySem.W.nsIn K mainGlobals "START" = some (some (.ref bSt)))
    (lST : K.lookup bSt = some ⟨.type "tuple", dST, .seq #[.int 0 tS1, .int 0 tS2] nST, slST⟩)
    (lC : K.lookup cS = some oC)
    (z_all : PySem.W.nsIn K mainGlobals "all" = some none)
    (z_isinstance : PySem.W.nsIn K mainGlobals "isinstance" = some none)
    (z_int : PySem.W.nsIn K mainGlobals "int" = some none)
    (z_bool : PySem.W.nsIn K mainGlobals "bool" = some none)
    (z_str : PySem.W.nsIn K mainGlobals "str" = some none)
    (z_tuple : PySem.W.nsIn K mainGlobals "tuple" = some none)
    (z_zip : PySem.W.nsIn K mainGlobals "zip" = some none)
    (z_len : PySem.W.nsIn K mainGlobals "len" = some none)
    (z_range : PySem.W.nsIn K mainGlobals "range" = some none)
    (z_list : PySem.W.nsIn K mainGlobals "list" = some none)
    (z_repr : PySem.W.nsIn K mainGlobals "repr" = some none)
    (z_sorted : PySem.W.nsIn K mainGlobals "sorted" = some none)
    (z_enumerate : PySem.W.nsIn K mainGlobals "enumerate" = some none)
    (z_max : PySem.W.nsIn K mainGlobals "max" = some none)
    (z_sum : PySem.W.nsIn K mainGlobals "sum" = some none)
    (z_iter : PySem.W.nsIn K mainGlobals "iter" = some none)
    (zLETTERS : PySem.W.nsIn K mainGlobals "LETTERS" = some (some (.str "abcdefghijklmnopqrstuvwxyz" tLETTERS)))
    (zNO_LETTER : PySem.W.nsIn K mainGlobals "NO_LETTER" = some (some (.str "-" tNO_LETTER)))
    (hPC : at11 oC = some (.ref Pt)) (hPt : Pt ∈ ts) (hcd : PySem.W.codeHdIn K cS Pt = true) (nPt : K.lookup Pt = none) (hts : ∀ t ∈ ts, t = Pt) :
    ∃ (fd : FuncData) (sp : Sp), (∀ t ∈ ts, K.lookup t = none ∧ ∃ c, PySem.W.codeHdIn K c t = true) ∧ (∀ (s : Shared) (v : Value), BindsTo s fd ⟨[v], []⟩ [("_law_script", v)]) ∧
      (∀ (H : Hp) (a : Addr) (ns : List Int), ns.length ≤ 63 → (∀ t ∈ ts, H t = some (.tbl #[])) → SqL K H a (ns.map V.int) → sp [.ref a] H (fun v _ => v = .bl true) fun _ _ _ => False) ∧
      ∀ base : Heap, K.In base → base.Ns mainGlobals mg → (∀ t ∈ ts, base.BuiltinsAt mg t ∧ mainGlobals ≠ t) → FnG l.prog w K mg base 11 fa fd ["_law_script"] sp := by
  have e := hfa.symm.trans (PySem.W.mg_of X G a32)
  cases e
  have F0 := fun_mk (st := sIsText) l0 c0 k0
  have b0 := F0.binds (ps := ["thing"]) fun _ _ _ _ _ _ us hl => match us, hl with | [_], _ => rfl
  have F1 := fun_mk (st := sIsInteger) l1 c1 k1
  have b1 := F1.binds (ps := ["thing"]) fun _ _ _ _ _ _ us hl => match us, hl with | [_], _ => rfl
  have F2 := fun_mk (st := sIsState) l2 c2 k2
  have b2 := F2.binds (ps := ["thing", "size"]) fun _ _ _ _ _ _ us hl => match us, hl with | [_, _], _ => rfl
  have F3 := fun_mk (st := sIsTupleOfStates) l3 c3 k3
  have b3 := F3.binds (ps := ["thing", "size"]) fun _ _ _ _ _ _ us hl => match us, hl with | [_, _], _ => rfl
  have F4 := fun_mk (st := sIsLetter) l4 c4 k4
  have b4 := F4.binds (ps := ["thing"]) fun _ _ _ _ _ _ us hl => match us, hl with | [_], _ => rfl
  have F5 := fun_mk (st := sIsSign) l5 c5 k5
  have b5 := F5.binds (ps := ["thing"]) fun _ _ _ _ _ _ us hl => match us, hl with | [_], _ => rfl
  have F6 := fun_mk (st := sIsPairOfSigns) l6 c6 k6
  have b6 := F6.binds (ps := ["thing"]) fun _ _ _ _ _ _ us hl => match us, hl with | [_], _ => rfl
  have F7 := fun_mk (st := sIsStep) l7 c7 k7
  have b7 := F7.binds (ps := ["thing", "size"]) fun _ _ _ _ _ _ us hl => match us, hl with | [_, _], _ => rfl
  have F8 := fun_mk (st := sIsRowOfSteps) l8 c8 k8
  have b8 := F8.binds (ps := ["thing", "size"]) fun _ _ _ _ _ _ us hl => match us, hl with | [_, _], _ => rfl
  have F9 := fun_mk (st := sIsTupleOfRows) l9 c9 k9
  have b9 := F9.binds (ps := ["thing"]) fun _ _ _ _ _ _ us hl => match us, hl with | [_], _ => rfl
  have F10 := fun_mk (st := sSideOf) l10 c10 k10
  have b10 := F10.binds (ps := ["left", "right"]) fun _ _ _ _ _ _ us hl => match us, hl with | [_, _], _ => rfl
  have F11 := fun_mk (st := sStepsAt) l11 c11 k11
  have b11 := F11.binds (ps := ["row", "side"]) fun _ _ _ _ _ _ us hl => match us, hl with | [_, _], _ => rfl
  have F12 := fun_mk (st := sExplored) l12 c12 k12
  have b12 := F12.binds (ps := ["starts", "steps_from"]) fun _ _ _ _ _ _ us hl => match us, hl with | [_, _], _ => rfl
  have F13 := fun_mk (st := sStepsInRows) l13 c13 k13
  have b13 := F13.binds (ps := ["rows"]) fun _ _ _ _ _ _ us hl => match us, hl with | [_], _ => rfl
  have F14 := fun_mk (st := sReached) l14 c14 k14
  have b14 := F14.binds (ps := ["starts", "following"]) fun _ _ _ _ _ _ us hl => match us, hl with | [_, _], _ => rfl
  have F15 := fun_mk (st := sTurnedAbout) l15 c15 k15
  have b15 := F15.binds (ps := ["following"]) fun _ _ _ _ _ _ us hl => match us, hl with | [_], _ => rfl
  have F16 := fun_mk (st := sUsefulPlaces) l16 c16 k16
  have b16 := F16.binds (ps := ["starts", "following", "ends"]) fun _ _ _ _ _ _ us hl => match us, hl with | [_, _, _], _ => rfl
  have F17 := fun_mk (st := sHasRing) l17 c17 k17
  have b17 := F17.binds (ps := ["following"]) fun _ _ _ _ _ _ us hl => match us, hl with | [_], _ => rfl
  have F18 := fun_mk (st := sPlacesOf) l18 c18 k18
  have b18 := F18.binds (ps := ["ends", "steps"]) fun _ _ _ _ _ _ us hl => match us, hl with | [_, _], _ => rfl
  have F19 := fun_mk (st := sHasBound) l19 c19 k19
  have b19 := F19.binds (ps := ["rows", "ends"]) fun _ _ _ _ _ _ us hl => match us, hl with | [_, _], _ => rfl
  have F20 := fun_mk (st := sRowOf) l20 c20 k20
  have b20 := F20.binds (ps := ["left", "right"]) fun _ _ _ _ _ _ us hl => match us, hl with | [_, _], _ => rfl
  have F21 := fun_mk (st := sStepperInit) l21 c21 k21
  have b21 := F21.binds (ps := ["self", "rows", "ends"]) fun _ _ _ _ _ _ us hl => match us, hl with | [_, _, _], _ => rfl
  have F22 := fun_mk (st := sStepperTells) l22 c22 k22
  have b22 := F22.binds (ps := ["self", "left", "right"]) fun _ _ _ _ _ _ us hl => match us, hl with | [_, _, _], _ => rfl
  have F23 := fun_mk (st := sStepperIter) l23 c23 k23
  have b23 := F23.binds (ps := ["self"]) fun _ _ _ _ _ _ us hl => match us, hl with | [_], _ => rfl
  have F24 := fun_mk (st := sLDeck) l24 c24 k24
  have b24 := F24.binds (ps := ["_law_script"]) fun _ _ _ _ _ _ us hl => match us, hl with | [_], _ => rfl
  have F25 := fun_mk (st := sLDraw) l25 c25 k25
  have b25 := F25.binds (ps := ["_law_deck_here", "_law_below"]) fun _ _ _ _ _ _ us hl => match us, hl with | [_, _], _ => rfl
  have F26 := fun_mk (st := sLPick) l26 c26 k26
  have b26 := F26.binds (ps := ["_law_deck_here", "_law_some"]) fun _ _ _ _ _ _ us hl => match us, hl with | [_, _], _ => rfl
  have F27 := fun_mk (st := sLSheet) l27 c27 k27
  have b27 := F27.binds (ps := ["_law_deck_here", "_law_most"]) fun _ _ _ _ _ _ us hl => match us, hl with | [_, _], _ => rfl
  have F28 := fun_mk (st := sLBeside) l28 c28 k28
  have b28 := F28.binds (ps := ["_law_x", "_law_y"]) fun _ _ _ _ _ _ us hl => match us, hl with | [_, _], _ => rfl
  have F29 := fun_mk (st := sLIsRead) l29 c29 k29
  have b29 := F29.binds (ps := ["_law_sheet_here", "_law_x", "_law_y"]) fun _ _ _ _ _ _ us hl => match us, hl with | [_, _, _], _ => rfl
  have F30 := fun_mk (st := sLTexts) l30 c30 k30
  have b30 := F30.binds (ps := ["_law_most"]) fun _ _ _ _ _ _ us hl => match us, hl with | [_], _ => rfl
  have F31 := fun_mk (st := sLRight) l31 c31 k31
  have b31 := F31.binds (ps := ["_law_sheet_here", "_law_most"]) fun _ _ _ _ _ _ us hl => match us, hl with | [_, _], _ => rfl
  have F32 := fun_mk (st := sLaw) l32 c32 k32
  have n_all := PySem.W.mg_none_of X G z_all
  have n_isinstance := PySem.W.mg_none_of X G z_isinstance
  have n_int := PySem.W.mg_none_of X G z_int
  have n_bool := PySem.W.mg_none_of X G z_bool
  have n_str := PySem.W.mg_none_of X G z_str
  have n_tuple := PySem.W.mg_none_of X G z_tuple
  have n_zip := PySem.W.mg_none_of X G z_zip
  have n_len := PySem.W.mg_none_of X G z_len
  have n_range := PySem.W.mg_none_of X G z_range
  have n_list := PySem.W.mg_none_of X G z_list
  have n_repr := PySem.W.mg_none_of X G z_repr
  have n_sorted := PySem.W.mg_none_of X G z_sorted
  have n_enumerate := PySem.W.mg_none_of X G z_enumerate
  have n_max := PySem.W.mg_none_of X G z_max
  have n_sum := PySem.W.mg_none_of X G z_sum
  have n_iter := PySem.W.mg_none_of X G z_iter
  have m_LETTERS : StrAt mg "LETTERS" "abcdefghijklmnopqrstuvwxyz" := ⟨tLETTERS, PySem.W.mg_of X G zLETTERS⟩
  have m_NO_LETTER : StrAt mg "NO_LETTER" "-" := ⟨tNO_LETTER, PySem.W.mg_of X G zNO_LETTER⟩
  have g_Stepper := PySem.W.mg_of X G aStepper
  have m_BOTH_SIDES := PySem.W.mg_of X G zBOTH_SIDES
  have m_LEFT_SIDE := PySem.W.mg_of X G zLEFT_SIDE
  have m_RIGHT_SIDE := PySem.W.mg_of X G zRIGHT_SIDE
  have S : STxt K CStepper := ⟨⟨pg, hd, po, sa⟩, nR, nE, nS, nT⟩
  have m_START := PySem.W.mg_of X G zST
  have hST : ∀ H : Hp, SqT K H bSt [.int 0, .int 0] := fun H => .inr ⟨_, #[.int 0 tS1, .int 0 tS2], _, lST, rfl, rfl, (show 2 ≤ sizeLine by decide), .cons ⟨_, rfl⟩ (.cons ⟨_, rfl⟩ .nil)⟩
  refine ⟨PySem.W.fnOf "law" "law" (defArgs sLaw) (defBody sLaw) (defScope sLaw) .none kV32 dc32 pm32 an32 cd32 ct32, spLaw K [(Pt, lamQ)] bSt, fun t ht => by rw [hts t ht]; exact ⟨nPt, cS, hcd⟩, fun s v => .of_eq rfl, fun H a ns hl hH hS => ⟨a, ns, rfl, hS, hl, ⟨fun p hp => by rw [List.mem_singleton.mp hp]; exact LamX.TabS.nil (hH Pt hPt)⟩, fun _ => rfl⟩, fun base kin _ tb => ?_⟩
  have oIsText := ok_IsText (P := l.prog) (w := w) (base := base) (mg := mg) (k := 0)  F0 n_all n_isinstance n_str m_LETTERS
  have oIsInteger := ok_IsInteger (P := l.prog) (w := w) (base := base) (mg := mg) (k := 0)  F1 n_isinstance n_int n_bool
  have oIsState := ok_IsState (P := l.prog) (w := w) (base := base) (mg := mg) (k := 1)  F2 (⟨f1, _, FnOk.mono oIsInteger (by decide), PySem.W.mg_of X G a1, k1, b1⟩ : EL.Cal l.prog w K mg base 1 "is_integer" ["thing"] (spLook K isIntD))
  have oIsTupleOfStates := ok_IsTupleOfStates (P := l.prog) (w := w) (base := base) (mg := mg) (k := 2)  F3 n_isinstance n_tuple n_all n_zip (⟨f2, _, FnOk.mono oIsState (by decide), PySem.W.mg_of X G a2, k2, b2⟩ : EL.Cal l.prog w K mg base 2 "is_state" ["thing", "size"] (spLookN K stateD))
  have oIsLetter := ok_IsLetter (P := l.prog) (w := w) (base := base) (mg := mg) (k := 1)  F4 n_len (⟨f0, _, FnOk.mono oIsText (by decide), PySem.W.mg_of X G a0, k0, b0⟩ : EL.Cal l.prog w K mg base 1 "is_text" ["thing"] (spLook K isTextD))
  have oIsSign := ok_IsSign (P := l.prog) (w := w) (base := base) (mg := mg) (k := 2)  F5 m_NO_LETTER (⟨f4, _, FnOk.mono oIsLetter (by decide), PySem.W.mg_of X G a4, k4, b4⟩ : EL.Cal l.prog w K mg base 2 "is_letter" ["thing"] (spLook K isLetterD))
  have oIsPairOfSigns := ok_IsPairOfSigns (P := l.prog) (w := w) (base := base) (mg := mg) (k := 3)  F6 n_isinstance n_len n_tuple (⟨f5, _, FnOk.mono oIsSign (by decide), PySem.W.mg_of X G a5, k5, b5⟩ : EL.Cal l.prog w K mg base 3 "is_sign" ["thing"] (spLook K isSignD))
  have oIsStep := ok_IsStep (P := l.prog) (w := w) (base := base) (mg := mg) (k := 4)  F7 n_isinstance n_tuple n_len m_NO_LETTER (⟨f6, _, FnOk.mono oIsPairOfSigns (by decide), PySem.W.mg_of X G a6, k6, b6⟩ : EL.Cal l.prog w K mg base 4 "is_pair_of_signs" ["thing"] (spLook K isPairD)) (⟨f2, _, FnOk.mono oIsState (by decide), PySem.W.mg_of X G a2, k2, b2⟩ : EL.Cal l.prog w K mg base 4 "is_state" ["thing", "size"] (spLookN K stateD))
  have oIsRowOfSteps := ok_IsRowOfSteps (P := l.prog) (w := w) (base := base) (mg := mg) (k := 5)  F8 n_isinstance n_tuple n_all n_zip (⟨f7, _, FnOk.mono oIsStep (by decide), PySem.W.mg_of X G a7, k7, b7⟩ : EL.Cal l.prog w K mg base 5 "is_step" ["thing", "size"] (spLookN K stepD))
  have oIsTupleOfRows := ok_IsTupleOfRows (P := l.prog) (w := w) (base := base) (mg := mg) (k := 6)  F9 n_isinstance n_tuple n_all n_len (⟨f8, _, FnOk.mono oIsRowOfSteps (by decide), PySem.W.mg_of X G a8, k8, b8⟩ : EL.Cal l.prog w K mg base 6 "is_row_of_steps" ["thing", "size"] (spLookN K rowD))
  have oSideOf := ok_SideOf (P := l.prog) (w := w) (base := base) (mg := mg) (k := 0)  F10 m_NO_LETTER m_BOTH_SIDES m_LEFT_SIDE m_RIGHT_SIDE
  have oStepsAtT := ok_StepsAtT (P := l.prog) (w := w) (base := base) (mg := mg) (k := 1)  F11 m_BOTH_SIDES (⟨f10, _, FnOk.mono oSideOf (by decide), PySem.W.mg_of X G a10, k10, b10⟩ : EL.Cal l.prog w K mg base 1 "side_of" ["left", "right"] spSide)
  have oExplored := ok_Explored (P := l.prog) (w := w) (base := base) (mg := mg) (k := 3) (j := 3) (by decide) F12 n_list
  have oStepsInRows := ok_StepsInRows (P := l.prog) (w := w) (base := base) (mg := mg) (k := 4) (n := 2) (Pt := Pt) (funC_mk l13 c13) ⟨PySem.W.codeHd_of_K kin hcd, (tb Pt hPt).1, (tb Pt hPt).2⟩ m_START hST (⟨f12, _, oExplored, PySem.W.mg_of X G a12, k12, b12⟩ : EL.CalL l.prog w K mg base 4 "explored" ["starts", "steps_from"] 3 ["place"] (spExplored l.prog w K)) (⟨f11, _, FnOk.mono oStepsAtT (by decide), PySem.W.mg_of X G a11, k11, b11⟩ : EL.Cal l.prog w K mg base 2 "steps_at" ["row", "side"] (spStepsAtT K))
  have oReached := ok_ReachedP (P := l.prog) (w := w) (base := base) (mg := mg) (k := 0)  F14 n_list
  have oTurnedAbout := ok_TurnedP (P := l.prog) (w := w) (base := base) (mg := mg) (k := 0)  F15 
  have oUsefulPlaces := ok_UsefulP (P := l.prog) (w := w) (base := base) (mg := mg) (k := 1)  F16 (⟨f14, _, FnOk.mono oReached (by decide), PySem.W.mg_of X G a14, k14, b14⟩ : EL.Cal l.prog w K mg base 1 "reached" ["starts", "following"] (spReachedP l.prog w K)) (⟨f15, _, FnOk.mono oTurnedAbout (by decide), PySem.W.mg_of X G a15, k15, b15⟩ : EL.Cal l.prog w K mg base 1 "turned_about" ["following"] (spTurnedP l.prog w K))
  have oHasRing := ok_HasRingP (P := l.prog) (w := w) (base := base) (mg := mg) (k := 0)  F17 n_len
  have oPlacesOf := ok_PlacesOfP (P := l.prog) (w := w) (base := base) (mg := mg) (k := 0)  F18 
  have oHasBound := ok_HasBound (P := l.prog) (w := w) (base := base) (mg := mg) (k := 5)  F19 m_START hST m_BOTH_SIDES (⟨f13, _, FnOk.mono oStepsInRows (by decide), PySem.W.mg_of X G a13, k13, b13⟩ : EL.Cal l.prog w K mg base 5 "steps_in_rows" ["rows"] (spStepsInRows l.prog w K [(Pt, lamQ)] bSt)) (⟨f16, _, FnOk.mono oUsefulPlaces (by decide), PySem.W.mg_of X G a16, k16, b16⟩ : EL.Cal l.prog w K mg base 5 "useful_places" ["starts", "following", "ends"] (spUsefulP l.prog w K)) (⟨f18, _, FnOk.mono oPlacesOf (by decide), PySem.W.mg_of X G a18, k18, b18⟩ : EL.Cal l.prog w K mg base 5 "places_of" ["ends", "steps"] (spPlacesOfP l.prog w K)) (⟨f17, _, FnOk.mono oHasRing (by decide), PySem.W.mg_of X G a17, k17, b17⟩ : EL.Cal l.prog w K mg base 5 "has_ring" ["following"] (spHasRingP l.prog w K))
  have oRowOf := ok_RowOfP (P := l.prog) (w := w) (base := base) (mg := mg) (k := 0)  F20 n_len n_max n_tuple n_zip m_NO_LETTER
  have oInit := ok_StepperInit (P := l.prog) (w := w) (base := base) (mg := mg) (k := 7)  F21 S n_tuple n_len n_enumerate (⟨f9, _, FnOk.mono oIsTupleOfRows (by decide), PySem.W.mg_of X G a9, k9, b9⟩ : EL.Cal l.prog w K mg base 7 "is_tuple_of_rows" ["thing"] (spLook K rowsD)) (⟨f3, _, FnOk.mono oIsTupleOfStates (by decide), PySem.W.mg_of X G a3, k3, b3⟩ : EL.Cal l.prog w K mg base 7 "is_tuple_of_states" ["thing", "size"] (spLookN K statesD)) (⟨f19, _, FnOk.mono oHasBound (by decide), PySem.W.mg_of X G a19, k19, b19⟩ : EL.Cal l.prog w K mg base 7 "has_bound" ["rows", "ends"] (spHasBound K [(Pt, lamQ)] bSt))
  have oTells := ok_StepperTells (P := l.prog) (w := w) (base := base) (mg := mg) (k := 1)  F22 S (⟨f20, _, FnOk.mono oRowOf (by decide), PySem.W.mg_of X G a20, k20, b20⟩ : EL.Cal l.prog w K mg base 1 "row_of" ["left", "right"] spRowP)
  have oIter := ok_StepperIter (P := l.prog) (w := w) (base := base) (mg := mg) (k := 0)  F23 S n_iter
  have oLDeck := ok_deck (P := l.prog) (w := w) (base := base) (mg := mg) (k := 0)  F24 n_list n_int
  have oLDraw := ok_draw (P := l.prog) (w := w) (base := base) (mg := mg) (k := 0)  F25 n_int
  have oLPick := ok_pick (P := l.prog) (w := w) (base := base) (mg := mg) (k := 0)  F26 n_len (⟨f25, _, FnOk.mono oLDraw (by decide), PySem.W.mg_of X G a25, k25, b25⟩ : EL.Cal l.prog w K mg base 1 "_law_draw" ["_law_deck_here", "_law_below"] spDraw)
  have oLSheet := ok_LSheet (P := l.prog) (w := w) (base := base) (mg := mg) (k := 1)  F27 n_range n_tuple n_sorted (⟨f25, _, FnOk.mono oLDraw (by decide), PySem.W.mg_of X G a25, k25, b25⟩ : EL.Cal l.prog w K mg base 1 "_law_draw" ["_law_deck_here", "_law_below"] spDraw)
  have oLBeside := ok_LBeside (P := l.prog) (w := w) (base := base) (mg := mg) (k := 0)  F28 n_len n_max n_list n_zip
  have oLIsRead := ok_LIsRead (P := l.prog) (w := w) (base := base) (mg := mg) (k := 1)  F29 (⟨f28, _, FnOk.mono oLBeside (by decide), PySem.W.mg_of X G a28, k28, b28⟩ : EL.Cal l.prog w K mg base 1 "_law_beside" ["_law_x", "_law_y"] (spBeside K))
  have oLTexts := ok_LTexts (P := l.prog) (w := w) (base := base) (mg := mg) (k := 0)  F30 n_range n_sum
  have oLRight := ok_LRight (P := l.prog) (w := w) (base := base) (mg := mg) (k := 8) F31 n_repr n_enumerate n_len n_sorted S (⟨f21, _, ⟨mk, a21, i21, kc⟩, FnOk.mono oInit (by decide), g_Stepper, b21⟩ : KP.CalS l.prog w K mg base 8 CStepper [(Pt, lamQ)] bSt) (⟨f30, _, FnOk.mono oLTexts (by decide), PySem.W.mg_of X G a30, k30, b30⟩ : EL.Cal l.prog w K mg base 9 "_law_texts" ["_law_most"] (spTextsM K)) (⟨f29, _, FnOk.mono oLIsRead (by decide), PySem.W.mg_of X G a29, k29, b29⟩ : EL.Cal l.prog w K mg base 9 "_law_is_read" ["_law_sheet_here", "_law_x", "_law_y"] (spIsRead K)) (⟨f22, _, FnOk.mono oTells (by decide), ⟨a22, i22, k22⟩, b22⟩ : KP.CalM l.prog w K mg base 9 CStepper "tells" ["self", "left", "right"] (spTells K CStepper)) (EL.Fun.kwM2r F22 fun _ _ _ _ _ _ _ _ _ => rfl) (⟨f23, _, ⟨a23, i23⟩, itup oIter (by decide), b23⟩ : EL.CalI l.prog w K mg base 9 CStepper "steps")
  exact ok_Law (P := l.prog) (w := w) (base := base) (mg := mg) (k := 9) F32 n_range S (⟨f21, _, ⟨mk, a21, i21, kc⟩, FnOk.mono oInit (by decide), g_Stepper, b21⟩ : KP.CalS l.prog w K mg base 9 CStepper [(Pt, lamQ)] bSt) (⟨f22, _, FnOk.mono oTells (by decide), ⟨a22, i22, k22⟩, b22⟩ : KP.CalM l.prog w K mg base 10 CStepper "tells" ["self", "left", "right"] (spTells K CStepper)) (⟨f24, _, FnOk.mono oLDeck (by decide), PySem.W.mg_of X G a24, k24, b24⟩ : EL.Cal l.prog w K mg base 10 "_law_deck" ["_law_script"] (spDeck K)) (⟨f27, _, FnOk.mono oLSheet (by decide), PySem.W.mg_of X G a27, k27, b27⟩ : EL.Cal l.prog w K mg base 10 "_law_sheet" ["_law_deck_here", "_law_most"] (spSheet K)) (⟨f26, _, FnOk.mono oLPick (by decide), PySem.W.mg_of X G a26, k26, b26⟩ : EL.Cal l.prog w K mg base 10 "_law_pick" ["_law_deck_here", "_law_some"] (spPick K)) (⟨f31, _, gup oLRight (by decide), PySem.W.mg_of X G a31, k31, b31⟩ : EL.CalG l.prog w K mg base 10 "_law_right" ["_law_sheet_here", "_law_most"] (spRightS K [(Pt, lamQ)] bSt))
end KP
open PySem PySem.W PyProof.Rows
set_option maxHeartbeats 0 in
theorem PySem.Challenge.cw_evenlead_k16_pairs_of_steppers_holds : PySem.Challenge.rw_evenlead_k16_pairs_of_steppers.Holds := by
  w_on; o_law; km_head; (case hw => w_witness2)
  k_fill
  refine EL.walk_ofGT (l := PySem.Challenge.rw_evenlead_k16_pairs_of_steppers) (n := 63) (k := 11) (x := "_law_script") rfl (by decide) rfl ⟨rfl, by decide, by decide⟩ (fun w h Y => PySem.W.km_in_of Y) (fun w h Y => PySem.W.km_tabs_of Y) ?F
  case F =>
    intro w mg fa h KX G hmg
    refine' KP.all_mk KX G hmg ?aStepper ?a0 ?l0 ?c0 ?k0 ?a1 ?l1 ?c1 ?k1 ?a2 ?l2 ?c2 ?k2 ?a3 ?l3 ?c3 ?k3 ?a4 ?l4 ?c4 ?k4 ?a5 ?l5 ?c5 ?k5 ?a6 ?l6 ?c6 ?k6 ?a7 ?l7 ?c7 ?k7 ?a8 ?l8 ?c8 ?k8 ?a9 ?l9 ?c9 ?k9 ?a10 ?l10 ?c10 ?k10 ?a11 ?l11 ?c11 ?k11 ?a12 ?l12 ?c12 ?k12 ?a13 ?l13 ?c13 ?k13 ?a14 ?l14 ?c14 ?k14 ?a15 ?l15 ?c15 ?k15 ?a16 ?l16 ?c16 ?k16 ?a17 ?l17 ?c17 ?k17 ?a18 ?l18 ?c18 ?k18 ?a19 ?l19 ?c19 ?k19 ?a20 ?l20 ?c20 ?k20 ?a21 ?i21 ?l21 ?c21 ?k21 ?a22 ?i22 ?l22 ?c22 ?k22 ?a23 ?i23 ?l23 ?c23 ?k23 ?a24 ?l24 ?c24 ?k24 ?a25 ?l25 ?c25 ?k25 ?a26 ?l26 ?c26 ?k26 ?a27 ?l27 ?c27 ?k27 ?a28 ?l28 ?c28 ?k28 ?a29 ?l29 ?c29 ?k29 ?a30 ?l30 ?c30 ?k30 ?a31 ?l31 ?c31 ?k31 ?a32 ?l32 ?c32 ?k32 ?zBOTH_SIDES ?zLEFT_SIDE ?zRIGHT_SIDE ?pg ?hd ?po ?sa ?mk ?kc ?nR ?nE ?nS ?nT ?zST ?lST ?lC ?z_all ?z_isinstance ?z_int ?z_bool ?z_str ?z_tuple ?z_zip ?z_len ?z_range ?z_list ?z_repr ?z_sorted ?z_enumerate ?z_max ?z_sum ?z_iter ?zLETTERS ?zNO_LETTER ?hPC ?hPt ?hcd ?nPt ?hts
    (case aStepper => k_is); (case a0 => k_is); (case l0 => k_is); (case c0 => k_is); (case k0 => k_is); (case a1 => k_is); (case l1 => k_is); (case c1 => k_is); (case k1 => k_is); (case a2 => k_is); (case l2 => k_is); (case c2 => k_is); (case k2 => k_is); (case a3 => k_is); (case l3 => k_is); (case c3 => k_is); (case k3 => k_is); (case a4 => k_is); (case l4 => k_is); (case c4 => k_is); (case k4 => k_is); (case a5 => k_is); (case l5 => k_is); (case c5 => k_is); (case k5 => k_is); (case a6 => k_is); (case l6 => k_is); (case c6 => k_is); (case k6 => k_is); (case a7 => k_is); (case l7 => k_is); (case c7 => k_is); (case k7 => k_is); (case a8 => k_is); (case l8 => k_is); (case c8 => k_is); (case k8 => k_is); (case a9 => k_is); (case l9 => k_is); (case c9 => k_is); (case k9 => k_is); (case a10 => k_is); (case l10 => k_is); (case c10 => k_is); (case k10 => k_is); (case a11 => k_is); (case l11 => k_is); (case c11 => k_is); (case k11 => k_is); (case a12 => k_is); (case l12 => k_is); (case c12 => k_is); (case k12 => k_is); (case a13 => k_is); (case l13 => k_is); (case c13 => k_is); (case k13 => k_is); (case a14 => k_is); (case l14 => k_is); (case c14 => k_is); (case k14 => k_is); (case a15 => k_is); (case l15 => k_is); (case c15 => k_is); (case k15 => k_is); (case a16 => k_is); (case l16 => k_is); (case c16 => k_is); (case k16 => k_is); (case a17 => k_is); (case l17 => k_is); (case c17 => k_is); (case k17 => k_is); (case a18 => k_is); (case l18 => k_is); (case c18 => k_is); (case k18 => k_is); (case a19 => k_is); (case l19 => k_is); (case c19 => k_is); (case k19 => k_is); (case a20 => k_is); (case l20 => k_is); (case c20 => k_is); (case k20 => k_is); (case a21 => k_is); (case i21 => k_is); (case l21 => k_is); (case c21 => k_is); (case k21 => k_is); (case a22 => k_is); (case i22 => k_is); (case l22 => k_is); (case c22 => k_is); (case k22 => k_is); (case a23 => k_is); (case i23 => k_is); (case l23 => k_is); (case c23 => k_is); (case k23 => k_is); (case a24 => k_is); (case l24 => k_is); (case c24 => k_is); (case k24 => k_is); (case a25 => k_is); (case l25 => k_is); (case c25 => k_is); (case k25 => k_is); (case a26 => k_is); (case l26 => k_is); (case c26 => k_is); (case k26 => k_is); (case a27 => k_is); (case l27 => k_is); (case c27 => k_is); (case k27 => k_is); (case a28 => k_is); (case l28 => k_is); (case c28 => k_is); (case k28 => k_is); (case a29 => k_is); (case l29 => k_is); (case c29 => k_is); (case k29 => k_is); (case a30 => k_is); (case l30 => k_is); (case c30 => k_is); (case k30 => k_is); (case a31 => k_is); (case l31 => k_is); (case c31 => k_is); (case k31 => k_is); (case a32 => k_is); (case l32 => k_is); (case c32 => k_is); (case k32 => k_is); (case zBOTH_SIDES => k_is); (case zLEFT_SIDE => k_is); (case zRIGHT_SIDE => k_is); (case pg => k_is); (case hd => k_is); (case po => k_is); (case sa => k_is); (case mk => k_is); (case kc => k_is); (case nR => k_is); (case nE => k_is); (case nS => k_is); (case nT => k_is); (case zST => k_is); (case lST => k_is); (case lC => k_is); (case z_all => k_is); (case z_isinstance => k_is); (case z_int => k_is); (case z_bool => k_is); (case z_str => k_is); (case z_tuple => k_is); (case z_zip => k_is); (case z_len => k_is); (case z_range => k_is); (case z_list => k_is); (case z_repr => k_is); (case z_sorted => k_is); (case z_enumerate => k_is); (case z_max => k_is); (case z_sum => k_is); (case z_iter => k_is); (case zLETTERS => k_is); (case zNO_LETTER => k_is); (case hPC => exact rfl); (case hPt => exact List.mem_cons_self); (case hcd => exact (by kernel_rfl)); (case nPt => exact (by kernel_rfl)); (case hts => exact fun t ht => List.mem_singleton.mp ht)
