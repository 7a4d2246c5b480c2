import PyProof.Rows.All
import Wide.All
import OpenK.AllK
import Wide.FinOn
import PySem.Challenge.RW_evenlead_k11_even_or_uneven
import HandS.ForMost
import HandS.Style
import HandS.Wide
import HandS.IsInst
import HandS.Evl
import PyProof.ReprRoads
import PyProof.Rows.StrPadFill
import KE.KDictZip
import KE.GoesMore
import KE.GoesEnum
import PyProof.CollectWalk
import HandS.RevTup
import HandS.Walk
import HandS.TupAny
import PyProof.Rows.StrPadWhole
import KE.KRevSl
import HandS.TupMul
import HandS.Zip
import KE.GoesComp
import PyProof.SumWalkG
import HandS.OwnEq
import HandS.ListItems
import HandS.SetFor
import HandS.Strs
import HandS.SortInts
import HandS.More
import HandS.SetKeys
import HandS.DictComp
import HandS.FStr
import HandS.Star
import HandS.SortKw
import KE.DatumOrd
import HandS.WordsDict
import HandS.Conv
import HandS.TupSets
import HandS.SortRule
set_option Elab.async false
set_option linter.all false
set_option maxRecDepth 100000
set_option maxHeartbeats 4000000
namespace EL
open PySem PySem.Spec PyProof.Rows L2
/-! ### the deck of draws: a list [queue, blend, count]; the queue a list of ints -/
structure Dk (a q : Addr) (c : Nat) (H : Hp) : Prop where
  ne : a ≠ q
  top : ∃ b : Int, 0 ≤ b ∧ b < 2147483648 ∧ H a = some (.dK [(.inr "cells", .ref q), (.inr "stir", .int b), (.inr "draws", .int (c : Int))])
  que : ∃ ns : List Int, ns.length ≤ 63 ∧ H q = some (.lst (ns.map V.int))
/-- at most m draws so far -/
def Dw (a q : Addr) (m : Nat) (H : Hp) : Prop := ∃ c, c ≤ m ∧ Dk a q c H
/-- all but the deck stands -/
def Off (a q : Addr) (H H' : Hp) : Prop := ∀ b o, b ≠ a → b ≠ q → H b = some o → H' b = some o
theorem Off.refl {a q : Addr} (H : Hp) : Off a q H H := fun _ _ _ _ h => h
theorem Off.trans {a q : Addr} {H H1 H2 : Hp} (x : Off a q H H1) (y : Off a q H1 H2) : Off a q H H2 := fun b o h1 h2 h => y b o h1 h2 (x b o h1 h2 h)
theorem Off.of_same {a q : Addr} {H H' : Hp} (x : Same H H') : Off a q H H' := fun b o _ _ h => x b o h
/-- the heap without the deck -/
def hid (a q : Addr) (H : Hp) : Hp := fun b => if b = a ∨ b = q then none else H b
theorem hid_ne {a q b : Addr} {H : Hp} (h1 : b ≠ a) (h2 : b ≠ q) : hid a q H b = H b := by unfold hid; rw [if_neg (fun z => z.elim h1 h2)]
theorem hid_some {a q b : Addr} {H : Hp} {o : HO} (h : hid a q H b = some o) : b ≠ a ∧ b ≠ q ∧ H b = some o := by
  unfold hid at h
  by_cases z : b = a ∨ b = q
  · rw [if_pos z] at h; cases h
  · rw [if_neg z] at h; exact ⟨fun e => z (.inl e), fun e => z (.inr e), h⟩
theorem hid_sub {a q : Addr} {H : Hp} : Same (hid a q H) H := fun b o h => (hid_some h).2.2
theorem Off.hid {a q : Addr} {H H' : Hp} (x : Off a q H H') : Same (hid a q H) (hid a q H') := fun b o h => by
  obtain ⟨h1, h2, h3⟩ := hid_some h
  rw [hid_ne h1 h2]; exact x b o h1 h2 h3
theorem same_upd {H : Hp} {p : Addr} {o : HO} (h : H p = none) : Same H (upd H p o) := fun b x e => by
  rw [upd_ne (ne_of_none e h)]; exact e
theorem Dk.same {a q : Addr} {c : Nat} {H H' : Hp} (d : Dk a q c H) (s : Same H H') : Dk a q c H' := by
  obtain ⟨b, h1, h2, h3⟩ := d.top
  obtain ⟨ns, h4, h5⟩ := d.que
  exact ⟨d.ne, ⟨b, h1, h2, s _ _ h3⟩, ⟨ns, h4, s _ _ h5⟩⟩
theorem Dw.same {a q : Addr} {m : Nat} {H H' : Hp} (d : Dw a q m H) (s : Same H H') : Dw a q m H' := by
  obtain ⟨c, hc, k⟩ := d; exact ⟨c, hc, k.same s⟩
theorem Dw.mono {a q : Addr} {m n : Nat} {H : Hp} (d : Dw a q m H) (h : m ≤ n) : Dw a q n H := by
  obtain ⟨c, hc, k⟩ := d; exact ⟨c, Nat.le_trans hc h, k⟩
theorem Dk.na {a q p : Addr} {c : Nat} {H : Hp} (d : Dk a q c H) (h : H p = none) : p ≠ a ∧ p ≠ q := by
  obtain ⟨b, _, _, h3⟩ := d.top
  obtain ⟨ns, _, h5⟩ := d.que
  exact ⟨fun e => (by rw [e, h3] at h; cases h), fun e => (by rw [e, h5] at h; cases h)⟩
theorem Dw.na {a q p : Addr} {m : Nat} {H : Hp} (d : Dw a q m H) (h : H p = none) : p ≠ a ∧ p ≠ q := by
  obtain ⟨c, _, k⟩ := d; exact k.na h
/-- a store at an object beside the deck -/
theorem Dk.upd {a q p : Addr} {c : Nat} {H : Hp} {o : HO} (d : Dk a q c H) (h1 : p ≠ a) (h2 : p ≠ q) : Dk a q c (upd H p o) := by
  obtain ⟨b, h3, h4, h5⟩ := d.top
  obtain ⟨ns, h6, h7⟩ := d.que
  exact ⟨d.ne, ⟨b, h3, h4, by rw [upd_ne (Ne.symm h1)]; exact h5⟩, ⟨ns, h6, by rw [upd_ne (Ne.symm h2)]; exact h7⟩⟩
theorem Dw.upd {a q p : Addr} {m : Nat} {H : Hp} {o : HO} (d : Dw a q m H) (h1 : p ≠ a) (h2 : p ≠ q) : Dw a q m (upd H p o) := by
  obtain ⟨c, hc, k⟩ := d; exact ⟨c, hc, k.upd h1 h2⟩
theorem len_sz {n : Nat} (h : n ≤ 1000000) : n ≤ sizeLine := Nat.le_trans h (by decide)
theorem lt_sz {n : Nat} (h : n ≤ 1000000) : n < sizeLine := Nat.lt_of_le_of_lt h (by decide)
theorem dpInts {K : PySem.W.Frag} {H : Hp} : ∀ ns : List Int, DpAll K H (ns.map V.int) (ns.map PyData.int)
  | [] => .nil
  | n :: r => .cons (.int n) (dpInts r)
/-! ### slices of lists of ints -/
def cutI (ns : List Int) (k : Nat) : List Int := ns.take k
theorem cutI_map (ns : List Int) : cutV (ns.map V.int) none (some 63) = (cutI ns 63).map V.int := by
  unfold cutV cutI
  rw [show HT.sIx (ns.map V.int).length (ns.map V.int).length (some 63) = min 63 (ns.map V.int).length from HT.sIx_nat _ _ 63, HT.sIx_none, List.drop_zero, Nat.sub_zero, List.map_take, List.take_eq_take_iff]
  omega
theorem cutI_len (ns : List Int) (k : Nat) (h : ns.length ≤ 63) : (cutI ns k).length ≤ 63 := by
  unfold cutI; rw [List.length_take]; omega
theorem get_map_int {ms : List Int} {i : Nat} {x : V} (h : (ms.map V.int)[i]? = some x) : ∃ z, ms[i]? = some z ∧ x = V.int z := by
  rw [List.getElem?_map] at h
  cases e : ms[i]? with
  | none => rw [e] at h; cases h
  | some z => rw [e] at h; exact ⟨z, rfl, (Option.some.inj h).symm⟩
theorem sqOf {K : PySem.W.Frag} {H : Hp} {a : Addr} {xs : List V} (h : H a = some (.lst xs)) : SqL K H a xs := .inl (.inl h)
theorem stOf {K : PySem.W.Frag} {H : Hp} {a : Addr} {xs : List V} (h : H a = some (.tup xs)) : SqT K H a xs := .inl (.inl h)
theorem ex_l' {K : PySem.W.Frag} {H H' : Hp} {a : Addr} {xs : List V} (e : Same H H') (h : SqL K H a xs) : SqL K H' a xs := e.seq h
theorem ex_t' {K : PySem.W.Frag} {H H' : Hp} {a : Addr} {xs : List V} (e : Same H H') (h : SqT K H a xs) : SqT K H' a xs := Evl.ex_t e h
theorem canLay_ints : ∀ ns : List Int, PyData.canLayAll0 (ns.map PyData.int) = true
  | [] => by simp [PyData.canLayAll0]
  | n :: r => by simp [PyData.canLayAll0, PyData.canLay0, canLay_ints r]
theorem depth_ints : ∀ ns : List Int, PyData.depthAll (ns.map PyData.int) = 0
  | [] => by simp [PyData.depthAll]
  | n :: r => by simp [PyData.depthAll, PyData.depth, depth_ints r]
theorem shaped_ints (ns : List Int) : SeqAt.shaped (.list (ns.map PyData.int)) = true := by
  simp [SeqAt.shaped, PyData.canLay0, PyData.depth, canLay_ints, depth_ints]
theorem eqv_nil (ns : List Int) : PyData.eqv (.list (ns.map PyData.int)) (.list []) = decide (ns = []) := by
  cases ns <;> simp [PyData.eqv, PyData.eqvAll]
theorem last_int {ns : List Int} (h : ns ≠ []) : ∃ y, (ns.map V.int)[(ns.map V.int).length - 1]? = some (.int y) := by
  have hl : 0 < ns.length := List.length_pos_iff.mpr h
  refine ⟨ns[ns.length - 1]'(by omega), ?_⟩
  rw [List.getElem?_map, List.length_map, List.getElem?_eq_getElem (by omega)]; rfl
/-! ### a def that may be called -/
structure Cal (P : Program) (w : World) (K : PySem.W.Frag) (mg : Str → Option Value) (base : Heap) (k : Nat) (x : Str) (ps : List Str) (sp : Sp) where
  f : Addr
  fd : FuncData
  ok : FnOk P w K mg base CX0 k f fd ps sp
  g : mg x = some (.ref f)
  kp : PySem.W.keepIn K (.ref f) = true
  b : Binds K fd ps []
theorem pe_cal {X : Cx} {k : Nat} {x : Str} {ps : List Str} {sp : Sp} {E : XK} {e : Expr} {es : List Expr} {t : TA} {p pos : Pos} (C : Cal X.prog X.w X.K X.mg X.base k x ps sp) (hr : Room k X.A) (hg : Gl X x) (hx : Passes CX0 X E) (ha : PA X (e :: es) t)
    (hdb : (x == ("__debug__" : Str)) = false := by decide) (he : starEach (e :: es) X.env = (false, eval e X.env) :: starEach es X.env := by rfl) (hpl : (backTo pos (starEach es X.env)).any (·.1) = false := by rfl) :
    PE X (.Call (.Name x p) (e :: es) [] pos) (tCall sp [] E t) := pe_call C.ok hr hg C.g C.kp C.b .nil hx ha hdb he hpl
/-- the names of built-ins that the text leaves alone -/
abbrev Nn (mg : Str → Option Value) (x : Str) : Prop := mg x = none
/-! ### promises of the deck's defs -/
def spDeck (K : PySem.W.Frag) : Sp := fun vs H Q _ => ∃ (a : Addr) (ns : List Int), vs = [.ref a] ∧ SqL K H a (ns.map V.int) ∧ ns.length ≤ 63 ∧
  ∀ p q H', Same H H' → Dw p q 0 H' → H p = none → H q = none → Q (.ref p) H'
def spDraw : Sp := fun vs H Q _ => ∃ (a q : Addr) (m : Nat) (n : Int), vs = [.ref a, .int n] ∧ Dw a q m H ∧ m < 1000000000 ∧ 0 < n ∧ n < 1073741824 ∧
  ∀ k H', 0 ≤ k → k < n → Off a q H H' → Dw a q (m + 1) H' → Q (.int k) H'
/-- a pick of a list's item (not the deck's) -/
def spPick (K : PySem.W.Frag) : Sp := fun vs H Q _ => ∃ (a q : Addr) (m : Nat) (y : V) , vs = [.ref a, y] ∧ Dw a q m H ∧ m < 1000000000 ∧
  ((∃ (l : Addr) (xs : List V), y = .ref l ∧ SqL K (hid a q H) l xs ∧ xs ≠ [] ∧ xs.length ≤ 1000000 ∧ ∀ (i : Nat) (x : V) (H' : Hp), xs[i]? = some x → Off a q H H' → Dw a q (m + 1) H' → Q x H') ∨
   (∃ z : Str, y = .str z ∧ z.length ≠ 0 ∧ z.length ≤ 1000000 ∧ ∀ (i c : Nat) (H' : Hp), z.cps.toList[i]? = some c → Off a q H H' → Dw a q (m + 1) H' → Q (.str ⟨#[c]⟩) H'))
end EL
/-! Defs that show data (repr): a call where no display is under way around it. -/
namespace EL
open PySem PySem.Spec PyProof.Rows L2
/-- room, and nothing around is being shown -/
structure RoomG (k : Nat) (A : Around) : Prop where
  r : Room k A
  g : A.guards = some []
theorem RoomG.mono {j k : Nat} {A : Around} (h : RoomG k A) (hj : j ≤ k) : RoomG j A := ⟨h.r.mono hj, h.g⟩
/-- a def's promise where nothing around is being shown -/
structure FnG (P : Program) (w : World) (K : PySem.W.Frag) (mg : Str → Option Value) (base : Heap) (k : Nat) (f : Addr) (fd : FuncData) (ps : List Str) (sp : Sp) : Prop where
  ln : ∀ (vs : List V) (H : Hp) (Q : VK) (E : XK), sp vs H Q E → vs.length = ps.length
  go : ∀ {A : Around} {outer : List Env} {s : Shared} {H : Hp} {args : Args} {us : List Value} {vs : List V} {Q : VK} {E : XK},
    RoomG k A → Env0 P w K mg base A outer s H → BindsTo s fd args (ps.zip us) → Vals vs us → sp vs H Q E → codeAny (model P w) A (.call (.ref f) args) (CR CX0 outer P w H s Q E) s
section
variable {P : Program} {w : World} {K : PySem.W.Frag} {mg : Str → Option Value} {base : Heap}
theorem FnG.of {k : Nat} {f : Addr} {fd : FuncData} {ps : List Str} {sp : Sp} (F : FnOk P w K mg base CX0 k f fd ps sp) : FnG P w K mg base k f fd ps sp :=
  ⟨F.len, fun hr e hb hv hs => F.run _ _ _ _ _ _ _ _ _ hr.r e hb hv hs⟩
/-- by its body -/
theorem FnG.body {x : Str} {st : Stmt} {f : Addr} {fd : FuncData} {N ps : List Str} {k : Nat} {sp : Sp} (F : Fun K x x st f fd) (S : FnScope N ps (defScope st)) (ln : ∀ vs H Q E, sp vs H Q E → vs.length = ps.length)
    (hb : ∀ (cdv : Value) (A : Around) (outer : List Env) (s : Shared) (H : Hp) (vs : List V) (Q : VK) (E : XK), RoomG k (A.deeper (envOfC x (defScope st) s.heap.objs.size f cdv)) → sp vs H Q E →
      ∃ t, PSs (cxOf CX0 P w K mg base N x (defScope st) f cdv A outer s H E).nox (defBody st) t ∧ t { nx := fun _ H' => Q .non H', rt := Q } (start N vs) H) : FnG P w K mg base (k + 1) f fd ps sp := by
  obtain ⟨oc, od, kV, doc, pm, an, cdv, ct, osl, rfl, lk, hcd⟩ := F.ex
  refine ⟨ln, fun {A outer s H args us vs Q E} hr e0 bd rv hs => ?_⟩
  have stands : ∀ b o, base.get? b = some o → s.heap.get? b = some o := fun b o e => (e0.bs b o e).1
  have KX := e0.mod.kin.keeps stands
  have named : ∀ y ∈ ps.zip us, (defScope st).names.lookup y.1 = some .local ∨ ((defScope st).names.lookup y.1 = some .cell ∧ ((cellsFrom (s.heap.objs.size + 1) (defScope st).names []).lookup y.1).isSome = true) := by
    rintro ⟨n, v⟩ hy
    exact (S.par n (List.of_mem_zip hy).1).imp id fun q => ⟨q, PySem.W.cellsFrom_some _ _ _ (.inl q)⟩
  refine codeAny_call_function hr.r.depth (KX _ _ lk) rfl S.co S.gen rfl (PySem.W.codeRec_of KX hcd) (bd _ _ _ _ ?_)
  refine wpAny_newFunctionEnv_cells S.kind named fun env he s1 x1 => ?_
  subst he
  refine ⟨(e0.mod.nolimit.keeps stands).keeps x1.toInCall.keep, codeAny_func ?_⟩
  obtain ⟨t, ht, hq⟩ := hb cdv A outer s H vs Q E ⟨hr.r.deeper _, hr.g⟩ hs
  have I := inv_start (CX := CX0) (mg := mg) (base := base) (E := E) (qual := x) (f := f) (cd := cdv) S hr.r.hd e0 (ln _ _ _ _ hs) rv x1
  refine wpAny_mono (ht.nox.run [] s1 (start N vs) H _ I hq) (fun fl s2 end2 => ?_) fun _ _ z => z
  cases fl with
  | ret u =>
    obtain ⟨v, σ2, H2, J, r2, q2⟩ := end2
    exact ⟨v, H2, J.os, J.bare, J.base, J.hok, r2, q2⟩
  | next =>
    obtain ⟨σ2, H2, J, q2⟩ := end2
    exact ⟨.non, H2, J.os, J.bare, J.base, J.hok, rfl, q2⟩
  | brk => exact end2.elim fun _ z => z.elim fun _ y => y.2.elim
  | cont => exact end2.elim fun _ z => z.elim fun _ y => y.2.elim
end
/-- a def that may be called where nothing around is being shown -/
structure CalG (P : Program) (w : World) (K : PySem.W.Frag) (mg : Str → Option Value) (base : Heap) (k : Nat) (x : Str) (ps : List Str) (sp : Sp) where
  f : Addr
  fd : FuncData
  ok : FnG P w K mg base k f fd ps sp
  g : mg x = some (.ref f)
  kp : PySem.W.keepIn K (.ref f) = true
  b : Binds K fd ps []
section
variable {X : Cx} {k : Nat} {x : Str} {ps : List Str} {sp : Sp} {E : XK} {e : Expr} {es : List Expr} {t : TA} {p pos : Pos}
theorem pe_calG (C : CalG X.prog X.w X.K X.mg X.base k x ps sp) (hr : RoomG k X.A) (hg : Gl X x) (hx : Passes CX0 X E) (ha : PA X (e :: es) t)
    (hdb : (x == ("__debug__" : Str)) = false := by decide) (he : starEach (e :: es) X.env = (false, eval e X.env) :: starEach es X.env := by rfl) (hpl : (backTo pos (starEach es X.env)).any (·.1) = false := by rfl) :
    PE X (.Call (.Name x p) (e :: es) [] pos) (tCall sp [] E t) := by
  refine ⟨fun pins s σ H Q I h => wpAny_Call_Name_kw (ld_glob I hg C.g ?_ hdb)⟩
  refine PySem.W.callWith_K (h₀ := X.base) I.ok.mod.kin C.kp (thn (ha.run pos pins s σ H _ I h) fun us s1 hh => ?_) he hpl
  obtain ⟨vs, H1, I1, r, q⟩ := hh
  refine ⟨I1.kIn, ?_⟩
  have q' : sp vs H1 Q E := by rw [List.append_nil] at q; exact q
  have hl : us.length = ps.length := r.length.symm.trans (C.ok.ln _ _ _ _ q')
  have bd := C.b s1 us I1.kIn (by rw [List.append_nil]; exact hl)
  rw [List.append_nil] at bd
  refine wpAny_call (codeAny_mono (C.ok.go hr I1.env0 bd r q') fun r2 s2 h2 => ?_)
  match r2, h2 with
  | .error e, h2 => exact hx pins σ H1 s1 e s2 I1 h2
  | .ok (.ret u), h2 => exact I1.after h2
  | .ok .next, h2 => exact h2.elim
  | .ok .brk, h2 => exact h2.elim
  | .ok .cont, h2 => exact h2.elim
end
/-! ### the end: the law's def, called by the claim -/
section
variable {P : Program} {w : World} {K : PySem.W.Frag} {mg mb : Str → Option Value} {s₁ : Shared}
/-- the base under an abstract heap that tracks one list at most -/
theorem base_one {H : Hp} {a : Addr} {vs : List Value} (KX : K.In s₁.heap) (hns : s₁.heap.Ns mainGlobals mg) (hb : s₁.heap.Ns builtinsNs mb) (hbb : ∀ x : Str, x ≠ "__name__" → mb x = bootBuiltins x) (hlim : s₁.heap.NoLimit)
    (ha : s₁.heap.get? a = some { cls := .type "list", data := .seq vs.toArray }) (hA : ∀ b u, H b = some u → b = a) (hK : ∀ u, H a = some u → K.lookup a = none) :
    K.In (hidT s₁.heap H) ∧ Mod K mg (hidT s₁.heap H) := by
  have dictFree : ∀ {b : Addr} {o : Obj} {es : Array DictEntry} {n : Nat}, s₁.heap.get? b = some o → o.data = .dict es n → H b = none := by
    intro b o es n e d
    cases q : H b with
    | none => rfl
    | some u =>
      obtain rfl := hA b u q
      rw [ha] at e
      obtain rfl := Option.some.inj e
      exact nomatch d
  have ns : ∀ {b : Addr} {m : Str → Option Value}, s₁.heap.Ns b m → (hidT s₁.heap H).Ns b m := by
    rintro b m ⟨o, es, n, e, d, r⟩
    exact ⟨o, es, n, hidT_get e (dictFree e d), d, r⟩
  have kin : K.In (hidT s₁.heap H) := by
    intro b o e
    refine hidT_get (KX b o e) ?_
    cases q : H b with
    | none => rfl
    | some u =>
      obtain rfl := hA b u q
      rw [hK u q] at e
      exact nomatch e
  obtain ⟨mc, l1, l2⟩ := hlim
  exact ⟨kin, ⟨kin, ns hns, ⟨mb, ns hb, hbb⟩, ⟨mc, ns l1, l2⟩⟩⟩
theorem law_callG {k : Nat} {fa a : Addr} {fd : FuncData} {x : Str} {sp : Sp} {vs : List Value} {ns : List Int}
    (KX : K.In s₁.heap) (hns : s₁.heap.Ns mainGlobals mg) (hb : s₁.heap.Ns builtinsNs mb) (hbb : ∀ x : Str, x ≠ "__name__" → mb x = bootBuiltins x) (hlim : s₁.heap.NoLimit) (hg : s₁.gens = #[])
    (ha : s₁.heap.get? a = some { cls := .type "list", data := .seq vs.toArray }) (hi : IntsAre vs ns) (hl : ns.length ≤ sizeLine) (hr : Room k callerA)
    (F : ∀ base : Heap, K.In base → base.Ns mainGlobals mg → FnG P w K mg base k fa fd [x] sp) (hbind : ∀ (s : Shared) (u : Value), BindsTo s fd ⟨[u], []⟩ [(x, u)])
    (hsp : ∀ H : Hp, Only H → SqL K H a (ns.map V.int) → sp [.ref a] H (fun v _ => v = .bl true) fun _ _ _ => False) :
    codeAny (model P w) callerA (.call (.ref fa) ⟨[.ref a], []⟩) (fun r s' => r = .ok (.ret (.bool true)) ∧ OldK s₁.heap s'.heap ∧ s'.os = s₁.os ∧ AllBare s'.gens) s₁ := by
  have rv : Vals (ns.map V.int) vs := vals_ints hi
  have key : ∀ H : Hp, Only H → SqL K H a (ns.map V.int) → HOk P w H s₁.heap → (∀ b u, H b = some u → b = a) → (∀ u, H a = some u → K.lookup a = none) →
      codeAny (model P w) callerA (.call (.ref fa) ⟨[.ref a], []⟩) (fun r s' => r = .ok (.ret (.bool true)) ∧ OldK s₁.heap s'.heap ∧ s'.os = s₁.os ∧ AllBare s'.gens) s₁ := by
    intro H hO hS hok hA hK
    obtain ⟨kb, md⟩ := base_one KX hns hb hbb hlim ha hA hK
    have e0 : Env0 P w K mg (hidT s₁.heap H) callerA [] s₁ H := ⟨rfl, md, fun _ _ e => of_hidT e, Nat.le_of_eq (hidT_size s₁.heap H), trivial, fun _ z => (List.not_mem_nil z).elim, hok, .of_eq hg⟩
    have run := (F _ kb md.glob).go (Q := fun v _ => v = .bl true) (E := fun _ _ _ => False) ⟨hr, rfl⟩ e0 (vs := [.ref a]) (us := [.ref a]) (hbind s₁ (.ref a)) (Paired.cons (show RelV (.ref a) (.ref a) from rfl) .nil) (hsp H hO hS)
    refine codeAny_mono run fun r s2 h2 => ?_
    match r, h2 with
    | .error e, h2 => exact h2.elim
    | .ok .next, h2 => exact h2.elim
    | .ok .brk, h2 => exact h2.elim
    | .ok .cont, h2 => exact h2.elim
    | .ok (.ret u), ⟨v, H2, os, bare, un, ok2, r2, q2⟩ =>
      obtain rfl : v = .bl true := q2
      obtain rfl : u = Value.bool true := r2
      refine ⟨rfl, OldK.of_keep fun b o e => ?_, os, bare⟩
      cases q : H b with
      | none => exact un.keep b o e q (List.not_mem_nil) (List.not_mem_nil)
      | some u =>
        obtain ⟨ob, xs, z⟩ := (hO b).resolve_left (by rw [q]; exact fun y => nomatch y)
        have e1 : s₁.heap.get? b = some ob := (hok b _ z).1
        have e2 : s2.heap.get? b = some ob := (ok2 b _ (un.frzs b ob _ z)).1
        rw [e] at e1
        rw [Option.some.inj e1]; exact e2
  by_cases hk : K.lookup a = none
  · refine key (fun b => if b = a then some (.frz { cls := .type "list", data := .seq vs.toArray } (.lst (ns.map V.int))) else none) (fun b => ?_) (.inl (.inr ⟨_, if_pos rfl⟩)) (fun b u z => ?_) (fun b u z => ?_) fun _ _ => hk
    · by_cases e : b = a
      · exact .inr ⟨_, _, if_pos e⟩
      · exact .inl (if_neg e)
    · by_cases e : b = a
      · subst e
        obtain rfl := Option.some.inj ((if_pos rfl).symm.trans z)
        exact ⟨ha, (by rw [List.length_map]; exact hl), vs, _, rv, ha⟩
      · exact nomatch (if_neg e).symm.trans z
    · by_cases e : b = a
      · exact e
      · exact nomatch (if_neg e).symm.trans z
  · obtain ⟨o, ho⟩ := Option.ne_none_iff_exists'.mp hk
    have e := KX a o ho
    rw [ha] at e
    obtain rfl := Option.some.inj e
    have lv : vs.length = ns.length := hi.length
    refine key (fun _ => none) (fun _ => .inl rfl) (.inr ⟨_, vs.toArray, _, ho, rfl, rfl, rfl, (by rw [List.size_toArray, lv]; exact hl), (by simpa using rv)⟩) (fun _ _ z => nomatch z) (fun _ _ z => nomatch z) fun _ z => nomatch z
end
theorem walk_ofG {l : PySem.W.OpenLaw} {n k : Nat} {q : Program} {loose : List Str} {XP : (Str → Option Value) → Heap → Prop} {YP : World → Heap → Prop} {d : DefRec} {K : Params → PySem.W.Frag} {sp : World → Sp} {x : Str}
    (hn : l.most = some n) (hn2 : n ≤ sizeLine) (hdf : d.params.defaults = []) (hr : Room k callerA) (hY : ∀ (w : World) (h : Heap), YP w h → (K w.params).In h)
    (F : ∀ (w : World) (mg : Str → Option Value) (fa : Addr) (h : Heap), (K w.params).In h → h.Ns mainGlobals mg → mg d.name = some (.ref fa) →
      ∃ fd : FuncData, (∀ (s : Shared) (u : Value), BindsTo s fd ⟨[u], []⟩ [(x, u)]) ∧ ∀ base : Heap, (K w.params).In base → base.Ns mainGlobals mg → FnG l.prog w (K w.params) mg base k fa fd [x] (sp w))
    (hsp : ∀ (w : World) (H : Hp) (a : Addr) (ns : List Int), ns.length ≤ n → Only H → SqL (K w.params) H a (ns.map V.int) → sp w [.ref a] H (fun v _ => v = .bl true) fun _ _ _ => False) :
    PySem.W.WalkO q loose XP YP l.row.toRowW d [] (fun f vs => PySem.call f vs) := by
  refine Att.attach_call hn hdf fun w _ _ mg mb fa _ _ _ _ a vs ns G Y _ _ _ hmg hobj hints hlen hg => ?_
  obtain ⟨fd, hb, hF⟩ := F w mg fa _ (hY w _ Y) G.T.g hmg
  exact law_callG (hY w _ Y) G.T.g G.T.b G.T.builtins G.T.nolimit hg hobj hints (Nat.le_trans hlen hn2) hr hF hb (fun H hO hS => hsp w H a ns hlen hO hS)
end EL
/-! Data of any of the laws' kinds at a value: also empty dicts; repr of it; == with a text; isinstance. -/
namespace EL
open PySem PySem.Spec PyProof.Rows L2
mutual
/-- v stands for the data d -/
inductive Dq (K : PySem.W.Frag) (H : Hp) : V → PyData → Prop
  | non : Dq K H .non .none
  | bl (b : Bool) : Dq K H (.bl b) (.bool b)
  | int (i : Int) : Dq K H (.int i) (.int i)
  | str (x : Str) : Dq K H (.str x) (.str x)
  | lst {a : Addr} {xs : List V} {ds : List PyData} : SqL K H a xs → DqAll K H xs ds → Dq K H (.ref a) (.list ds)
  | tup {a : Addr} {xs : List V} {ds : List PyData} : SqT K H a xs → DqAll K H xs ds → Dq K H (.ref a) (.tuple ds)
  | dic {a : Addr} : H a = some (.dK []) → Dq K H (.ref a) (.dict [])
inductive DqAll (K : PySem.W.Frag) (H : Hp) : List V → List PyData → Prop
  | nil : DqAll K H [] []
  | cons {v : V} {vs : List V} {d : PyData} {ds : List PyData} : Dq K H v d → DqAll K H vs ds → DqAll K H (v :: vs) (d :: ds)
end
mutual
/-- no list within -/
def noL : PyData → Bool
  | .none | .bool _ | .int _ | .str _ | .dict _ => true
  | .list _ => false
  | .tuple xs => noLs xs
def noLs : List PyData → Bool
  | [] => true
  | x :: xs => noL x && noLs xs
end
section
variable {K : PySem.W.Frag} {H H' : Hp}
mutual
theorem Dq.mono (e : Same H H') : ∀ (d : PyData) (v : V), Dq K H v d → Dq K H' v d
  | .none, _, h => by cases h; exact .non
  | .bool b, _, h => by cases h; exact .bl b
  | .int i, _, h => by cases h; exact .int i
  | .str x, _, h => by cases h; exact .str x
  | .list ds, _, h => by
    cases h with
    | lst hs ha => exact .lst (ex_l' e hs) (DqAll.mono e ds _ ha)
  | .tuple ds, _, h => by
    cases h with
    | tup hs ha => exact .tup (ex_t' e hs) (DqAll.mono e ds _ ha)
  | .dict _, _, h => by
    cases h with
    | dic hd => exact .dic (e _ _ hd)
theorem DqAll.mono (e : Same H H') : ∀ (ds : List PyData) (vs : List V), DqAll K H vs ds → DqAll K H' vs ds
  | [], _, h => by cases h; exact .nil
  | d :: ds, _, h => by
    cases h with
    | cons h1 h2 => exact .cons (Dq.mono e d _ h1) (DqAll.mono e ds _ h2)
end
theorem Dq.up {d : PyData} {v : V} (h : Dq K H v d) (e : Same H H') : Dq K H' v d := Dq.mono e d v h
theorem DqAll.up {ds : List PyData} {vs : List V} (h : DqAll K H vs ds) (e : Same H H') : DqAll K H' vs ds := DqAll.mono e ds vs h
theorem DqAll.len {ds : List PyData} : ∀ {vs : List V}, DqAll K H vs ds → vs.length = ds.length := by
  induction ds with
  | nil => intro vs h; cases h; rfl
  | cons d ds ih =>
    intro vs h
    cases h with
    | cons _ h2 => rw [List.length_cons, List.length_cons, ih h2]
theorem DqAll.at : ∀ {ds : List PyData} {vs : List V} {i : Nat} {v : V}, DqAll K H vs ds → vs[i]? = some v → ∃ d, ds[i]? = some d ∧ Dq K H v d
  | [], _, i, v, h, e => by cases h; simp at e
  | d :: ds, _, 0, v, h, e => by
    cases h with
    | cons h1 h2 =>
      rw [List.getElem?_cons_zero] at e
      obtain rfl := Option.some.inj e
      exact ⟨d, rfl, h1⟩
  | d :: ds, _, i + 1, v, h, e => by
    cases h with
    | cons h1 h2 => exact DqAll.at (i := i) h2 (by simpa using e)
theorem DqAll.app : ∀ {ds es : List PyData} {vs us : List V}, DqAll K H vs ds → DqAll K H us es → DqAll K H (vs ++ us) (ds ++ es)
  | [], _, _, _, h, h' => by cases h; exact h'
  | d :: ds, _, _, _, h, h' => by
    cases h with
    | cons h1 h2 => exact .cons h1 (DqAll.app h2 h')
theorem DqAll.tk : ∀ {ds : List PyData} {vs : List V} (n : Nat), DqAll K H vs ds → DqAll K H (vs.take n) (ds.take n)
  | _, _, 0, _ => .nil
  | [], _, n + 1, h => by cases h; exact .nil
  | d :: ds, _, n + 1, h => by
    cases h with
    | cons h1 h2 => exact .cons h1 (DqAll.tk n h2)
theorem DqAll.dp : ∀ {ds : List PyData} {vs : List V} (n : Nat), DqAll K H vs ds → DqAll K H (vs.drop n) (ds.drop n)
  | _, _, 0, h => h
  | [], _, n + 1, h => by cases h; exact .nil
  | d :: ds, _, n + 1, h => by
    cases h with
    | cons h1 h2 => exact DqAll.dp n h2
theorem DqAll.rv {ds : List PyData} {vs : List V} (h : DqAll K H vs ds) : DqAll K H vs.reverse ds.reverse := by
  induction ds generalizing vs with
  | nil => cases h; exact .nil
  | cons d ds ih =>
    cases h with
    | cons h1 h2 =>
      rw [List.reverse_cons, List.reverse_cons]
      exact (ih h2).app (.cons h1 .nil)
end
section
variable {X : Cx} {pins : List (Addr × Obj)} {σ : L2.St} {H : Hp} {s : Shared}
theorem not_sys {a : Addr} (I : Inv X pins σ H s) (h : H a = some (.dK [])) : a ≠ sysModules ∧ ∃ o n, s.heap.get? a = some o ∧ o.cls = .type "dict" ∧ o.data = .dict #[] n := by
  obtain ⟨_, h2, vs, kv, o, es, n, ho, hx, hd, _, hes, _⟩ := I.hok a _ h
  cases kv
  refine ⟨ne_of_beq_false h2, o, n, ho, hx.1, ?_⟩
  have e : es.toList = [] := by
    generalize es.toList = l at hes
    cases hes; rfl
  rw [hd]
  congr
  exact Array.toList_eq_nil_iff.mp e
mutual
theorem Dq.reads (I : Inv X pins σ H s) : ∀ (d : PyData) (v : V) (u : Value), Dq X.K H v d → RelV v u → ∃ as, Reads s.heap u d as ∧ (noL d = true → sysModules ∉ as)
  | .none, _, _, h, r => by cases h; cases r; exact ⟨_, Reads.none, fun _ => List.not_mem_nil⟩
  | .bool b, _, _, h, r => by cases h; cases r; exact ⟨_, Reads.bool b, fun _ => List.not_mem_nil⟩
  | .int i, _, _, h, r => by cases h; obtain ⟨t, rfl⟩ := r; exact ⟨_, Reads.int i t, fun _ => List.not_mem_nil⟩
  | .str x, _, _, h, r => by cases h; obtain ⟨t, rfl⟩ := r; exact ⟨_, Reads.str x t, fun _ => List.not_mem_nil⟩
  | .list ds, _, _, h, r => by
    cases h with
    | lst hs ha =>
      cases r
      obtain ⟨its, rv, ⟨o, n, ho, hc, _, hd⟩, _⟩ := I.list hs
      obtain ⟨as, hr, _⟩ := DqAll.reads I ds _ its ha rv
      exact ⟨_, Reads.list ho hc hd hr, fun z => by simp [noL] at z⟩
  | .tuple ds, _, _, h, r => by
    cases h with
    | tup hs ha =>
      cases r
      obtain ⟨its, rv, ⟨o, ho, hc, n, hd⟩, _⟩ := I.tuple hs
      obtain ⟨as, hr, hn⟩ := DqAll.reads I ds _ its ha rv
      exact ⟨_, Reads.tuple ho hc hd hr, fun z => hn (by simpa [noL] using z)⟩
  | .dict _, _, _, h, r => by
    cases h with
    | dic hd =>
      cases r
      obtain ⟨hne, o, n, ho, hc, hdd⟩ := not_sys I hd
      exact ⟨_, Reads.dict (kvs := []) ho hc hdd .nil .nil, fun _ => by simp [Ne.symm hne]⟩
theorem DqAll.reads (I : Inv X pins σ H s) : ∀ (ds : List PyData) (vs : List V) (us : List Value), DqAll X.K H vs ds → Vals vs us → ∃ as, ReadsAll s.heap us ds as ∧ (noLs ds = true → sysModules ∉ as)
  | [], _, _, h, r => by cases h; cases r; exact ⟨_, ReadsAll.nil, fun _ => List.not_mem_nil⟩
  | d :: ds, _, _, h, r => by
    cases h with
    | cons h1 h2 =>
      cases r with
      | cons r1 r2 =>
        obtain ⟨as, q1, n1⟩ := Dq.reads I d _ _ h1 r1
        obtain ⟨bs, q2, n2⟩ := DqAll.reads I ds _ _ h2 r2
        refine ⟨_, ReadsAll.cons q1 q2, fun z => ?_⟩
        obtain ⟨z1, z2⟩ : noL d = true ∧ noLs ds = true := by simpa [noLs] using z
        exact fun m => (List.mem_append.mp m).elim (n1 z1) (n2 z2)
end
/-- repr(x) of data -/
def rRepr (K : PySem.W.Frag) : List V → Hp → VK → Prop := fun xs H Q => ∃ x d, xs = [x] ∧ Dq K H x d ∧ d.showable = true ∧ (d.hasDict = false ∨ noL d = true) ∧ d.depth ≤ 100 ∧ d.shown.length ≤ sizeLine ∧ Q (.str d.shown) H
theorem call_repr {k : Nat} (hr : RoomG k X.A) : CallR X (.builtin "repr") (rRepr X.K) := by
  intro pins s σ H xs us Q I rv h
  obtain ⟨x, d, rfl, hd, hs, hn, hdp, hz, q⟩ := h
  obtain ⟨u, rfl, ru⟩ := vals1 rv
  obtain ⟨as, rd, hsys⟩ := Dq.reads I d x u hd ru
  have hu : X.A.units + (d.depth + 1) < cLine := by have := hr.r.un; omega
  have sm : d.hasDict = true → sysModules ∉ as := fun z => hn.elim (fun y => by rw [y] at z; cases z) hsys
  have fin : ∀ h' u' tk, (∀ b o, s.heap.get? b = some o → h'.get? b = some o) → EP X pins σ Q (.str d.shown u') { s with heap := h', toks := tk } := fun h' u' tk k => ⟨.str d.shown, H, I.kept k, ⟨u', rfl⟩, q⟩
  cases hd with
  | non =>
    cases ru
    refine P.repr_of_none ?_
    simpa [PyData.shown] using fin s.heap s.toks (s.toks + 1) fun _ _ e => e
  | bl b =>
    cases ru
    refine P.repr_of_bool ?_
    simpa [PyData.shown] using fin s.heap s.toks (s.toks + 1) fun _ _ e => e
  | int i =>
    obtain ⟨t, rfl⟩ := ru
    refine P.repr_of_int (by simpa [PyData.showable] using hs) ?_
    simpa [PyData.shown] using fin s.heap s.toks (s.toks + 1) fun _ _ e => e
  | str z =>
    obtain ⟨t, rfl⟩ := ru
    refine P.repr_of_str ?_ (by simpa only [PyData.shown] using hz)
    simpa [PyData.shown] using fin s.heap s.toks (s.toks + 1) fun _ _ e => e
  | lst _ _ => cases ru; exact repr_of_reads' rd hs sm hr.g hu (fun _ _ e => e) fin hz
  | tup _ _ => cases ru; exact repr_of_reads' rd hs sm hr.g hu (fun _ _ e => e) fin hz
  | dic _ => cases ru; exact repr_of_reads' rd hs sm hr.g hu (fun _ _ e => e) fin hz
end
end EL
namespace EL
open PySem PySem.Spec PyProof.Rows L2
/-! ### the built-in class of data -/
def tyN : PyData → String
  | .none => "NoneType" | .bool _ => "bool" | .int _ => "int" | .str _ => "str" | .list _ => "list" | .tuple _ => "tuple" | .dict _ => "dict"
def tyNs : List String := ["NoneType", "bool", "int", "str", "list", "tuple", "dict"]
theorem tyN_mem (d : PyData) : tyN d ∈ tyNs := by cases d <;> simp [tyN, tyNs]
theorem tyx_of {K : PySem.W.Frag} {H : Hp} {x : V} {d : PyData} (h : Dq K H x d) : TyX K H x (.type (tyN d)) := by
  cases h with
  | non => exact .base .non
  | bl b => exact .base (.bl b)
  | int i => exact .base (.int i)
  | str z => exact .base (.str z)
  | lst hs _ =>
    rcases hs with (e | ⟨o, e⟩) | ⟨o, its, n, e, c, _⟩
    · exact .base (.lst e)
    · exact .base (.frz e)
    · exact .kList e c
  | tup hs _ =>
    rcases hs with (e | ⟨o, e⟩) | ⟨o, its, n, e, c, _⟩
    · exact .base (.tup e)
    · exact .fTuple e
    · exact .kTuple e c
  | dic e => exact .base (.dK e)
theorem kitL_str : ∀ n ∈ tyNs, kitB n "str" = some (decide (n = "str")) := by decide +kernel
theorem kit_str (d : PyData) : kitB (tyN d) "str" = some (decide (tyN d = "str")) := kitL_str _ (tyN_mem d)
theorem kitL_tuple : ∀ n ∈ tyNs, kitB n "tuple" = some (decide (n = "tuple")) := by decide +kernel
theorem kit_tuple (d : PyData) : kitB (tyN d) "tuple" = some (decide (tyN d = "tuple")) := kitL_tuple _ (tyN_mem d)
theorem kitL_list : ∀ n ∈ tyNs, kitB n "list" = some (decide (n = "list")) := by decide +kernel
theorem kit_list (d : PyData) : kitB (tyN d) "list" = some (decide (tyN d = "list")) := kitL_list _ (tyN_mem d)
def isStr (d : PyData) : Bool := decide (tyN d = "str")
def isTup (d : PyData) : Bool := decide (tyN d = "tuple")
/-- isinstance(x, str) and isinstance(x, tuple) of data -/
theorem isi_str {K : PySem.W.Frag} {H : Hp} {x : V} {d : PyData} {Q : VK} (h : Dq K H x d) (q : Q (.bl (isStr d)) H) : rIsi K [x, .ty "str"] H Q := ⟨x, .ty "str", _, _, _, rfl, .ty "str", tyx_of h, kit_ty (kit_str d), q⟩
theorem isi_tup {K : PySem.W.Frag} {H : Hp} {x : V} {d : PyData} {Q : VK} (h : Dq K H x d) (q : Q (.bl (isTup d)) H) : rIsi K [x, .ty "tuple"] H Q := ⟨x, .ty "tuple", _, _, _, rfl, .ty "tuple", tyx_of h, kit_ty (kit_tuple d), q⟩
/-! ### x == text, x of any kind -/
section
variable {A : Around} {s : Shared}
theorem dict_declines (l : Addr) (es : Array DictEntry) (n : Nat) (dd : Option Addr) (sl : Array (Option Value)) (b : Str) (u : Tok) :
    Meets (Builtin.«dict.__eq__» ⟨[.ref l, .str b u], []⟩) (fun _ R s => s.heap.get? l = some { cls := .type "dict", dict := dd, data := .dict es n, slots := sl } ∧ R (.ok (.ret .notImplemented)) s) :=
  .of_wp fun prog w A R s h => by
    obtain ⟨hl, h⟩ := h
    have ty : s.TypeIs (.ref l) "dict" := ⟨_, hl, rfl⟩
    show wpAny _ _ (Builtin.Dict.dictSlotArgs "__eq__" ⟨[.ref l, .str b u], []⟩ >>= _) _ _ s
    refine wpAny_bind ?_
    unfold Builtin.Dict.dictSlotArgs
    refine wpAny_bind (wpAny_notOrdered_dict ty ?_)
    show wpAny _ _ (pure (Value.ref l, Value.str b u)) _ _ s
    refine wpAny_pure ?_
    refine wpAny_bind (wpAny_isInstance (T := "str") (typeIs_str s b u) PySem.F.sub_str_dict ?_)
    simp only [Bool.not_false, if_true]
    exact wpAny_bind (wpAny_rule (wpAny_pure ⟨_, rfl, h⟩))
theorem str_declines (l : Addr) (es : Array DictEntry) (n : Nat) (dd : Option Addr) (sl : Array (Option Value)) (b : Str) (u : Tok) :
    Meets (Builtin.«str.__eq__» ⟨[.str b u, .ref l], []⟩) (fun _ R s => s.heap.get? l = some { cls := .type "dict", dict := dd, data := .dict es n, slots := sl } ∧ R (.ok (.ret .notImplemented)) s) :=
  .of_wp fun prog w A R s h => by
    obtain ⟨hp, g, d, tk, os⟩ := s
    obtain ⟨hl, h⟩ := h
    have look := hl
    wp_walk using wpAny_loadPart' hl, wpAny_load hl
    exact ⟨_, rfl, h⟩
theorem dict_rc {l : Addr} {es : Array DictEntry} {n : Nat} (b : Str) (u : Tok) (hl : ∃ o, s.heap.get? l = some o ∧ o.cls = .type "dict" ∧ o.data = .dict es n) (hu : A.units < cLine) : SeqAt.RcAt A s (.ref l) (.str b u) false := fun prog w E Q h => by
  obtain ⟨⟨cls, dd, data, sl⟩, ho, hc, hd⟩ := hl
  obtain rfl : cls = .type "dict" := hc
  obtain rfl : data = .dict es n := hd
  exact SeqAt.rc_eq_decline_or (k := false) ⟨_, ho, rfl⟩ (typeIs_str s b u) (by decide) PySem.F.sub_str_dict PySem.F.slot_dict_eq PySem.F.slot_str_eq_refl
    (fun _ hq => call_meets PySem.F.slot_dict_eq ⟨_, ho, rfl⟩ PySem.F.entry_dict_eq (PySem.F.args_dict_eq_2 _ _) (dict_declines l es n dd sl b u) ⟨ho, hq⟩)
    (fun _ hq => call_meets PySem.F.slot_str_eq_refl (typeIs_str s b u) PySem.F.entry_str_eq (PySem.F.args_str_eq_2 _ _) (str_declines l es n dd sl b u) ⟨ho, hq⟩)
    (fun _ hq => wpAny_of_eq (rfl : isSame (.ref l) (.str b u) = pure false) hq) (.inr hu) h
end
/-- x == y, y a text, x data of any kind -/
def rEqS (K : PySem.W.Frag) : R2 := fun x y H Q => (∃ d, Dq K H x d) ∧ (∃ z, y = .str z) ∧ Q (.bl (decide (x = y))) H
theorem op_eqS {X : Cx} (hu : X.A.units + 64 < cLine) : OpR X (compareOp .Eq) (rEqS X.K) := by
  intro pins s σ H x y v u Q I rx ry h
  obtain ⟨⟨d, hd⟩, ⟨z, rfl⟩, q⟩ := h
  have hu0 : X.A.units < cLine := by omega
  by_cases hs : scal x (.str z) = true
  · exact op_eq pins s σ H x _ v u Q I rx ry ⟨hs, q⟩
  · obtain ⟨t, rfl⟩ := ry
    have no : ∀ a : Addr, x = .ref a → Q (.bl false) H := fun a e => by
      subst e
      have ne : decide (V.ref a = V.str z) = false := decide_eq_false fun q => nomatch q
      rw [ne] at q; exact q
    cases hd with
    | non => exact absurd rfl hs
    | bl b => exact absurd rfl hs
    | int i => exact absurd rfl hs
    | str w => exact absurd rfl hs
    | lst hq _ =>
      cases rx
      obtain ⟨its, _, ⟨o, n, ho, hc, _, hdd⟩, _⟩ := I.list hq
      exact SeqAt.RcAt.list_str z t ⟨o, ho, hc, n, hdd⟩ hu0 _ _ _ _ ⟨.bl false, H, I, rfl, no _ rfl⟩
    | tup hq _ =>
      cases rx
      obtain ⟨its, _, ⟨o, ho, hc, n, hdd⟩, _⟩ := I.tuple hq
      exact SeqAt.RcAt.tuple_str z t ⟨o, ho, hc, n, hdd⟩ hu0 _ _ _ _ ⟨.bl false, H, I, rfl, no _ rfl⟩
    | dic hq =>
      cases rx
      obtain ⟨_, o, n, ho, hc, hdd⟩ := not_sys I hq
      exact dict_rc z t ⟨o, ho, hc, hdd⟩ hu0 _ _ _ _ ⟨.bl false, H, I, rfl, no _ rfl⟩
/-! ### s.ljust(n, sign) -/
theorem mt_ljust3 {X : Cx} : MtR X "str.ljust" (fun x xs H Q => ∃ (a : Str) (i : Int) (f : Str), x = .str a ∧ xs = [.int i, .str f] ∧ PadOk i = true ∧ f.length = 1 ∧ Q (.str (Txt.ljustF a i (f.cps.getD 0 0))) H) := by
  intro pins s σ H x xs v us Q I rx rs h
  obtain ⟨a, i, f, rfl, rfl, hp, hf, q⟩ := h
  obtain ⟨t, rfl⟩ := rx
  cases rs with
  | cons r1 rs =>
    cases rs with
    | cons r2 rs =>
      cases rs
      obtain ⟨u1, rfl⟩ := r1
      obtain ⟨u2, rfl⟩ := r2
      exact PyProof.Rows.ljust_fill hp hf fun t1 k => ⟨.str (Txt.ljustF a i (f.cps.getD 0 0)), H, I.tok k, ⟨t1, rfl⟩, q⟩
end EL
/-! tuple(zip(a, b)) of two texts of one length: each pair handed out stays in hand. -/
namespace EL
open PySem PySem.Spec PyProof.Rows L2
section
variable {prog : Program} {w : World} {A : Around} {E : Value → Shared → Prop} {s : Shared} {z TI TO T i1 i2 : Addr} {fp1 fp2 : List Addr} {n1 n2 i : Nat} {P1 P2 : Nat → Value → Prop} {St1 St2 : Nat → Heap → Prop} {f : Bool} {oT : Obj}
theorem held_item {Q : Value → Shared → Prop} (S : ZipSep2 z TI TO i1 i2 fp1 fp2) (D1 : Draws prog w A i1 fp1 n1 P1 St1) (D2 : Draws prog w A i2 fp2 n2 P2 St2)
    (hz : IsZipHeld s.heap z TI TO T f) (hT : s.heap.get? T = some oT) (hTI : IsTupOf2 s.heap TI (.ref i1) (.ref i2)) (st1 : St1 i s.heap) (st2 : St2 i s.heap) (lt1 : i < n1) (lt2 : i < n2)
    (hQ : ∀ x1 x2 h' tk, P1 i x1 → P2 i x2 → IsZipHeld h' z TI TO T true → St1 (i + 1) h' → St2 (i + 1) h' → IsTupOf2 h' s.heap.objs.size x1 x2 → h'.objs.size = s.heap.objs.size + 1 →
      (∀ c o, c ≠ z → c ≠ i1 → c ≠ i2 → s.heap.get? c = some o → h'.get? c = some o) → Q (.ref s.heap.objs.size) { s with heap := h', toks := tk }) :
    wpAny (model prog w) A (Builtin.«zip.__next__» ⟨[.ref z], []⟩) (fun fin s' => ∃ v, fin = .done (.ret v) ∧ Q v s') E s := by
  obtain ⟨hp, g, d, tk0, os⟩ := s
  show wpAny _ _ (field (.ref z) 2 >>= _) _ _ _
  refine wpAny_bind (wpAny_field hz rfl (x := .bool false) rfl ?_)
  show wpAny _ _ (field (.ref z) 3 >>= _) _ _ _
  refine wpAny_bind (wpAny_field hz rfl (x := .ref TI) rfl ?_)
  refine wpAny_bind (wpAny_seqItems hTI rfl ?_)
  show wpAny _ _ (Builtin.SmallTypes.ownedTupleIsFree (.ref z) >>= _) _ _ _
  refine wpAny_bind (wpAny_tupleHeld_zip hz hT fun g1 z1 e1 => ?_)
  replace e1 : Heap.SameBut z hp g1 := e1
  simp only [Bool.false_eq_true, if_false]
  refine wpAny_bind ?_
  rw [← Array.forIn_toList]
  simp only [List.forIn_cons, List.forIn_nil]
  refine wpAny_bind (wpAny_bind (wpAny_holding ?_))
  show wpAny _ _ (Builtin.SmallTypes.nextOf (.ref i1) >>= _) _ _ ⟨g1, g, d, tk0, os⟩
  refine wpAny_bind (D1.item i _ _ _ lt1 (D1.over st1 e1 S.zf1) fun x1 g2 tk1 p1 s1 e2 => wpAny_pure ?_)
  replace e2 : Heap.SameBut i1 g1 g2 := e2
  refine wpAny_pure ?_
  refine wpAny_bind (wpAny_bind (wpAny_holding ?_))
  show wpAny _ _ (Builtin.SmallTypes.nextOf (.ref i2) >>= _) _ _ ⟨g2, g, d, tk1, os⟩
  refine wpAny_bind (D2.item i _ _ _ lt2 (D2.over (D2.over st2 e1 S.zf2) e2 S.sep1_2) fun x2 g3 tk2 p2 s2 e3 => wpAny_pure ?_)
  replace e3 : Heap.SameBut i2 g2 g3 := e3
  refine wpAny_pure (wpAny_pure ?_)
  show wpAny _ _ (newTuple [x1, x2] >>= _) _ _ _
  refine wpAny_bind (wpAny_newTuple ?_)
  have sz : g3.objs.size = hp.objs.size := by rw [e3.1, e2.1, e1.1]
  have z3 : IsZipHeld g3 z TI TO T true := e3.extBut _ _ S.zi2 (e2.extBut _ _ S.zi1 z1)
  have kp : ∀ c o, c ≠ z → c ≠ i1 → c ≠ i2 → hp.get? c = some o → g3.get? c = some o := fun c o c0 c1 c2 e => e3.extBut _ _ c2 (e2.extBut _ _ c1 (e1.extBut _ _ c0 e))
  have t1 : St1 (i + 1) g3 := D1.over s1 e3 S.sep2_1
  refine wpAny_pure ⟨_, rfl, ?_⟩
  show Q (.ref g3.objs.size) ⟨g3.push { cls := .type "tuple", data := .seq #[x1, x2] }, g, d, tk2, os⟩
  have hp1 : IsTupOf2 (g3.push { cls := .type "tuple", data := .seq #[x1, x2] }) g3.objs.size x1 x2 := Heap.get?_push_size _ rfl
  have hp2 : (g3.push { cls := .type "tuple", data := .seq #[x1, x2] }).objs.size = g3.objs.size + 1 := Heap.size_push ..
  rw [sz] at hp1 hp2 ⊢
  exact hQ x1 x2 _ tk2 p1 p2 (Heap.get?_push_of_some _ z3) (D1.frame _ _ _ t1 fun b _ o e => Heap.get?_push_of_some _ e) (D2.frame _ _ _ s2 fun b _ o e => Heap.get?_push_of_some _ e) hp1 hp2 fun c o c0 c1 c2 e => Heap.get?_push_of_some _ (kp c o c0 c1 c2 e)
/-- both have come to their ends -/
theorem held_end {Q : Fin → Shared → Prop} (S : ZipSep2 z TI TO i1 i2 fp1 fp2) (D1 : Draws prog w A i1 fp1 n1 P1 St1)
    (hz : IsZipHeld s.heap z TI TO T f) (hT : s.heap.get? T = some oT) (hTI : IsTupOf2 s.heap TI (.ref i1) (.ref i2)) (st1 : St1 n1 s.heap)
    (hE : ∀ h' e, (∀ c o, c ≠ z → c ≠ i1 → c ≠ i2 → s.heap.get? c = some o → h'.get? c = some o) → (∃ o, h'.get? e = some o ∧ o.cls = .type "StopIteration") → E (.ref e) { s with heap := h' }) :
    wpAny (model prog w) A (Builtin.«zip.__next__» ⟨[.ref z], []⟩) Q E s := by
  obtain ⟨hp, g, d, tk0, os⟩ := s
  show wpAny _ _ (field (.ref z) 2 >>= _) _ _ _
  refine wpAny_bind (wpAny_field hz rfl (x := .bool false) rfl ?_)
  show wpAny _ _ (field (.ref z) 3 >>= _) _ _ _
  refine wpAny_bind (wpAny_field hz rfl (x := .ref TI) rfl ?_)
  refine wpAny_bind (wpAny_seqItems hTI rfl ?_)
  show wpAny _ _ (Builtin.SmallTypes.ownedTupleIsFree (.ref z) >>= _) _ _ _
  refine wpAny_bind (wpAny_tupleHeld_zip hz hT fun g1 z1 e1 => ?_)
  replace e1 : Heap.SameBut z hp g1 := e1
  simp only [Bool.false_eq_true, if_false]
  refine wpAny_bind ?_
  rw [← Array.forIn_toList]
  simp only [List.forIn_cons, List.forIn_nil]
  refine wpAny_bind (wpAny_bind (wpAny_holding ?_))
  show wpAny _ _ (Builtin.SmallTypes.nextOf (.ref i1) >>= _) _ _ ⟨g1, g, d, tk0, os⟩
  refine wpAny_bind (D1.done ⟨g1, g, d, tk0, os⟩ _ _ (D1.over st1 e1 S.zf1) fun g2 e e2 he => ?_)
  replace e2 : Heap.ExtBut i1 g1 g2 := e2
  exact hE g2 e (fun c o c0 c1 _ x => e2 _ _ c1 (e1.extBut _ _ c0 x)) he
end
section
variable {prog : Program} {w : World} {A : Around} {E : Value → Shared → Prop} {s : Shared} {z TI TO T i1 i2 : Addr} {fp1 fp2 : List Addr} {n1 n2 i : Nat} {P1 P2 : Nat → Value → Prop} {St1 St2 : Nat → Heap → Prop} {f : Bool} {oT : Obj}
theorem next_held {Q : Option Value → Shared → Prop} (S : ZipSep2 z TI TO i1 i2 fp1 fp2) (D1 : Draws prog w A.in1 i1 fp1 n1 P1 St1) (D2 : Draws prog w A.in1 i2 fp2 n2 P2 St2)
    (hz : IsZipHeld s.heap z TI TO T f) (hT : s.heap.get? T = some oT) (hTI : IsTupOf2 s.heap TI (.ref i1) (.ref i2)) (st1 : St1 i s.heap) (st2 : St2 i s.heap) (lt1 : i < n1) (lt2 : i < n2)
    (hQ : ∀ x1 x2 h' tk, P1 i x1 → P2 i x2 → IsZipHeld h' z TI TO T true → St1 (i + 1) h' → St2 (i + 1) h' → IsTupOf2 h' s.heap.objs.size x1 x2 → h'.objs.size = s.heap.objs.size + 1 →
      (∀ c o, c ≠ z → c ≠ i1 → c ≠ i2 → s.heap.get? c = some o → h'.get? c = some o) → Q (some (.ref s.heap.objs.size)) { s with heap := h', toks := tk }) :
    wpAny (model prog w) A (pyNext (.ref z)) Q E s := by
  have ty : s.TypeIs (.ref z) "zip" := ⟨_, hz, rfl⟩
  unfold pyNext
  exact wpAny_bind (wpAny_attempt (wpAny_callSpecial?_slot (name := Str.ofString "__next__") ty PySem.F.slot_zip_next
    (wpAny_call_entry PySem.F.slot_zip_next ty PySem.F.entry_zip_next
      (held_item S D1 D2 hz hT hTI st1 st2 lt1 lt2 fun x1 x2 h' tk a b c d e f g k => wpAny_pure (hQ x1 x2 h' tk a b c d e f g k)) (PySem.F.args_zip_next_1 _))))
theorem next_held_end {Q : Option Value → Shared → Prop} (S : ZipSep2 z TI TO i1 i2 fp1 fp2) (D1 : Draws prog w A.in1 i1 fp1 n1 P1 St1)
    (hz : IsZipHeld s.heap z TI TO T f) (hT : s.heap.get? T = some oT) (hTI : IsTupOf2 s.heap TI (.ref i1) (.ref i2)) (st1 : St1 n1 s.heap)
    (hQ : ∀ h', (∀ c o, c ≠ z → c ≠ i1 → c ≠ i2 → s.heap.get? c = some o → h'.get? c = some o) → Q none { s with heap := h' }) : wpAny (model prog w) A (pyNext (.ref z)) Q E s := by
  have ty : s.TypeIs (.ref z) "zip" := ⟨_, hz, rfl⟩
  unfold pyNext
  refine wpAny_bind (wpAny_attempt (wpAny_callSpecial?_slot (name := Str.ofString "__next__") ty PySem.F.slot_zip_next
    (wpAny_call_entry PySem.F.slot_zip_next ty PySem.F.entry_zip_next (held_end S D1 hz hT hTI st1 fun h' e hk he => ?_) (PySem.F.args_zip_next_1 _))))
  obtain ⟨o, ho, hc⟩ := he
  refine wpAny_bind (wpAny_isInstance (T := "StopIteration") (b := true) ⟨o, ho, hc⟩ isSubtype_stop ?_)
  exact wpAny_pure (hQ _ hk)
end
end EL
namespace EL
open PySem PySem.Spec PyProof.Rows L2
/-- the items so far: pairs of signs, each a tuple of its own -/
def PairsAt (a b : Str) (acc : Array Value) (no : List Addr) (lo : Nat) (h : Heap) : Prop :=
  ∀ (j : Nat) (v : Value), acc[j]? = some v → ∃ (T : Addr) (c1 c2 : Nat) (t1 t2 : Tok), v = Value.ref T ∧ T ∉ no ∧ lo ≤ T ∧ IsTupOf2 h T (.str ⟨#[c1]⟩ t1) (.str ⟨#[c2]⟩ t2) ∧ a.cps[j]? = some c1 ∧ b.cps[j]? = some c2
theorem PairsAt.keep {a b : Str} {acc : Array Value} {no : List Addr} {lo : Nat} {h h' : Heap} (x : PairsAt a b acc no lo h) (k : ∀ c o, c ∉ no → h.get? c = some o → h'.get? c = some o) : PairsAt a b acc no lo h' := fun j v e => by
  obtain ⟨T, c1, c2, t1, t2, e1, e2, e0, e3, e4⟩ := x j v e
  exact ⟨T, c1, c2, t1, t2, e1, e2, e0, k T _ e2 e3, e4⟩
/-- the zip, its cells, the list that is filled -/
structure ZS (z TI TO i1 i2 S : Addr) (a b : Str) (ta tb : Tok) (h0 : Heap) (i : Nat) (acc : Array Value) (h : Heap) : Prop where
  zip : (i = 0 ∧ IsZip h z TI TO .none) ∨ ∃ T f oT, IsZipHeld h z TI TO T f ∧ h.get? T = some oT ∧ T ∉ [z, TO, i1, i2, S]
  ti : IsTupOf2 h TI (.ref i1) (.ref i2)
  tot : ∃ a1 a2, IsTupOf2 h TO a1 a2
  s1 : h.IsStrIter i1 (strIterType a) a ta i
  s2 : h.IsStrIter i2 (strIterType b) b tb i
  lst : ∃ c, h.get? S = some { cls := .type "list", dict := none, data := .seq acc c, slots := #[] }
  size : acc.size = i
  its : PairsAt a b acc [z, TO, i1, i2, S] h0.objs.size h
  old : ∀ c o, h0.get? c = some o → h.get? c = some o
section
variable {prog : Program} {w : World} {A : Around} {z TI TO i1 i2 S : Addr} {a b : Str} {ta tb : Tok} {h0 : Heap}
theorem zs_step {i : Nat} {acc : Array Value} {h h' : Heap} {T T0 : Addr} {c1 c2 : Nat} {t1 t2 : Tok} {f : Bool} (Z : ZS z TI TO i1 i2 S a b ta tb h0 i acc h) (sep : ZipSep2 z TI TO i1 i2 [i1] [i2]) (hS : S ∉ [z, TI, TO, i1, i2]) (hn : ∀ c ∈ [z, TI, TO, i1, i2, S], h0.objs.size ≤ c) (hT : h.objs.size ≤ T)
    (hz : IsZipHeld h' z TI TO T0 f) (hT0 : T0 = T ∨ (∃ o, h.get? T0 = some o) ∧ T0 ∉ [z, TO, i1, i2, S]) (tot : ∃ a1 a2, IsTupOf2 h' TO a1 a2) (n1 : h'.IsStrIter i1 (strIterType a) a ta (i + 1)) (n2 : h'.IsStrIter i2 (strIterType b) b tb (i + 1)) (nt : IsTupOf2 h' T (.str ⟨#[c1]⟩ t1) (.str ⟨#[c2]⟩ t2))
    (e1 : a.cps[i]? = some c1) (e2 : b.cps[i]? = some c2) (k : ∀ c o, c ≠ z → c ≠ TO → c ≠ i1 → c ≠ i2 → h.get? c = some o → h'.get? c = some o) :
    (∃ c, h'.get? S = some { cls := .type "list", dict := none, data := .seq acc c, slots := #[] }) ∧ ∀ h'' : Heap, (∃ c, h''.get? S = some { cls := .type "list", dict := none, data := .seq (acc.push (.ref T)) c, slots := #[] }) →
      (∀ c o, c ≠ S → h'.get? c = some o → h''.get? c = some o) → ZS z TI TO i1 i2 S a b ta tb h0 (i + 1) (acc.push (.ref T)) h'' := by
  simp only [List.mem_cons, List.not_mem_nil, or_false, not_or] at hS
  obtain ⟨hS1, hS2, hS3, hS4, hS5⟩ := hS
  obtain ⟨cS, lS⟩ := Z.lst
  have lt : ∀ {c o}, h.get? c = some o → T ≠ c := fun e q => by subst q; exact absurd (Heap.lt_size e) (Nat.not_lt.mpr hT)
  obtain ⟨o1, ho1, _⟩ := Z.s1
  obtain ⟨o2, ho2, _⟩ := Z.s2
  obtain ⟨y1, y2, hto⟩ := Z.tot
  have zin : ∃ o, h.get? z = some o := by
    rcases Z.zip with ⟨_, q⟩ | ⟨_, _, _, q, _⟩ <;> exact ⟨_, q⟩
  obtain ⟨oz, hoz⟩ := zin
  have Tn : T ∉ [z, TO, i1, i2, S] := by
    simp only [List.mem_cons, List.not_mem_nil, or_false, not_or]
    exact ⟨lt hoz, lt hto, lt ho1, lt ho2, lt lS⟩
  have TS : T ≠ S := lt lS
  refine ⟨⟨cS, k S _ hS1 hS3 hS4 hS5 lS⟩, fun h'' l'' k'' => ?_⟩
  have kk : ∀ c o, c ∉ [z, TO, i1, i2, S] → h.get? c = some o → h''.get? c = some o := fun c o hc e => by
    simp only [List.mem_cons, List.not_mem_nil, or_false, not_or] at hc
    exact k'' c o hc.2.2.2.2 (k c o hc.1 hc.2.1 hc.2.2.1 hc.2.2.2.1 e)
  have held : ∃ T f oT, IsZipHeld h'' z TI TO T f ∧ h''.get? T = some oT ∧ T ∉ [z, TO, i1, i2, S] := by
    rcases hT0 with e | ⟨⟨o, e⟩, m⟩
    · subst e
      exact ⟨T0, f, _, k'' z _ (Ne.symm hS1) hz, k'' T0 _ TS nt, Tn⟩
    · exact ⟨T0, f, _, k'' z _ (Ne.symm hS1) hz, kk T0 o m e, m⟩
  refine ⟨.inr held, k'' TI _ (Ne.symm hS2) (k TI _ sep.TIz sep.TITO sep.TIi1 sep.TIi2 Z.ti), ?_, ?_, ?_, l'', ?_, ?_, fun c o e => ?_⟩
  · obtain ⟨a1, a2, q⟩ := tot
    exact ⟨a1, a2, k'' TO _ (Ne.symm hS3) q⟩
  · obtain ⟨o, q, r⟩ := n1
    exact ⟨o, k'' i1 _ (Ne.symm hS4) q, r⟩
  · obtain ⟨o, q, r⟩ := n2
    exact ⟨o, k'' i2 _ (Ne.symm hS5) q, r⟩
  · rw [Array.size_push, Z.size]
  · intro j v e
    rw [Array.getElem?_push] at e
    split at e
    · rename_i q
      rw [Z.size] at q
      obtain rfl := Option.some.inj e
      subst q
      exact ⟨T, c1, c2, t1, t2, rfl, Tn, Nat.le_trans (Nat.le_trans (hn z List.mem_cons_self) (Nat.le_of_lt (Heap.lt_size hoz))) hT, k'' T _ TS nt, e1, e2⟩
    · exact (Z.its.keep kk) j v e
  · refine kk c o (fun m => ?_) (Z.old c o e)
    have q := hn c (by simp only [List.mem_cons, List.not_mem_nil, or_false] at m ⊢; rcases m with m | m | m | m | m <;> simp [m])
    exact absurd (Heap.lt_size e) (Nat.not_lt.mpr q)
theorem zip_loop {R : Result → Shared → Prop} {n : Nat} {res : Value} (hh : A.handled = none) (ha : a.cps.size = n) (hb : b.cps.size = n) (hn : n < sizeLine) (sep : ZipSep2 z TI TO i1 i2 [i1] [i2]) (hS : S ∉ [z, TI, TO, i1, i2]) (hn0 : ∀ c ∈ [z, TI, TO, i1, i2, S], h0.objs.size ≤ c) :
    ∀ (k i : Nat) (s : Shared) (acc : Array Value), n - i = k → i ≤ n → ZS z TI TO i1 i2 S a b ta tb h0 i acc s.heap →
      (∀ acc' h' tk, acc'.size = n → PairsAt a b acc' [z, TO, i1, i2, S] h0.objs.size h' → (∃ c, h'.get? S = some { cls := .type "list", dict := none, data := .seq acc' c, slots := #[] }) → (∀ c o, h0.get? c = some o → h'.get? c = some o) → R (.ok (.ret res)) { s with heap := h', toks := tk }) →
      codeAny (model prog w) A (.builtin "list.extend.loop" ⟨[.ref S, .ref z, res], []⟩) R s := by
  have D1 : Draws prog w A.in1.in1 i1 [i1] a.cps.size _ _ := Draws.text (A := A.in1.in1) hh i1 a ta
  have D2 : Draws prog w A.in1.in1 i2 [i2] b.cps.size _ _ := Draws.text (A := A.in1.in1) hh i2 b tb
  rw [ha] at D1
  rw [hb] at D2
  have hS' := hS
  simp only [List.mem_cons, List.not_mem_nil, or_false, not_or] at hS'
  obtain ⟨hS1, hS2, hS3, hS4, hS5⟩ := hS'
  intro k
  induction k with
  | zero =>
    intro i s acc hk hi Z hR
    have hin : i = n := by omega
    subst hin
    refine codeAny_builtin PySem.F.entry_extend_loop ?_
    rw [Around.under_plainId PySem.F.plain_extend_loop _]
    show wpAny _ A.in1 (pyNext (.ref z) >>= _) _ _ s
    have fin : ∀ h' tk, (∀ c o, c ≠ z → c ≠ TO → c ≠ i1 → c ≠ i2 → s.heap.get? c = some o → h'.get? c = some o) → R (.ok (.ret res)) { s with heap := h', toks := tk } := fun h' tk kp => by
      have kk : ∀ c o, c ∉ [z, TO, i1, i2, S] → s.heap.get? c = some o → h'.get? c = some o := fun c o hc e => by
        simp only [List.mem_cons, List.not_mem_nil, or_false, not_or] at hc
        exact kp c o hc.1 hc.2.1 hc.2.2.1 hc.2.2.2.1 e
      obtain ⟨cS, lS⟩ := Z.lst
      refine hR acc h' tk Z.size (Z.its.keep kk) ⟨cS, kp S _ hS1 hS3 hS4 hS5 lS⟩ fun c o e => kk c o (fun m => ?_) (Z.old c o e)
      have q := hn0 c (by simp only [List.mem_cons, List.not_mem_nil, or_false] at m ⊢; rcases m with m | m | m | m | m <;> simp [m])
      exact absurd (Heap.lt_size e) (Nat.not_lt.mpr q)
    rcases Z.zip with ⟨_, hz⟩ | ⟨T, f, oT, hz, hT, hTn⟩
    · obtain ⟨y1, y2, hto⟩ := Z.tot
      exact wpAny_bind (wpAny_pyNext_zipD2_end sep D1 D2 hz Z.ti hto Z.s1 Z.s2 (Nat.le_refl _) (Nat.le_refl _) (.inl rfl) fun h' tk kp => wpAny_pure (fin h' tk kp))
    · exact wpAny_bind (next_held_end sep D1 hz hT Z.ti Z.s1 fun h' kp => wpAny_pure (fin h' s.toks fun c o c0 _ c1 c2 e => kp c o c0 c1 c2 e))
  | succ k ih =>
    intro i s acc hk hi Z hR
    have hlt : i < n := by omega
    refine codeAny_builtin PySem.F.entry_extend_loop ?_
    rw [Around.under_plainId PySem.F.plain_extend_loop _]
    show wpAny _ A.in1 (pyNext (.ref z) >>= _) _ _ s
    have step : ∀ x1 x2 h' tk f T0, (T0 = s.heap.objs.size ∨ (∃ o, s.heap.get? T0 = some o) ∧ T0 ∉ [z, TO, i1, i2, S]) → (∃ c u, a.cps[i]? = some c ∧ x1 = .str ⟨#[c]⟩ u) → (∃ c u, b.cps[i]? = some c ∧ x2 = .str ⟨#[c]⟩ u) → IsZipHeld h' z TI TO T0 f → (∃ a1 a2, IsTupOf2 h' TO a1 a2) →
        h'.IsStrIter i1 (strIterType a) a ta (i + 1) → h'.IsStrIter i2 (strIterType b) b tb (i + 1) → IsTupOf2 h' s.heap.objs.size x1 x2 → (∀ c o, c ≠ z → c ≠ TO → c ≠ i1 → c ≠ i2 → s.heap.get? c = some o → h'.get? c = some o) →
        wpAny (model prog w) A.in1 (updateSeq S (·.push (.ref s.heap.objs.size)) >>= fun _ => again (.builtin "list.extend.loop" ⟨[.ref S, .ref z, res], []⟩)) (fun fin s' => match fin with | .done f => R (.ok f) s' | .again c' => c'.quiet = true ∧ codeAny (model prog w) A c' R s') (fun e s' => R (.error e) s') { s with heap := h', toks := tk } := by
      rintro x1 x2 h' tk f T0 hT0 ⟨c1, t1, e1, rfl⟩ ⟨c2, t2, e2, rfl⟩ hz tot n1 n2 nt kp
      obtain ⟨⟨cS, lS⟩, next⟩ := zs_step Z sep hS hn0 (Nat.le_refl _) hz hT0 tot n1 n2 nt e1 e2 kp
      refine wpAny_bind (wpAny_updateSeq (s := { s with heap := h', toks := tk }) lS rfl (wpAny_pure ⟨plainId_quiet PySem.F.plain_extend_loop _, ?_⟩) (by rw [Z.size]; omega) (by show (acc.push _).size ≤ sizeLine + 1; rw [Array.size_push, Z.size]; omega))
      refine ih (i + 1) _ (acc.push (.ref s.heap.objs.size)) (by omega) hlt (next _ ⟨_, Heap.get?_update_self _ lS rfl⟩ fun c o hc e => (Heap.get?_update_other _ _ (Ne.symm hc)).trans e) fun acc' h2 tk2 y1 y2 y3 y4 => hR acc' h2 tk2 y1 y2 y3 y4
    rcases Z.zip with ⟨_, hz⟩ | ⟨T, f, oT, hz, hT, hTn⟩
    · obtain ⟨y1, y2, hto⟩ := Z.tot
      exact wpAny_bind (wpAny_pyNext_zipD2_item sep D1 D2 hz Z.ti hto Z.s1 Z.s2 hlt hlt fun x1 x2 h' tk p1 p2 q1 q2 q3 q4 q5 _ kp => step x1 x2 h' tk false _ (.inl rfl) p1 p2 q1 ⟨_, _, q2⟩ q3 q4 q5 kp)
    · obtain ⟨y1, y2, hto⟩ := Z.tot
      have zTO := sep.TOz
      exact wpAny_bind (next_held sep D1 D2 hz hT Z.ti Z.s1 Z.s2 hlt hlt fun x1 x2 h' tk p1 p2 q1 q3 q4 q5 _ kp => step x1 x2 h' tk true T (.inr ⟨⟨_, hT⟩, hTn⟩) p1 p2 q1 ⟨_, _, kp TO _ sep.TOz sep.Ti1 sep.Ti2 hto⟩ q3 q4 q5 fun c o c0 _ c1 c2 e => kp c o c0 c1 c2 e)
end
end EL
namespace EL
open PySem PySem.Spec PyProof.Rows L2
theorem zip_len_none : typeLookup (.type "zip") "__len__" = pure none := by rw [typeLookup_type, builtinLookup_eq_fast]; kernel_rfl
theorem zip_hint_none : typeLookup (.type "zip") "__length_hint__" = pure none := by rw [typeLookup_type, builtinLookup_eq_fast]; kernel_rfl
/-- a zip of two texts that was just made over h0 -/
structure ZNew (z TI TO i1 i2 : Addr) (a b : Str) (ta tb : Tok) (h0 h : Heap) : Prop where
  zip : IsZip h z TI TO .none
  ti : IsTupOf2 h TI (.ref i1) (.ref i2)
  tot : IsTupOf2 h TO .none .none
  s1 : h.IsStrIter i1 (strIterType a) a ta 0
  s2 : h.IsStrIter i2 (strIterType b) b tb 0
  old : ∀ c o, h0.get? c = some o → h.get? c = some o
  new : ∀ c ∈ [z, TI, TO, i1, i2], h0.objs.size ≤ c
  le : h0.objs.size ≤ h.objs.size
section
variable {prog : Program} {w : World} {A : Around} {E : Value → Shared → Prop} {s : Shared} {z TI TO i1 i2 : Addr} {a b : Str} {ta tb : Tok} {h0 : Heap} {n : Nat}
theorem collect_zip {Q : List Value → Shared → Prop} (hh : A.handled = none) (ha : a.cps.size = n) (hb : b.cps.size = n) (hn : n < sizeLine) (sep : ZipSep2 z TI TO i1 i2 [i1] [i2]) (Z : ZNew z TI TO i1 i2 a b ta tb h0 s.heap)
    (hQ : ∀ (h' : Heap) (tk : Nat) (acc : Array Value), acc.size = n → (∃ no, PairsAt a b acc no h0.objs.size h') → (∀ c o, h0.get? c = some o → h'.get? c = some o) → h0.objs.size ≤ h'.objs.size → Q acc.toList { s with heap := h', toks := tk }) :
    wpAny (model prog w) A (collect (.ref z)) Q E s := by
  obtain ⟨o1, ho1, r1⟩ := Z.s1
  obtain ⟨o2, ho2, r2⟩ := Z.s2
  have nS : ∀ {c o}, s.heap.get? c = some o → s.heap.objs.size ≠ c := fun e => Nat.ne_of_gt (Heap.lt_size e)
  have hSz := nS Z.zip
  have hSm : s.heap.objs.size ∉ [z, TI, TO, i1, i2] := by
    simp only [List.mem_cons, List.not_mem_nil, or_false, not_or]
    exact ⟨nS Z.zip, nS Z.ti, nS Z.tot, nS ho1, nS ho2⟩
  unfold collect
  refine wpAny_bind (wpAny_runValue (codeAny_builtin PySem.F.entry_proto_collect ?_))
  rw [Around.under_plainId PySem.F.plain_proto_collect _]
  show wpAny _ A.in1 (newList [] >>= fun l => again (.builtin "list.__iadd__" ⟨[l, .ref z], []⟩)) _ _ s
  refine wpAny_bind (wpAny_newObj_type ?_)
  refine wpAny_pure ⟨plainId_quiet PySem.F.plain_list_iadd _, codeAny_builtin PySem.F.entry_list_iadd ?_⟩
  rw [Around.under_plainId PySem.F.plain_list_iadd _]
  generalize hG : s.heap.push { cls := .type "list", data := .seq ([] : List Value).toArray } = G
  have up : ∀ c o, s.heap.get? c = some o → G.get? c = some o := fun c o e => by rw [← hG]; exact Heap.get?_push_of_some _ e
  have lS : G.get? s.heap.objs.size = some { cls := .type "list", data := .seq ([] : List Value).toArray } := by rw [← hG]; exact Heap.get?_push_size _ rfl
  have ty : ({ s with heap := G } : Shared).TypeIs (.ref z) "zip" := ⟨_, up _ _ Z.zip, rfl⟩
  show wpAny _ A.in1 (Builtin.List.listExtendWith (.ref s.heap.objs.size) (.ref z) (.ref s.heap.objs.size)) _ _ _
  unfold Builtin.List.listExtendWith
  refine wpAny_bind (wpAny_typeOf ty ?_)
  have c1 : Builtin.List.listSameRef (.ref s.heap.objs.size) (.ref z) = false := by simp [Builtin.List.listSameRef, hSz]
  have c2 : (Value.type "zip" == Value.type "list") = false := by decide
  have c3 : (Value.type "zip" == Value.type "tuple") = false := by decide
  simp only [c1, c2, c3, Bool.or_false, Bool.false_eq_true, if_false]
  refine wpAny_bind (wpAny_pyIter_zip (s := { s with heap := G }) (up _ _ Z.zip) ?_)
  refine wpAny_bind (wpAny_holding ?_)
  unfold Builtin.List.listLengthHint
  refine wpAny_bind (wpAny_specialOf ty zip_len_none ?_)
  show wpAny _ A.in1 (specialOf (Value.ref z) (Str.ofString "__length_hint__") >>= _) _ _ _
  refine wpAny_bind (wpAny_specialOf ty zip_hint_none ?_)
  refine wpAny_pure ?_
  show wpAny _ A.in1 (rule "list.extend.makes-room" >>= fun _ => Builtin.List.listTouch (.ref s.heap.objs.size) >>= fun _ =>
    again (.builtin "list.extend.loop" ⟨[.ref s.heap.objs.size, .ref z, .ref s.heap.objs.size], []⟩)) _ _ _
  refine wpAny_bind (wpAny_rule (wpAny_bind ?_))
  show wpAny _ A.in1 (updateSeq s.heap.objs.size (·.push .none) >>= fun _ => updateSeq s.heap.objs.size (·.pop)) _ _ _
  refine wpAny_bind (wpAny_updateSeq lS rfl ?_)
  have l2 := Heap.get?_update_self (Obj.mapSeq (·.push Value.none)) lS rfl
  refine wpAny_updateSeq l2 rfl ?_
  have l3 := Heap.get?_update_self (Obj.mapSeq (·.pop)) l2 rfl
  generalize hK : (G.update s.heap.objs.size (Obj.mapSeq (·.push Value.none))).update s.heap.objs.size (Obj.mapSeq (·.pop)) = L at l3
  have oth : ∀ c o, s.heap.get? c = some o → L.get? c = some o := fun c o e => by
    rw [← hK]
    exact (Heap.get?_update_other _ _ (nS e)).trans ((Heap.get?_update_other _ _ (nS e)).trans (up c o e))
  have zs : ZS z TI TO i1 i2 s.heap.objs.size a b ta tb h0 0 #[] L := ⟨.inl ⟨rfl, oth _ _ Z.zip⟩, oth _ _ Z.ti, ⟨_, _, oth _ _ Z.tot⟩, ⟨o1, oth _ _ ho1, r1⟩, ⟨o2, oth _ _ ho2, r2⟩, ⟨_, l3⟩, rfl, fun j v e => by simp at e, fun c o e => oth c o (Z.old c o e)⟩
  refine wpAny_pure ⟨plainId_quiet PySem.F.plain_extend_loop _, zip_loop hh ha hb hn sep hSm (fun c m => ?_) n 0 _ #[] rfl (Nat.zero_le _) zs fun acc h' tk y1 y2 y3 y4 => ?_⟩
  · simp only [List.mem_cons, List.not_mem_nil, or_false] at m
    rcases m with m | m | m | m | m | m
    · exact Z.new c (by simp [m])
    · exact Z.new c (by simp [m])
    · exact Z.new c (by simp [m])
    · exact Z.new c (by simp [m])
    · exact Z.new c (by simp [m])
    · rw [m]; exact Z.le
  · obtain ⟨cS, y3⟩ := y3
    show wpAny _ A (load s.heap.objs.size >>= _) _ _ _
    refine wpAny_bind (wpAny_load y3 ?_)
    exact wpAny_pure (hQ h' tk acc y1 ⟨_, y2⟩ y4 (Nat.le_trans Z.le (Nat.le_of_lt (Heap.lt_size y3))))
theorem tuple_new_zip {Q₁ : Value → Shared → Prop} (hh : A.handled = none) (ha : a.cps.size = n) (hb : b.cps.size = n) (hn : n < sizeLine) (sep : ZipSep2 z TI TO i1 i2 [i1] [i2]) (Z : ZNew z TI TO i1 i2 a b ta tb h0 s.heap)
    (h : ∀ (h' : Heap) (tk : Nat) (acc : Array Value), acc.size = n → (∃ no, PairsAt a b acc no h0.objs.size h') → (∀ c o, h0.get? c = some o → h'.get? c = some o) → h0.objs.size ≤ h'.objs.size →
      Q₁ (.ref h'.objs.size) { s with heap := h'.push { cls := .type "tuple", data := .seq acc }, toks := tk }) :
    codeAny (model prog w) A (.call (.builtin "tuple.__new__") ⟨[.type "tuple", .ref z], []⟩) (wants Q₁ E) s := by
  refine codeAny_of_tree ?_
  show wpAny _ A.in1 (do checkBuiltinCall "tuple.__new__" ⟨[.type "tuple", .ref z], []⟩; again (.builtin "tuple.__new__" ⟨[.type "tuple", .ref z], []⟩)) _ _ s
  refine wpAny_bind (wpAny_of_eq (PySem.F.newCall_tuple_1 _) (wpAny_pure ⟨plainId_quiet PySem.F.plain_tuple_new _, codeAny_builtin PySem.F.entry_tuple_new ?_⟩))
  rw [Around.under_plainId PySem.F.plain_tuple_new _]
  have f1 := sub_tuple_self
  have f2 := init_tuple_lookup
  have f3 := madeHere_tuple
  have ty : s.TypeIs (.ref z) "zip" := ⟨_, Z.zip, rfl⟩
  have hh1 : A.in1.handled = none := hh
  wp_walk using wpAny_typeOf ty, collect_zip (A := A.in1) hh1 ha hb hn sep Z
  intro h' tk acc y1 y2 y3 y4
  show wpAny _ _ (Builtin.Tuple.tupleExact acc.toList.toArray >>= fun v => ret v) _ _ _
  unfold Builtin.Tuple.tupleExact
  refine wpAny_bind (wpAny_newObj_type ?_ (by show acc.toList.toArray.size ≤ sizeLine; simp only [Array.toArray_toList]; rw [y1]; omega))
  refine wpAny_pure ?_
  have e : acc.toList.toArray = acc := by simp
  rw [e]
  exact h h' tk acc y1 y2 y3 y4
theorem call_tuple_zip {Q : Value → Shared → Prop} (hh : A.handled = none) (ha : a.cps.size = n) (hb : b.cps.size = n) (hn : n < sizeLine) (sep : ZipSep2 z TI TO i1 i2 [i1] [i2]) (Z : ZNew z TI TO i1 i2 a b ta tb h0 s.heap)
    (hQ : ∀ (h' : Heap) (tk : Nat) (acc : Array Value), acc.size = n → (∃ no, PairsAt a b acc no h0.objs.size h') → (∀ c o, h0.get? c = some o → h'.get? c = some o) → h0.objs.size ≤ h'.objs.size →
      Q (.ref h'.objs.size) { s with heap := h'.push { cls := .type "tuple", data := .seq acc }, toks := tk }) :
    wpAny (model prog w) A (call (.type "tuple") [.ref z]) Q E s := by
  refine callType_codes (Q₁ := fun obj s₁ => s₁.TypeIs obj "tuple" ∧ Q obj s₁) PySem.F.called_tuple (PySem.F.typeCall_tuple_1 _) PySem.F.entry_object_init
    (tuple_new_zip (A := A.in1) hh ha hb hn sep Z fun h' tk acc y1 y2 y3 y4 => ⟨⟨_, Heap.get?_push_size _ rfl, rfl⟩, hQ h' tk acc y1 y2 y3 y4⟩) fun obj s₁ h₁ => ?_
  exact ⟨h₁.1, PySem.F.args_object_init_2 obj _, object_init_meets PySem.F.called_tuple.init.lookup PySem.F.called_tuple.made (by decide) prog w A.in1 _ s₁ ⟨h₁.1, rfl, h₁.2⟩⟩
end

/-! ### the rule -/
open Classical in
/-- what is tracked of a new pair of signs -/
noncomputable def pairHO (h : Heap) (c : Addr) : Option HO :=
  if x : ∃ q : Nat × Nat × Tok × Tok, IsTupOf2 h c (.str ⟨#[q.1]⟩ q.2.2.1) (.str ⟨#[q.2.1]⟩ q.2.2.2) then some (.tup [.str ⟨#[(Classical.choose x).1]⟩, .str ⟨#[(Classical.choose x).2.1]⟩]) else none
theorem pairHO_at {h : Heap} {c : Addr} {c1 c2 : Nat} {t1 t2 : Tok} (e : IsTupOf2 h c (.str ⟨#[c1]⟩ t1) (.str ⟨#[c2]⟩ t2)) : pairHO h c = some (.tup [.str ⟨#[c1]⟩, .str ⟨#[c2]⟩]) := by
  have x : ∃ q : Nat × Nat × Tok × Tok, IsTupOf2 h c (.str ⟨#[q.1]⟩ q.2.2.1) (.str ⟨#[q.2.1]⟩ q.2.2.2) := ⟨(c1, c2, t1, t2), e⟩
  have sp := Classical.choose_spec x
  unfold pairHO
  rw [dif_pos x]
  generalize Classical.choose x = q at sp
  have e2 : some ({ cls := .type "tuple", data := .seq #[Value.str ⟨#[c1]⟩ t1, Value.str ⟨#[c2]⟩ t2] } : Obj) = some { cls := .type "tuple", data := .seq #[Value.str ⟨#[q.1]⟩ q.2.2.1, Value.str ⟨#[q.2.1]⟩ q.2.2.2] } := e.symm.trans sp
  simp only [Option.some.injEq, Obj.mk.injEq, Data.seq.injEq, Array.mk.injEq, List.cons.injEq, Value.str.injEq, Str.mk.injEq, and_true, true_and] at e2
  obtain ⟨⟨e3, _⟩, e4, _⟩ := e2
  rw [e3, e4]
theorem pairHO_ok {P : Program} {w : World} {H : Hp} {h : Heap} {c : Addr} {o : HO} (e : pairHO h c = some o) : ObjOk P w H h c o := by
  unfold pairHO at e
  split at e
  · rename_i x
    have sp := Classical.choose_spec x
    generalize Classical.choose x = q at sp e
    obtain rfl := Option.some.inj e
    exact ⟨len_sz (by show 2 ≤ 1000000; decide), [.str ⟨#[q.1]⟩ q.2.2.1, .str ⟨#[q.2.1]⟩ q.2.2.2], .cons ⟨_, rfl⟩ (.cons ⟨_, rfl⟩ .nil), ⟨_, sp, rfl, _, rfl⟩⟩
  · cases e
/-- the pairs of two texts, sign beside sign -/
def pairsD : List Nat → List Nat → List PyData
  | c :: r, d :: q => .tuple [.str ⟨#[c]⟩, .str ⟨#[d]⟩] :: pairsD r q
  | _, _ => []
theorem pairsD_get : ∀ (xs ys : List Nat) (i : Nat) (c d : Nat), xs[i]? = some c → ys[i]? = some d → (pairsD xs ys)[i]? = some (.tuple [.str ⟨#[c]⟩, .str ⟨#[d]⟩])
  | [], _, _, _, _, h, _ => by simp at h
  | _ :: _, [], _, _, _, _, h => by simp at h
  | x :: xs, y :: ys, 0, c, d, h1, h2 => by
    simp at h1 h2; subst h1 h2; rfl
  | x :: xs, y :: ys, i + 1, c, d, h1, h2 => pairsD_get xs ys i c d (by simpa using h1) (by simpa using h2)
theorem pairsD_len : ∀ xs ys : List Nat, xs.length = ys.length → (pairsD xs ys).length = xs.length
  | [], [], _ => rfl
  | [], _ :: _, h => by simp at h
  | _ :: _, [], h => by simp at h
  | x :: xs, y :: ys, h => by
    show (pairsD xs ys).length + 1 = xs.length + 1
    rw [pairsD_len xs ys (by simpa using h)]
theorem dqAll_of {K : PySem.W.Frag} {H : Hp} : ∀ {vs : List V} {ds : List PyData}, vs.length = ds.length → (∀ (i : Nat) (v : V) (d : PyData), vs[i]? = some v → ds[i]? = some d → Dq K H v d) → DqAll K H vs ds
  | [], [], _, _ => .nil
  | [], _ :: _, h, _ => by simp at h
  | _ :: _, [], h, _ => by simp at h
  | v :: vs, d :: ds, h, f => .cons (f 0 v d rfl rfl) (dqAll_of (by simpa using h) fun i v' d' h1 h2 => f (i + 1) v' d' (by simpa using h1) (by simpa using h2))
def tTZ (K : PySem.W.Frag) (ta tb : TE) : TE := fun σ H Q => ta σ H fun x H1 => tb σ H1 fun y H2 => ∃ a b : Str, x = .str a ∧ y = .str b ∧ a.cps.size = b.cps.size ∧ a.cps.size ≤ 1000000 ∧
  ∀ p H3, Same H2 H3 → Dq K H3 (.ref p) (.tuple (pairsD a.cps.toList b.cps.toList)) → Q (.ref p) H3
section
variable {X : Cx} {pins : List (Addr × Obj)} {σ : L2.St} {H : Hp} {s : Shared}
theorem track_pairs {a b : Str} {no : List Addr} {acc : Array Value} {h' : Heap} {tk : Nat} (I : Inv X pins σ H s) (hab : a.cps.size = b.cps.size) (hl : a.cps.size ≤ 1000000) (hacc : acc.size = a.cps.size) (pa : PairsAt a b acc no s.heap.objs.size h')
    (old : ∀ c o, s.heap.get? c = some o → h'.get? c = some o) (le : s.heap.objs.size ≤ h'.objs.size) :
    ∃ H3, Same H H3 ∧ Dq X.K H3 (.ref h'.objs.size) (.tuple (pairsD a.cps.toList b.cps.toList)) ∧ Inv X pins σ H3 { s with heap := h'.push { cls := .type "tuple", data := .seq acc }, toks := tk } := by
  generalize hG : h'.push { cls := .type "tuple", data := .seq acc } = G
  have up : ∀ c o, h'.get? c = some o → G.get? c = some o := fun c o e => by rw [← hG]; exact Heap.get?_push_of_some _ e
  have gp : G.get? h'.objs.size = some { cls := .type "tuple", data := .seq acc } := by rw [← hG]; exact Heap.get?_push_size _ rfl
  have old2 : ∀ c o, s.heap.get? c = some o → G.get? c = some o := fun c o e => up c o (old c o e)
  have lenA : acc.size = (pairsD a.cps.toList b.cps.toList).length := by
    rw [pairsD_len _ _ (by rw [Array.length_toList, Array.length_toList]; exact hab), Array.length_toList]; exact hacc
  obtain ⟨vs, hv⟩ : ∃ vs : List V, Vals vs acc.toList := by
    have key : ∀ l : List Value, (∀ v ∈ l, ∃ T, v = Value.ref T) → ∃ vs : List V, Vals vs l := by
      intro l
      induction l with
      | nil => exact fun _ => ⟨[], .nil⟩
      | cons v l ih =>
        intro f
        obtain ⟨T, e⟩ := f v List.mem_cons_self
        obtain ⟨vs, q⟩ := ih fun v hv => f v (List.mem_cons_of_mem _ hv)
        exact ⟨.ref T :: vs, .cons e q⟩
    refine key _ fun v hm => ?_
    obtain ⟨j, hj⟩ := List.mem_iff_getElem?.mp hm
    obtain ⟨T, _, _, _, _, e, _⟩ := pa j v (by rw [← Array.getElem?_toList]; exact hj)
    exact ⟨T, e⟩
  have lenV : vs.length = acc.size := by rw [hv.length, Array.length_toList]
  let H3 : Hp := fun c => if c < s.heap.objs.size then H c else if c = h'.objs.size then some (.tup vs) else pairHO h' c
  have lo : ∀ c, c < s.heap.objs.size → H3 c = H c := fun c q => if_pos q
  have hp : H3 h'.objs.size = some (.tup vs) := by
    show (if _ then _ else _) = _
    rw [if_neg (Nat.not_lt.mpr le), if_pos rfl]
  have hpair : ∀ T c1 c2 t1 t2, s.heap.objs.size ≤ T → IsTupOf2 h' T (.str ⟨#[c1]⟩ t1) (.str ⟨#[c2]⟩ t2) → H3 T = some (.tup [.str ⟨#[c1]⟩, .str ⟨#[c2]⟩]) := fun T c1 c2 t1 t2 q e => by
    show (if _ then _ else _) = _
    rw [if_neg (Nat.not_lt.mpr q), if_neg (Nat.ne_of_lt (Heap.lt_size e))]
    exact pairHO_at e
  have sm : Same H H3 := fun c o e => by rw [lo c (I.hok.lt e)]; exact e
  have ok : HOk X.prog X.w H3 G := by
    intro c o e
    by_cases q : c < s.heap.objs.size
    · rw [lo c q] at e
      exact (I.hok c o e).stay (fun d u _ hd => old2 d u hd) (fun d hd => sm _ _ hd) fun d xs hd => sm _ _ hd
    · by_cases q2 : c = h'.objs.size
      · subst q2
        rw [hp] at e
        obtain rfl := Option.some.inj e
        exact ⟨len_sz (by rw [lenV, hacc]; exact hl), acc.toList, hv, ⟨_, gp, rfl, _, by simp; rfl⟩⟩
      · have e' : pairHO h' c = some o := by
          have z : H3 c = pairHO h' c := by
            show (if _ then _ else _) = _
            rw [if_neg q, if_neg q2]
          rw [← z]; exact e
        exact (pairHO_ok (P := X.prog) (w := X.w) (H := fun _ => none) e').stay (fun d u hd z => up d u z) (fun d hd => nomatch hd) fun d xs hd => nomatch hd
  refine ⟨H3, sm, .tup (stOf hp) (dqAll_of (by rw [lenV]; exact lenA) fun i v d hvi hdi => ?_), I.un ?_ ok⟩
  · obtain ⟨u, hu, ru⟩ := hv.get hvi
    obtain ⟨T, c1, c2, t1, t2, e, _, q, e3, e4, e5⟩ := pa i u (by rw [← Array.getElem?_toList]; exact hu)
    subst e
    have ev : v = .ref T := by
      cases v <;> simp [L2.RelV] at ru
      rw [ru]
    subst ev
    have hd : d = .tuple [.str ⟨#[c1]⟩, .str ⟨#[c2]⟩] := by
      have z := pairsD_get a.cps.toList b.cps.toList i c1 c2 (by rw [Array.getElem?_toList]; exact e4) (by rw [Array.getElem?_toList]; exact e5)
      rw [hdi] at z; exact Option.some.inj z
    subst hd
    exact .tup (stOf (hpair T c1 c2 t1 t2 q e3)) (.cons (.str _) (.cons (.str _) .nil))
  · have lt : ∀ {c o}, s.heap.get? c = some o → c < s.heap.objs.size := fun e => Heap.lt_size e
    exact ⟨fun c o e _ _ _ => old2 c o e, fun c o e _ _ _ => ⟨o.slots, old2 c o e⟩, fun c o e n _ => by rw [lo c (lt e)]; exact n, fun c o e _ => ⟨o, old2 c o e⟩, fun c xs e => sm _ _ e, fun c o u e => sm _ _ e, fun c ps e => ⟨#[], by rw [sm _ _ e]; simp⟩⟩
end
/-- what tuple(zip(..)) asks of its two values -/
def tzQ (K : PySem.W.Frag) (Q : VK) : List V → Hp → Prop := fun vs H2 => match vs with
  | [x, y] => ∃ a b : Str, x = .str a ∧ y = .str b ∧ a.cps.size = b.cps.size ∧ a.cps.size ≤ 1000000 ∧ ∀ p H3, Same H2 H3 → Dq K H3 (.ref p) (.tuple (pairsD a.cps.toList b.cps.toList)) → Q (.ref p) H3
  | _ => False
theorem tzQ_of {K : PySem.W.Frag} {Q : VK} {vs : List V} {H2 : Hp} (h : tzQ K Q vs H2) : ∃ a b : Str, vs = [.str a, .str b] ∧ a.cps.size = b.cps.size ∧ a.cps.size ≤ 1000000 ∧ ∀ p H3, Same H2 H3 → Dq K H3 (.ref p) (.tuple (pairsD a.cps.toList b.cps.toList)) → Q (.ref p) H3 := by
  unfold tzQ at h
  split at h
  · obtain ⟨a, b, rfl, rfl, r⟩ := h
    exact ⟨a, b, rfl, r⟩
  · exact h.elim
section
variable {X : Cx} {e1 e2 : Expr} {ta tb : TE} {p1 p2 pos1 pos2 : Pos}
/-- tuple(zip(e1, e2)) of two texts of one length -/
theorem pe_tupzip (hc : X.calm = true) (nt : X.mg "tuple" = none) (nz : X.mg "zip" = none) (h1 : PE X e1 ta) (h2 : PE X e2 tb) (gt : Gl X "tuple" := by rfl) (gz : Gl X "zip" := by rfl)
    (he : starEach [e1, e2] X.env = (false, eval e1 X.env) :: starEach [e2] X.env := by rfl) (he2 : starEach [e2] X.env = (false, eval e2 X.env) :: starEach [] X.env := by rfl) (hpl : (backTo pos2 (starEach [e2] X.env)).any (·.1) = false := by rfl)
    (ho : starEach [(Expr.Call (.Name "zip" p2) [e1, e2] [] pos2)] X.env = (false, eval (.Call (.Name "zip" p2) [e1, e2] [] pos2) X.env) :: starEach [] X.env := by rfl) (hpo : (backTo pos1 (starEach [] X.env)).any (·.1) = false := by rfl) :
    PE X (.Call (.Name "tuple" p1) [.Call (.Name "zip" p2) [e1, e2] [] pos2] [] pos1) (tTZ X.K ta tb) := by
  refine ⟨fun pins s σ H Q I h => ?_⟩
  refine wpAny_Call_Name_kw (ld_blt I gt nt PyProof.Rows.boot_tuple ?_)
  refine PyProof.Rows.callWith_type1 ?_ ho hpo
  rw [ho]
  show wpAny _ _ (spliced ((false, _) :: backTo pos1 (starEach [] X.env))) _ _ s
  refine Calls.spliced_cons ?_
  refine wpAny_Call_Name_kw (ld_blt I gz nz PyProof.Rows.boot_zip ?_)
  refine PyProof.Rows.callWith_type1 (thn ((pa_cons h1 (pa_cons h2 pa_nil he2) he).run pos2 pins s σ H (tzQ X.K Q) I h) fun us s1 hh => ?_) he hpl
  obtain ⟨vs, H1, I1, r1, q1⟩ := hh
  obtain ⟨a, b, rfl, hab, hl, q⟩ := tzQ_of q1
  obtain ⟨ta1, tb1, rfl⟩ : ∃ t u, us = [.str a t, .str b u] := by
    cases r1 with
    | cons x1 r =>
      cases r with
      | cons x2 r =>
        cases r
        obtain ⟨t, rfl⟩ := x1
        obtain ⟨u, rfl⟩ := x2
        exact ⟨t, u, rfl⟩
  obtain ⟨hp, g, d, tk0, os⟩ := s1
  refine zip_begins2 (begins_text a ta1) (begins_text b tb1) trivial trivial fun h' z1 z2 z3 z4 z5 z6 z7 => ?_
  have sep : ZipSep2 (hp.objs.size + 4) (hp.objs.size + 2) (hp.objs.size + 3) hp.objs.size (hp.objs.size + 1) [hp.objs.size] [hp.objs.size + 1] := zip_sep2 (fun _ m => (List.not_mem_nil m).elim) fun _ m => (List.not_mem_nil m).elim
  have Z : ZNew (hp.objs.size + 4) (hp.objs.size + 2) (hp.objs.size + 3) hp.objs.size (hp.objs.size + 1) a b ta1 tb1 hp h' := ⟨z1, z2, z3, ⟨_, z4, rfl, rfl⟩, ⟨_, z5, rfl, rfl⟩, z7, fun c m => (by
    simp only [List.mem_cons, List.not_mem_nil, or_false] at m
    rcases m with m | m | m | m | m <;> rw [m] <;> first | exact Nat.le_refl _ | exact Nat.le_add_right _ _), (by rw [z6]; exact Nat.le_add_right _ _)⟩
  show wpAny _ _ (spliced (backTo pos1 (starEach [] X.env))) _ _ _
  refine Calls.spliced_nil ?_
  have hh : X.A.handled = none := I1.ok.hd hc
  refine call_tuple_zip (s := ⟨h', g, d, tk0, os⟩) (n := a.cps.size) hh rfl hab.symm (lt_sz hl) sep Z fun h2 tk acc y1 y2 y3 y4 => ?_
  obtain ⟨no, pa⟩ := y2
  obtain ⟨H3, sm, dq, J⟩ := track_pairs (tk := tk) I1 hab hl y1 pa y3 y4
  exact ⟨.ref h2.objs.size, H3, J, rfl, q _ H3 sm dq⟩
end
end EL
namespace EL
open PySem PySem.Spec PyProof.Rows L2
/-! ### f(k = v, ..): keywords alone -/
section
variable {X : Cx} {k : Nat} {x : Str} {ps ks : List Str} {sp : Sp} {E : XK} {kws : List Keyword} {tk : TA} {p pos : Pos} {g : List Value → List Value → List Value} {gV : List V → List V → List V}
theorem pe_calK0 (C : Cal X.prog X.w X.K X.mg X.base k x ps sp) (hr : Room k X.A) (hg : Gl X x) (kb : KBinds X.K C.fd ps ks g gV) (hx : Passes CX0 X E) (hkw : PK X kws tk)
    (hall : (backToKw pos (keywordEach kws X.env)).all (·.1.isSome) = true := by rfl) (hks : (backToKw pos (keywordEach kws X.env)).filterMap (·.1) = ks := by rfl) (hdb : (x == ("__debug__" : Str)) = false := by decide)
    (hpl : ((backTo pos (starEach [] X.env)).any (·.1) || (backToKw pos (keywordEach kws X.env)).any (·.1.isNone)) = false := by rfl) :
    PE X (.Call (.Name x p) [] kws pos) (fun σ H Q => tk σ H fun zs H2 => sp (gV [] zs) H2 Q E) := by
  refine ⟨fun pins s σ H Q I h => wpAny_Call_Name_kw (ld_glob I hg C.g ?_ hdb)⟩
  refine PySem.W.callWith_KW0 (h₀ := X.base) I.ok.mod.kin C.kp hall (thn (hkw.run pos pins s σ H _ I h) fun ws s1 hh => ?_) hpl
  obtain ⟨zs, H1, I1, rz, q⟩ := hh
  refine ⟨I1.kIn, ?_⟩
  rw [hks]
  exact run_fnk C.ok hr kb hx I1 Paired.nil rz q
end
/-! ### comprehensions: what the list holds, by the turns -/
/-- behind i turns: the list at D holds what turns gave (none: left out) -/
def LcP (D : Addr) (P : Nat → Hp → Prop) (R : Nat → Option V → Prop) (i : Nat) (H : Hp) : Prop :=
  ∃ ys : List (Option V), ys.length = i ∧ (∀ (j : Nat) (v : Option V), ys[j]? = some v → R j v) ∧ H D = some (.lst (ys.filterMap id)) ∧ P i H
theorem LcP.start {D : Addr} {P : Nat → Hp → Prop} {R : Nat → Option V → Prop} {H : Hp} (p : P 0 (upd H D (.lst []))) : LcP D P R 0 (upd H D (.lst [])) := ⟨[], rfl, fun j v e => by simp at e, upd_same, p⟩
theorem rows_snoc {R : Nat → Option V → Prop} {ys : List (Option V)} {v : Option V} (h : ∀ (j : Nat) (v : Option V), ys[j]? = some v → R j v) (r : R ys.length v) : ∀ (j : Nat) (u : Option V), (ys ++ [v])[j]? = some u → R j u := fun j u e => by
  rw [List.getElem?_append] at e
  split at e
  · exact h j u e
  · rename_i q
    have : j - ys.length = 0 := by
      cases z : j - ys.length with
      | zero => rfl
      | succ m => rw [z] at e; simp at e
    rw [this] at e
    have ej : j = ys.length := by omega
    subst ej
    simp at e
    exact e ▸ r
theorem lcp_some {D : Addr} {P : Nat → Hp → Prop} {R : Nat → Option V → Prop} {i : Nat} {ys : List (Option V)} {H : Hp} {y : V} (hl : ys.length = i) (h : ∀ (j : Nat) (v : Option V), ys[j]? = some v → R j v) (hD : H D = some (.lst (ys.filterMap id))) (hi : i < 1000000) (r : R i (some y))
    (p : P (i + 1) (upd H D (.lst (ys.filterMap id ++ [y])))) : ∃ acc, H D = some (.lst acc) ∧ acc.length < sizeLine ∧ LcP D P R (i + 1) (upd H D (.lst (acc ++ [y]))) := by
  subst hl
  refine ⟨_, hD, lt_sz (Nat.le_trans (List.length_filterMap_le _ _) (Nat.le_of_lt hi)), ys ++ [some y], by simp, rows_snoc h r, ?_, p⟩
  rw [upd_same, List.filterMap_append]; rfl
theorem lcp_none {D : Addr} {P : Nat → Hp → Prop} {R : Nat → Option V → Prop} {i : Nat} {ys : List (Option V)} {H : Hp} (hl : ys.length = i) (h : ∀ (j : Nat) (v : Option V), ys[j]? = some v → R j v) (hD : H D = some (.lst (ys.filterMap id))) (r : R i none) (p : P (i + 1) H) : LcP D P R (i + 1) H := by
  subst hl
  refine ⟨ys ++ [none], by simp, rows_snoc h r, ?_, p⟩
  rw [hD, List.filterMap_append]; simp
/-- the list of what is given by a function -/
theorem rows_fn {f : Nat → Option V} {n : Nat} : ∀ {ys : List (Option V)}, ys.length = n → (∀ (j : Nat) (v : Option V), ys[j]? = some v → v = f j) → ys = (List.range n).map f := by
  intro ys hl h
  refine List.ext_getElem? fun j => ?_
  rw [List.getElem?_map]
  by_cases q : j < n
  · obtain ⟨v, e⟩ : ∃ v, ys[j]? = some v := ⟨_, List.getElem?_eq_getElem (by omega)⟩
    rw [List.getElem?_range q, e, h j v e]; rfl
  · rw [List.getElem?_eq_none (by omega), List.getElem?_eq_none (by rw [List.length_range]; omega)]; rfl
/-- .. of an array's items by a function of theirs -/
theorem rows_map {α : Type} {f : α → Option V} {l : List α} {ys : List (Option V)} (hl : ys.length = l.length) (h : ∀ (j : Nat) (v : Option V), ys[j]? = some v → ∃ a, l[j]? = some a ∧ v = f a) : ys = l.map f := by
  refine List.ext_getElem? fun j => ?_
  rw [List.getElem?_map]
  by_cases q : j < ys.length
  · obtain ⟨v, e⟩ : ∃ v, ys[j]? = some v := ⟨_, List.getElem?_eq_getElem q⟩
    obtain ⟨a, e1, e2⟩ := h j v e
    rw [e, e1, e2]; rfl
  · rw [List.getElem?_eq_none (by omega), List.getElem?_eq_none (by omega)]; rfl
/-! ### signs and texts -/
def isLow (c : Nat) : Bool := decide (c ∈ (Str.ofString "abcdefghijklmnopqrstuvwxyz").cps.toList)
def isTextD : PyData → Bool
  | .str x => x.cps.toList.all isLow
  | _ => false
/-- sizes of data that may be looked at -/
def Sz (d : PyData) : Prop := d.bulk ≤ 500000
theorem str_len (x : Str) : x.length = x.cps.toList.length := by rw [Array.length_toList]; rfl
theorem str_ext {x y : Str} (h : x.cps.toList = y.cps.toList) : x = y := by
  obtain ⟨a⟩ := x
  obtain ⟨b⟩ := y
  have : a = b := by
    apply Array.ext'
    exact h
  rw [this]
theorem str_inj {x y : Str} : x = y ↔ x.cps.toList = y.cps.toList := ⟨fun e => by rw [e], str_ext⟩
/-- a built-in's name is as it was -/
abbrev StrAt (mg : Str → Option Value) (x y : Str) : Prop := ∃ t, mg x = some (.str y t)
section
variable {X : Cx} {x : Str} {pos : Pos}
theorem pe_tyN {n : String} (hm : X.mg x = none) (hv : bootBuiltins x = some (.type n)) (hg : Gl X x := by rfl) (hn : x ≠ "__name__" := by decide) (hd : (x == ("__debug__" : Str)) = false := by decide) : PE X (.Name x pos) (tC (.ty n)) :=
  pe_bltn (v := .ty n) hg hm hv (show Value.type n = Value.type n from rfl) hn hd
theorem pe_gstr {y : Str} (hm : StrAt X.mg x y) (hg : Gl X x := by rfl) (hd : (x == ("__debug__" : Str)) = false := by decide) : PE X (.Name x pos) (tC (.str y)) := by
  obtain ⟨t, e⟩ := hm
  exact pe_glob (v := .str y) hg e ⟨t, rfl⟩ hd
end
end EL
/-! x[::-1] of texts and of tuples. -/
namespace EL
open PySem PySem.Spec PyProof.Rows L2
section
variable {prog : Program} {w : World} {A : Around} {E : Value → Shared → Prop} {s : Shared}
theorem adjust_rev (n : Nat) : Builtin.Slice.sliceAdjust none none (-1) (n : Int) = ((n : Int) - 1, -1) := by
  simp [Builtin.Slice.sliceAdjust]
theorem places_rev (n : Nat) : Builtin.Slice.slicePlaces ((n : Int) - 1) (-1) (-1) = n := by
  unfold Builtin.Slice.slicePlaces
  rw [if_neg (by decide)]
  by_cases h : n = 0
  · subst h; rfl
  · rw [if_pos (by omega)]
    have e : ((n : Int) - 1 - -1 - 1) / (- -1) + 1 = n := by
      have : (- -1 : Int) = 1 := by decide
      rw [this, Int.ediv_one]; omega
    rw [e, Int.toNat_natCast]
theorem pick_rev (xs : Array Value) : ((List.range xs.size).filterMap fun (k : Nat) => xs[(((xs.size : Nat) : Int) - 1 + (k : Int) * (-1)).toNat]?).toArray = xs.toList.reverse.toArray := by
  have e := PySem.W.krv_all xs
  congr 1
  have e2 : (List.range xs.size).filterMap (fun (k : Nat) => xs[(((xs.size : Nat) : Int) - 1 + (k : Int) * (-1)).toNat]?) = ((List.range xs.size).map fun k => xs.size - 1 - k).filterMap (xs[·]?) := by
    rw [List.filterMap_map]
    have cg : ∀ (l : List Nat) (f g : Nat → Option Value), (∀ k ∈ l, f k = g k) → l.filterMap f = l.filterMap g := by
      intro l f g
      induction l with
      | nil => exact fun _ => rfl
      | cons a r ih =>
        intro h
        rw [List.filterMap_cons, List.filterMap_cons, h a List.mem_cons_self, ih fun k hk => h k (List.mem_cons_of_mem _ hk)]
    refine cg _ _ _ fun k hk => ?_
    have hk' := List.mem_range.mp hk
    show xs[(((xs.size : Nat) : Int) - 1 + (k : Int) * (-1)).toNat]? = xs[xs.size - 1 - k]?
    congr 1
    omega
  rw [e2, PySem.W.krv_range, List.filterMap_reverse, e]
theorem applied_rev {sl : Addr} {u : Tok} {n : Nat} {Q : Int × Int × Nat → Shared → Prop} (hs : s.heap.IsSliceOf sl .none .none (.int (-1) u)) (h : Q ((n : Int) - 1, -1, n) s) : wpAny (model prog w) A (Builtin.Slice.sliceApplied (.ref sl) (pure (n : Int))) Q E s := by
  obtain ⟨o, ho, hc, hd⟩ := id hs
  unfold Builtin.Slice.sliceApplied Builtin.Slice.sliceFields
  refine wpAny_bind (wpAny_bind (wpAny_field ho hd (x := .none) rfl (wpAny_bind (wpAny_field ho hd (x := .none) rfl (wpAny_bind (wpAny_field ho hd (x := .int (-1) u) rfl (wpAny_pure ?_)))))))
  refine wpAny_bind (HT.slicePart_ (IsPart.int (-1) u) ?_)
  show wpAny _ _ (if ((-1 : Int) == 0) = true then _ else _) _ _ s
  rw [if_neg (by decide)]
  refine wpAny_bind (HT.slicePart_ IsPart.none (wpAny_bind (HT.slicePart_ IsPart.none (wpAny_bind (wpAny_pure ?_)))))
  show wpAny _ _ (match Builtin.Slice.sliceAdjust none none (-1) (n : Int) with | (lo, hi) => pure (lo, (-1 : Int), Builtin.Slice.slicePlaces lo hi (-1))) _ _ s
  rw [adjust_rev]
  show wpAny _ _ (pure ((n : Int) - 1, (-1 : Int), Builtin.Slice.slicePlaces ((n : Int) - 1) (-1) (-1))) _ _ s
  rw [places_rev]
  exact wpAny_pure h
theorem item_tuple_rev {t sl : Addr} {items : Array Value} {u : Tok} {Q : Value → Shared → Prop} (ht : IsTup s.heap t items) (hs : s.heap.IsSliceOf sl .none .none (.int (-1) u)) (hz : items.size ≤ sizeLine)
    (h : Q (.ref s.heap.objs.size) { s with heap := s.heap.push { cls := .type "tuple", data := .seq items.toList.reverse.toArray } }) : wpAny (model prog w) A (getItem (.ref t) (.ref sl)) Q E s := by
  obtain ⟨o, ho, hc, hd⟩ := id hs
  have ty : s.TypeIs (.ref sl) "slice" := ⟨o, ho, hc⟩
  unfold getItem
  try with_reducible refine wpAny_holding ?_
  first | refine wpAny_bind (wpAny_pure ?_) | skip
  refine wpAny_bind (wpAny_sequenceKey ht.typeIs (by decide) ?_)
  refine wpAny_bind (wpAny_callSpecial?_slot (name := Str.ofString "__getitem__") ht.typeIs PyProof.Rows.slot_tuple_getitem
    (wpAny_call_entry PyProof.Rows.slot_tuple_getitem ht.typeIs PyProof.Rows.entry_tuple_getitem ?_ (PyProof.Rows.args_tuple_getitem _ _)))
  show wpAny _ _ (Builtin.Tuple.tupleItemsOf (.ref t) >>= _) _ _ s
  refine wpAny_bind (tupleItemsOf_ ht ?_)
  refine wpAny_bind (wpAny_typeOf ty ?_)
  rw [if_pos (by decide)]
  refine wpAny_bind (applied_rev hs ?_)
  show wpAny _ _ (if ((((items.size : Nat) : Int) - 1 == 0) && ((-1 : Int) == 1) && (items.size == items.size)) = true then _ else _) _ _ s
  rw [if_neg (by simp)]
  rw [pick_rev]
  refine wpAny_bind ?_
  unfold Builtin.Tuple.tupleExact
  refine wpAny_newObj_type ?_ (by show items.toList.reverse.toArray.size ≤ sizeLine; simpa using hz)
  first
    | exact wpAny_pure ⟨_, rfl, wpAny_pure h⟩
    | exact wpAny_pure ⟨_, rfl, h⟩
    | exact wpAny_bind (wpAny_pure (wpAny_pure ⟨_, rfl, wpAny_pure h⟩))
end
section
variable {X : Cx} {e : Expr} {te : TE} {k : Nat} {p1 p2 p3 pos : Pos}
def tRevT (K : PySem.W.Frag) (te : TE) : TE := fun σ H Q => te σ H fun x H1 => ∃ a xs, x = .ref a ∧ SqT K H1 a xs ∧ ∀ p, H1 p = none → Q (.ref p) (upd H1 p (.tup xs.reverse))
theorem pe_revT (he : PE X e te) : PE X (.Subscript e (.Slice none none (some (.UnaryOp .USub (.Constant (.int 1) k p1) p2)) p3) pos) (tRevT X.K te) := by
  refine ⟨fun pins s σ H Q I h => ?_⟩
  refine Subscript_ (thn (he.run pins s σ H _ I h) fun v s1 hh => ?_)
  obtain ⟨x, H1, I1, r1, a, xs, rfl, hx, q⟩ := hh
  cases r1
  refine wpAny_Slice (wpAny_pure (wpAny_pure ?_))
  have neg : PE X (.UnaryOp .USub (.Constant (.int 1) k p1) p2) (tUn (rU fun i => .int (-i)) (tC (.int 1))) := pe_un un_neg pe_int
  refine thn (neg.run pins s1 σ H1 (fun v H2 => v = .int (-1) ∧ H2 = H1) I1 ⟨1, rfl, rfl, rfl⟩) fun vs s2 hh => ?_
  obtain ⟨v2, H2, I2, r2, rfl, rfl⟩ := hh
  obtain ⟨u, rfl⟩ := r2
  have I5 : Inv X pins σ H2 { s2 with heap := s2.heap.push { cls := .type "slice", data := .fields #[.none, .none, .int (-1) u] } } := I2.kept (t' := s2.toks) fun b ob q => Heap.get?_push_of_some _ q
  obtain ⟨its, r, ht, hz⟩ := I5.tuple hx
  have hlen := r.length
  show wpAny (model X.prog X.w) X.A (subscriptTail e (.Slice none none (some (.UnaryOp .USub (.Constant (.int 1) k p1) p2)) p3) (.ref a) (.ref s2.heap.objs.size)) (EP X pins σ Q) X.xe { s2 with heap := s2.heap.push { cls := .type "slice", data := .fields #[.none, .none, .int (-1) u] } }
  refine tail_any (ops := [.ref a, .ref s2.heap.objs.size]) ht.typeIs PyProof.Rows.slot_tuple_getitem.lookup ?_ (by with_unfolding_all rfl)
  refine item_tuple_rev ht (Heap.IsSliceOf.new _ _ _ _) (by rw [List.size_toArray]; omega) ?_
  refine ⟨.ref _, _, I5.laid (t' := s2.toks) (o := .tup xs.reverse) (fun b ob q => Heap.get?_push_of_some _ q) (Nat.le_refl _) ?_, rfl, q _ (I5.hok.fresh (Nat.le_refl _))⟩
  exact ⟨by rw [List.length_reverse]; exact hz, _, r.reverse, IsTup.new _ _⟩
/-- a text read from behind -/
def revS (x : Str) : Str := ⟨x.cps.toList.reverse.toArray⟩
def tRevS (te : TE) : TE := fun σ H Q => te σ H fun x H1 => ∃ z : Str, x = .str z ∧ z.length ≤ 1000000 ∧ Q (.str (revS z)) H1
theorem pick_revS (x : Str) : (⟨((Builtin.Str.strSliceIndices none none (-1) x.length).filterMap (x.cps[·]?)).toArray⟩ : Str) = revS x := by
  have e : Builtin.Str.strSliceIndices none none (-1) x.length = sliceRange ((x.length : Int) - 1) (-1) (-1) := by
    simp [Builtin.Str.strSliceIndices]
  unfold revS
  rw [e, PySem.W.krv_sliceRange, PySem.W.krv_range, List.filterMap_reverse]
  have e2 : (List.range x.length).filterMap (x.cps[·]?) = x.cps.toList := by
    have key : ∀ (xs : Array Nat), (List.range xs.size).filterMap (xs[·]?) = xs.toList := fun xs => PySem.W.krv_all xs
    exact key x.cps
  rw [e2]
theorem pe_revS (he : PE X e te) : PE X (.Subscript e (.Slice none none (some (.UnaryOp .USub (.Constant (.int 1) k p1) p2)) p3) pos) (tRevS te) := by
  refine ⟨fun pins s σ H Q I h => ?_⟩
  refine Subscript_ (thn (he.run pins s σ H _ I h) fun v s1 hh => ?_)
  obtain ⟨x, H1, I1, r1, z, rfl, hz, q⟩ := hh
  obtain ⟨t, rfl⟩ := r1
  refine wpAny_Slice (wpAny_pure (wpAny_pure ?_))
  have neg : PE X (.UnaryOp .USub (.Constant (.int 1) k p1) p2) (tUn (rU fun i => .int (-i)) (tC (.int 1))) := pe_un un_neg pe_int
  refine thn (neg.run pins s1 σ H1 (fun v H2 => v = .int (-1) ∧ H2 = H1) I1 ⟨1, rfl, rfl, rfl⟩) fun vs s2 hh => ?_
  obtain ⟨v2, H2, I2, r2, rfl, rfl⟩ := hh
  obtain ⟨u, rfl⟩ := r2
  have I5 : Inv X pins σ H2 { s2 with heap := s2.heap.push { cls := .type "slice", data := .fields #[.none, .none, .int (-1) u] } } := I2.kept (t' := s2.toks) fun b ob q => Heap.get?_push_of_some _ q
  show wpAny (model X.prog X.w) X.A (subscriptTail e (.Slice none none (some (.UnaryOp .USub (.Constant (.int 1) k p1) p2)) p3) (.str z t) (.ref s2.heap.objs.size)) (EP X pins σ Q) X.xe { s2 with heap := s2.heap.push { cls := .type "slice", data := .fields #[.none, .none, .int (-1) u] } }
  refine tail_any (ops := [.ref s2.heap.objs.size, .str z t]) (typeIs_str _ _ _) PySem.F.slot_str_getitem.lookup ?_ (by with_unfolding_all rfl)
  refine wpAny_getItem_str_slice (l := none) (u := none) (st := some (-1, u)) ⟨_, Heap.get?_push_size _ rfl, rfl, rfl⟩ rfl ?_
  have em : sliceMade z t none none (some (-1, u)) = Made.str (revS z) := by
    rw [← pick_revS]; rfl
  rw [em]
  exact ⟨by show z.cps.toList.reverse.toArray.size ≤ sizeLine; rw [List.size_toArray, List.length_reverse]; exact Nat.le_trans hz (by decide), .str (revS z), H2, I5.tok _, ⟨_, rfl⟩, q⟩
end
/-! ### a list == [], a list != [] -/
section
variable {X : Cx}
def rEqN (K : PySem.W.Frag) : R2 := fun x y H Q => ∃ a b xs, x = .ref a ∧ y = .ref b ∧ SqL K H a xs ∧ SqL K H b [] ∧ Q (.bl (decide (xs = []))) H
def rNeN (K : PySem.W.Frag) : R2 := fun x y H Q => ∃ a b xs, x = .ref a ∧ y = .ref b ∧ SqL K H a xs ∧ SqL K H b [] ∧ Q (.bl (!decide (xs = []))) H
theorem op_eqN (hu : X.A.units < cLine) : OpR X (compareOp .Eq) (rEqN X.K) := by
  intro pins s σ H x y v u Q I rx ry h
  obtain ⟨a, b, xs, rfl, rfl, ha, hb, q⟩ := h
  cases rx
  cases ry
  obtain ⟨its, r1, ⟨o, n, ho, hc, _, hd⟩, _⟩ := I.list ha
  obtain ⟨its2, r2, ⟨o2, n2, ho2, hc2, _, hd2⟩, _⟩ := I.list hb
  cases r2
  cases r1 with
  | nil => exact SeqAt.RcAt.lists (e := fun _ => true) ⟨o, ho, hc, n, hd⟩ ⟨o2, ho2, hc2, n2, hd2⟩ rfl hu (fun j h1 _ => absurd h1 (by simp)) _ _ _ _ ⟨.bl _, H, I, rfl, q⟩
  | cons r rr => exact SeqAt.RcAt.lists_lengths ⟨o, ho, hc, n, hd⟩ ⟨o2, ho2, hc2, n2, hd2⟩ (by simp) hu _ _ _ _ ⟨.bl _, H, I, rfl, q⟩
theorem op_neN (hu : X.A.units < cLine) : OpR X (compareOp .NotEq) (rNeN X.K) := by
  intro pins s σ H x y v u Q I rx ry h
  obtain ⟨a, b, xs, rfl, rfl, ha, hb, q⟩ := h
  cases rx
  cases ry
  obtain ⟨its, r1, ⟨o, n, ho, hc, _, hd⟩, _⟩ := I.list ha
  obtain ⟨its2, r2, ⟨o2, n2, ho2, hc2, _, hd2⟩, _⟩ := I.list hb
  cases r2
  cases r1 with
  | nil => exact SeqAt.RcNeAt.lists (e := fun _ => true) ⟨o, ho, hc, n, hd⟩ ⟨o2, ho2, hc2, n2, hd2⟩ rfl hu (fun j h1 _ => absurd h1 (by simp)) _ _ _ _ ⟨.bl _, H, I, rfl, q⟩
  | cons r rr => exact SeqAt.RcNeAt.lists_lengths ⟨o, ho, hc, n, hd⟩ ⟨o2, ho2, hc2, n2, hd2⟩ (by simp) hu _ _ _ _ ⟨.bl _, H, I, rfl, q⟩
end
end EL
/-! Calls by keywords alone: one parameter, two parameters the other way round. -/
namespace EL
open PySem PySem.Spec PyProof.Rows L2
def kw1 {α : Type} : List α → List α → List α
  | [], [z] => [z]
  | _, _ => []
def kw2r {α : Type} : List α → List α → List α
  | [], [z, y] => [y, z]
  | _, _ => []
theorem kw1_rel {vs : List V} {us : List Value} {zs : List V} {ws : List Value} (h1 : Vals vs us) (h2 : Vals zs ws) : Vals (kw1 vs zs) (kw1 us ws) := by
  cases h1 with
  | cons _ _ => exact .nil
  | nil =>
    cases h2 with
    | nil => exact .nil
    | cons r rr =>
      cases rr with
      | nil => exact .cons r .nil
      | cons _ _ => exact .nil
theorem kw2r_rel {vs : List V} {us : List Value} {zs : List V} {ws : List Value} (h1 : Vals vs us) (h2 : Vals zs ws) : Vals (kw2r vs zs) (kw2r us ws) := by
  cases h1 with
  | cons _ _ => exact .nil
  | nil =>
    cases h2 with
    | nil => exact .nil
    | cons r rr =>
      cases rr with
      | nil => exact .nil
      | cons r2 rr2 =>
        cases rr2 with
        | nil => exact .cons r2 (.cons r .nil)
        | cons _ _ => exact .nil
theorem Fun.kw1 {K : PySem.W.Frag} {x qual : Str} {st : Stmt} {f : Addr} {fd : FuncData} {p : Str} (F : Fun K x qual st f fd)
    (h : ∀ (kV doc pm : Value) (an : Option Addr) (cdv ct : Value) (u : Value), bindArgs (PySem.W.fnOf x qual (defArgs st) (defBody st) (defScope st) .none kV doc pm an cdv ct) ⟨[], [(p, u)]⟩ = pure [(p, u)]) : KBinds K fd [p] [p] EL.kw1 EL.kw1 := by
  obtain ⟨oc, od, kV, doc, pm, an, cdv, ct, osl, rfl, lk, hcd⟩ := F.ex
  refine ⟨fun s us ws _ hl => ?_, kw1_rel⟩
  match us, ws, hl with
  | [], [u], _ => exact .of_eq (h kV doc pm an cdv ct u)
  | [], [], hl => exact absurd hl (by simp [EL.kw1])
  | [], _ :: _ :: _, hl => exact absurd hl (by simp [EL.kw1])
  | _ :: _, _, hl => exact absurd hl (by simp [EL.kw1])
theorem Fun.kw2r {K : PySem.W.Frag} {x qual : Str} {st : Stmt} {f : Addr} {fd : FuncData} {p q : Str} (F : Fun K x qual st f fd)
    (h : ∀ (kV doc pm : Value) (an : Option Addr) (cdv ct : Value) (u v : Value), bindArgs (PySem.W.fnOf x qual (defArgs st) (defBody st) (defScope st) .none kV doc pm an cdv ct) ⟨[], [(q, u), (p, v)]⟩ = pure [(p, v), (q, u)]) : KBinds K fd [p, q] [q, p] EL.kw2r EL.kw2r := by
  obtain ⟨oc, od, kV, doc, pm, an, cdv, ct, osl, rfl, lk, hcd⟩ := F.ex
  refine ⟨fun s us ws _ hl => ?_, kw2r_rel⟩
  match us, ws, hl with
  | [], [u, v], _ => exact .of_eq (h kV doc pm an cdv ct u v)
  | [], [], hl => exact absurd hl (by simp [EL.kw2r])
  | [], [_], hl => exact absurd hl (by simp [EL.kw2r])
  | [], _ :: _ :: _ :: _, hl => exact absurd hl (by simp [EL.kw2r])
  | _ :: _, _, hl => exact absurd hl (by simp [EL.kw2r])
end EL
namespace KP
open PySem PySem.Spec PyProof.Rows L2 EL
open Evl (pss_cut)
def topS (i : Nat) : Stmt := PySem.Challenge.pw_evenlead_k11_even_or_uneven.main.body.getD i (.Pass ⟨0, 0, 0, 0⟩)
abbrev sIsText : Stmt := topS 11
theorem scIsText : FnScope ["thing", "letter"] ["thing"] (defScope sIsText) := ⟨rfl, rfl, rfl, by decide +kernel, rfl, by decide +kernel, by decide +kernel⟩
abbrev sIsInteger : Stmt := topS 16
theorem scIsInteger : FnScope ["thing"] ["thing"] (defScope sIsInteger) := ⟨rfl, rfl, rfl, by decide +kernel, rfl, by decide +kernel, by decide +kernel⟩
abbrev sIsSize : Stmt := topS 17
theorem scIsSize : FnScope ["thing"] ["thing"] (defScope sIsSize) := ⟨rfl, rfl, rfl, by decide +kernel, rfl, by decide +kernel, by decide +kernel⟩
abbrev sIsState : Stmt := topS 18
theorem scIsState : FnScope ["thing", "size"] ["thing", "size"] (defScope sIsState) := ⟨rfl, rfl, rfl, by decide +kernel, rfl, by decide +kernel, by decide +kernel⟩
abbrev sIsTupleOfStates : Stmt := topS 19
theorem scIsTupleOfStates : FnScope ["thing", "size", "low", "high", "part"] ["thing", "size"] (defScope sIsTupleOfStates) := ⟨rfl, rfl, rfl, by decide +kernel, rfl, by decide +kernel, by decide +kernel⟩
abbrev sIsMove : Stmt := topS 52
theorem scIsMove : FnScope ["thing", "size", "state", "left", "right", "further"] ["thing", "size"] (defScope sIsMove) := ⟨rfl, rfl, rfl, by decide +kernel, rfl, by decide +kernel, by decide +kernel⟩
abbrev sIsTupleOfMoves : Stmt := topS 53
theorem scIsTupleOfMoves : FnScope ["thing", "size", "part"] ["thing", "size"] (defScope sIsTupleOfMoves) := ⟨rfl, rfl, rfl, by decide +kernel, rfl, by decide +kernel, by decide +kernel⟩
abbrev rLenK (K : PySem.W.Frag) : List V → Hp → VK → Prop := fun xs H Q => ∃ x n, xs = [x] ∧ LenV K x H n ∧ Q (V.int (n : Nat)) H
/-- a look at data: True or False by a function of it -/
def spLook (K : PySem.W.Frag) (f : PyData → Bool) : Sp := fun vs H Q _ => ∃ (v : V) (d : PyData), vs = [v] ∧ Dq K H v d ∧ Sz d ∧ ∀ H', Same H H' → Q (.bl (f d)) H'
/-- .. with a number beside -/
def spLookN (K : PySem.W.Frag) (f : Int → PyData → Bool) : Sp := fun vs H Q _ => ∃ (v : V) (d : PyData) (n : Int), vs = [v, .int n] ∧ Dq K H v d ∧ Sz d ∧ ∀ H', Same H H' → Q (.bl (f n d)) H'
def isIntD : PyData → Bool
  | .int _ => true
  | _ => false
def sizeD : PyData → Bool
  | .int i => decide (i ≥ 1)
  | _ => false
def stateD (n : Int) : PyData → Bool
  | .int i => decide (0 ≤ i) && decide (i < n)
  | _ => false
def intOf : PyData → Int
  | .int i => i
  | _ => 0
/-- ascending -/
def ascI : List Int → Bool
  | [] => true
  | [_] => true
  | a :: b :: r => decide (a < b) && ascI (b :: r)
def statesD (n : Int) : PyData → Bool
  | .tuple ds => ds.all (stateD n) && ascI (ds.map intOf)
  | _ => false
def moveD (n : Int) : PyData → Bool
  | .tuple ds => match ds with
    | [a, b, c, d] => stateD n a && (isTextD b && (isTextD c && stateD n d))
    | _ => false
  | _ => false
def movesD (n : Int) : PyData → Bool
  | .tuple ds => ds.all (moveD n)
  | _ => false
theorem kitL_int : ∀ n ∈ tyNs, kitB n "int" = some (decide (n = "int" ∨ n = "bool")) := by decide +kernel
theorem kit_int (d : PyData) : kitB (tyN d) "int" = some (decide (tyN d = "int" ∨ tyN d = "bool")) := kitL_int _ (tyN_mem d)
theorem kitL_bool : ∀ n ∈ tyNs, kitB n "bool" = some (decide (n = "bool")) := by decide +kernel
theorem kit_bool (d : PyData) : kitB (tyN d) "bool" = some (decide (tyN d = "bool")) := kitL_bool _ (tyN_mem d)
theorem sz_mem {ds : List PyData} (h : PyData.bulkAll ds ≤ 500000) : ∀ d ∈ ds, Sz d := by
  induction ds with
  | nil => exact fun _ m => (List.not_mem_nil m).elim
  | cons x r ih =>
    simp only [PyData.bulkAll] at h
    intro d m
    rcases List.mem_cons.mp m with rfl | m
    · unfold Sz; omega
    · exact ih (by omega) d m
theorem bulk_len : ∀ ds : List PyData, ds.length ≤ PyData.bulkAll ds
  | [] => Nat.le_refl _
  | x :: r => by
    simp only [PyData.bulkAll, List.length_cons]
    have := bulk_len r
    omega
section
variable {P : Program} {w : World} {K : PySem.W.Frag} {mg : Str → Option Value} {base : Heap}
theorem ok_IsText {f : Addr} {fd : FuncData} {k : Nat} (F : Fun K "is_text" "is_text" sIsText f fd) (nall : mg "all" = none) (nisinstance : mg "isinstance" = none) (nstr : mg "str" = none) (m_LETTERS : StrAt mg "LETTERS" "abcdefghijklmnopqrstuvwxyz") : FnOk P w K mg base CX0 (k + 1) f fd ["thing"] (spLook K isTextD) := by
  refine F.ok scIsText (fun vs H Q E h => ?_) (fun cdv A outer s H vs Q E hr h => ?_)
  · obtain ⟨v, d, rfl, _⟩ := h; rfl
  · obtain ⟨v, d, rfl, hd, hz, q⟩ := h
    have hu := hr.units
    refine ⟨_, (pss_one (ps_ret (pe_and (pe_callB call_isi (by rfl) nisinstance boot_isinstance (pa_cons (pv 0) (pa_cons (pe_tyN nstr boot_str) pa_nil))) (pe_one (pe_callB (cr_all rfl) (by rfl) nall (by decide +kernel) (pa_cons (pe_lc (own := [("letter", 1)]) (g := gName 1) (by rfl) scIsText.nd (pi_str (pv 0)) (blkOk_by (own := [("letter", 1)]) (N := ["thing", "letter"]) (sc := defScope sIsText) (by decide +kernel)) (fun _ _ _ _ _ => (pg_name (i := 1) scIsText.nd rfl (by first | exact Or.inl rfl | exact Or.inr rfl))) (fun _ _ _ _ _ => pts_nil) (fun _ _ _ _ _ => (pe_cmpR op_in_sign (pv 1) (pe_gstr m_LETTERS) (by rfl)))) pa_nil)))))), ?_⟩
    refine ⟨v, rfl, v, .ty "str", _, _, _, rfl, .ty "str", tyx_of hd, kit_ty (kit_str d), _, rfl, ?_⟩
    cases d with
    | str x =>
      cases hd
      refine iteT ⟨.str x, rfl, x, rfl, fun D nD => ?_⟩
      have hlen : x.cps.size ≤ 500000 := hz
      refine lc_it walk_str (LcP D (fun _ H' => ∀ b o, b ≠ D → H b = some o → H' b = some o) (fun j v => ∃ c, x.cps.toList[j]? = some c ∧ v = some (.bl (isLow c)))) (LcP.start fun b o hb e => by rw [upd_ne hb]; exact e) (fun _ _ _ _ => trivial) ?_ ?_
      · rintro i y H1 H2 hi ⟨ys, hl, hR, hD, hP⟩ ⟨rfl, c, hc, rfl⟩
        refine ⟨rfl, ?_⟩
        dsimp only [tYes]
        refine iteT ?_
        refine ⟨_, rfl, c, _, rfl, rfl, ?_⟩
        exact lcp_some hl hR hD (by omega) ⟨c, by rw [Array.getElem?_toList]; exact hc, rfl⟩ fun b o hb e => by rw [upd_ne hb]; exact hP b o hb e
      · rintro H2 ⟨ys, hl, hR, hD, hP⟩
        have e := rows_map (f := fun c => some (V.bl (isLow c))) (l := x.cps.toList) (by rw [hl, Array.length_toList]) hR
        refine ⟨D, x.cps.toList.map isLow, rfl, sqOf (by rw [hD, e]; simp [List.filterMap_map, Function.comp_def]), ?_⟩
        have e2 : (x.cps.toList.map isLow).all id = isTextD (.str x) := by simp [isTextD, List.all_map, Function.comp_def]
        rw [e2]
        exact q H2 fun b o e => hP b o (ne_of_none e nD) e
    | _ => exact iteF (q H (Same.refl H))
theorem ok_IsInteger {f : Addr} {fd : FuncData} {k : Nat} (F : Fun K "is_integer" "is_integer" sIsInteger f fd) (nisinstance : mg "isinstance" = none) (nint : mg "int" = none) (nbool : mg "bool" = none)   : FnOk P w K mg base CX0 (k + 1) f fd ["thing"] (spLook K isIntD) := by
  refine F.ok scIsInteger (fun vs H Q E h => ?_) (fun cdv A outer s H vs Q E hr h => ?_)
  · obtain ⟨v, d, rfl, _⟩ := h; rfl
  · obtain ⟨v, d, rfl, hd, hz, q⟩ := h
    have hu := hr.units
    refine ⟨_, (pss_one (ps_ret (pe_and (pe_callB call_isi (by rfl) nisinstance boot_isinstance (pa_cons (pv 0) (pa_cons (pe_tyN nint boot_int) pa_nil))) (pe_one (pe_not (pe_callB call_isi (by rfl) nisinstance boot_isinstance (pa_cons (pv 0) (pa_cons (pe_tyN (n := "bool") nbool (by decide +kernel)) pa_nil)))))))), ?_⟩
    refine ⟨v, rfl, v, .ty "int", _, _, _, rfl, .ty "int", tyx_of hd, kit_ty (kit_int d), _, rfl, ?_⟩
    have qq := q H (Same.refl H)
    cases d with
    | int i => exact iteT ⟨v, rfl, v, .ty "bool", _, _, _, rfl, .ty "bool", tyx_of hd, kit_ty (kit_bool (.int i)), _, rfl, qq⟩
    | bool b => exact iteT ⟨v, rfl, v, .ty "bool", _, _, _, rfl, .ty "bool", tyx_of hd, kit_ty (kit_bool (.bool b)), _, rfl, qq⟩
    | _ => exact iteF qq
theorem ok_IsSize {f : Addr} {fd : FuncData} {k : Nat} (F : Fun K "is_size" "is_size" sIsSize f fd)   (CIsInteger : Cal P w K mg base k "is_integer" ["thing"] (spLook K isIntD)) : FnOk P w K mg base CX0 (k + 1) f fd ["thing"] (spLook K sizeD) := by
  refine F.ok scIsSize (fun vs H Q E h => ?_) (fun cdv A outer s H vs Q E hr h => ?_)
  · obtain ⟨v, d, rfl, _⟩ := h; rfl
  · obtain ⟨v, d, rfl, hd, hz, q⟩ := h
    have hu := hr.units
    refine ⟨_, (pss_one (ps_ret (pe_and (pe_cal CIsInteger hr (by rfl) pass0 (pa_cons (pv 0) pa_nil)) (pe_one (pe_cmpR op_ge (pv 0) pe_int (nomark _)))))), ?_⟩
    refine ⟨v, rfl, v, d, rfl, hd, hz, fun H1 s1 => ⟨_, rfl, ?_⟩⟩
    have qq := q H1 s1
    cases d with
    | int i =>
      cases hd
      exact iteT ⟨_, rfl, _, _, rfl, rfl, qq⟩
    | _ => exact iteF qq
theorem ok_IsState {f : Addr} {fd : FuncData} {k : Nat} (F : Fun K "is_state" "is_state" sIsState f fd)   (CIsInteger : Cal P w K mg base k "is_integer" ["thing"] (spLook K isIntD)) : FnOk P w K mg base CX0 (k + 1) f fd ["thing", "size"] (spLookN K stateD) := by
  refine F.ok scIsState (fun vs H Q E h => ?_) (fun cdv A outer s H vs Q E hr h => ?_)
  · obtain ⟨v, d, n, rfl, _⟩ := h; rfl
  · obtain ⟨v, d, n, rfl, hd, hz, q⟩ := h
    have hu := hr.units
    refine ⟨_, (pss_one (ps_ret (pe_and (pe_cal CIsInteger hr (by rfl) pass0 (pa_cons (pv 0) pa_nil)) (pe_one (pe_chain op_le op_lt pe_int (pv 0) (pv 1)))))), ?_⟩
    refine ⟨v, rfl, v, d, rfl, hd, hz, fun H1 s1 => ⟨_, rfl, ?_⟩⟩
    have qq := q H1 s1
    cases d with
    | int i =>
      cases hd
      refine iteT ⟨_, rfl, _, _, rfl, rfl, _, rfl, ?_⟩
      by_cases h0 : 0 ≤ i
      · simp only [stateD, decide_eq_true h0, Bool.true_and] at qq
        rw [decide_eq_true h0]
        exact iteT ⟨_, rfl, _, _, rfl, rfl, qq⟩
      · simp only [stateD, decide_eq_false h0, Bool.false_and] at qq
        rw [decide_eq_false h0]
        exact iteF qq
    | _ => exact iteF qq
end
end KP
/-! Slices and sums of tuples, told by what they hold; zip of two tuples as a walk. -/
namespace EL
open PySem PySem.Spec PyProof.Rows L2
theorem sl_of {K : PySem.W.Frag} {a : Addr} {H : Hp} {xs : List V} {lo hi : Option Int} {Q : VK} (h : SqT K H a xs) (k : ∀ b H', Same H H' → SqT K H' b (cutV xs lo hi) → Q (.ref b) H') : rSlA K (.ref a) lo hi H Q := by
  refine ⟨a, xs, rfl, h, fun hw => k a H (Same.refl H) ?_, fun _ p np => k p _ (same_upd np) (stOf upd_same)⟩
  have : cutV xs lo hi = xs := by
    unfold cutV
    rw [hw.1, hw.2, List.drop_zero, Nat.sub_zero, List.take_of_length_le (Nat.le_refl _)]
  rw [this]; exact h
theorem cat_of {K : PySem.W.Frag} {a b : Addr} {H : Hp} {xs ys : List V} {Q : VK} (h1 : SqT K H a xs) (h2 : SqT K H b ys) (hz : xs.length + ys.length ≤ 1000000) (k : ∀ c H', Same H H' → SqT K H' c (xs ++ ys) → Q (.ref c) H') : rCatA K (.ref a) (.ref b) H Q := by
  refine ⟨a, b, xs, ys, rfl, rfl, h1, h2, len_sz hz, fun e => k b H (Same.refl H) (by rw [e]; exact h2), fun _ e => k a H (Same.refl H) (by rw [e, List.append_nil]; exact h1), fun _ _ p np => k p _ (same_upd np) (stOf upd_same)⟩
theorem cut_tk (xs : List V) (n : Nat) : cutV xs none (some (n : Int)) = xs.take n := by
  unfold cutV
  rw [HT.sIx_nat, HT.sIx_none, List.drop_zero, Nat.sub_zero, List.take_eq_take_iff]
  omega
theorem cut_dp (xs : List V) (n : Nat) : cutV xs (some (n : Int)) none = xs.drop n := by
  unfold cutV
  rw [HT.sIx_nat, HT.sIx_none]
  by_cases h : n ≤ xs.length
  · rw [Nat.min_eq_left h, List.take_of_length_le (by rw [List.length_drop]; omega)]
  · rw [Nat.min_eq_right (by omega), List.drop_of_length_le (Nat.le_refl _), List.drop_of_length_le (by omega), List.take_nil]
theorem walk_zipT {K : PySem.W.Frag} {a b : Addr} {xs ys : List V} {n : Nat} (hn : n = min xs.length ys.length) : Walk (RZ.ItzT K a b) n (fun H => SqT K H a xs ∧ SqT K H b ys) (YPair (fun i => xs[i]?) (fun i => ys[i]?)) := by
  subst hn
  refine ⟨fun i _ hi q => ?_, fun _ q => ⟨xs, ys, q.1, q.2, by omega⟩, fun i H v H' _ q y => ?_⟩
  · have h1 : i < xs.length := by omega
    have h2 : i < ys.length := by omega
    exact ⟨xs, ys, xs[i], ys[i], q.1, q.2, by simp [h1], by simp [h2]⟩
  · obtain ⟨T, x, z, h1, h2, h3, h4, h5⟩ := y
    exact ⟨T, x, z, h1, h2, h3, h4 xs q.1, h5 ys q.2⟩
theorem dqAll_ints {K : PySem.W.Frag} {H : Hp} : ∀ {ns : List Int} {xs : List V}, DqAll K H xs (ns.map PyData.int) → xs = ns.map V.int
  | [], _, h => by cases h; rfl
  | n :: r, _, h => by
    cases h with
    | cons h1 h2 => cases h1; rw [dqAll_ints h2]; rfl
theorem ints_dqAll {K : PySem.W.Frag} {H : Hp} : ∀ ns : List Int, DqAll K H (ns.map V.int) (ns.map PyData.int)
  | [] => .nil
  | n :: r => .cons (.int n) (ints_dqAll r)
end EL
namespace KP
open PySem PySem.Spec PyProof.Rows L2 EL
open Evl (pss_cut)
theorem ascI_zip : ∀ l : List Int, ascI l = ((l.zip (l.drop 1)).map fun p => decide (p.1 < p.2)).all id
  | [] => rfl
  | [_] => rfl
  | a :: b :: r => by
    have ih := ascI_zip (b :: r)
    simp only [ascI, List.drop_succ_cons, List.drop_zero, List.zip_cons_cons, List.map_cons, List.all_cons, id_eq] at ih ⊢
    rw [ih]
theorem all_ints {n : Int} : ∀ {ds : List PyData}, ds.all (stateD n) = true → ds = (ds.map intOf).map PyData.int
  | [], _ => rfl
  | d :: r, h => by
    obtain ⟨h1, h2⟩ : stateD n d = true ∧ r.all (stateD n) = true := by simpa using h
    have := all_ints h2
    cases d with
    | int i => simp only [List.map_cons, intOf]; rw [← this]
    | _ => cases h1
section
variable {P : Program} {w : World} {K : PySem.W.Frag} {mg : Str → Option Value} {base : Heap}
theorem ok_IsTupleOfStates {f : Addr} {fd : FuncData} {k : Nat} (F : Fun K "is_tuple_of_states" "is_tuple_of_states" sIsTupleOfStates f fd) (nisinstance : mg "isinstance" = none) (ntuple : mg "tuple" = none) (nall : mg "all" = none) (nzip : mg "zip" = none)  (CIsState : Cal P w K mg base k "is_state" ["thing", "size"] (spLookN K stateD)) : FnOk P w K mg base CX0 (k + 1) f fd ["thing", "size"] (spLookN K statesD) := by
  refine F.ok scIsTupleOfStates (fun vs H Q E h => ?_) (fun cdv A outer s H vs Q E hr h => ?_)
  · obtain ⟨v, d, n, rfl, _⟩ := h; rfl
  · obtain ⟨v, d, n, rfl, hd, hz, q⟩ := h
    have hu := hr.units
    refine ⟨_, (pss_cons (ps_if (PW.pt (pw_or (pt_not (pt_val (pe_callB call_isi (by rfl) nisinstance boot_isinstance (pa_cons (pv 0) (pa_cons (pe_tyN ntuple boot_tuple) pa_nil))))) (pw_or1 (pt_not (pt_val (pe_callB (cr_all rfl) (by rfl) nall (by decide +kernel) (pa_cons (pe_lc (own := [("part", 4)]) (g := (gName 4)) (by rfl) scIsTupleOfStates.nd (pi_tup (pv 0)) (blkOk_by (own := [("part", 4)]) (N := ["thing", "size", "low", "high", "part"]) (sc := defScope sIsTupleOfStates) (by decide +kernel)) (fun _ _ _ _ _ => (pg_name (i := 4) scIsTupleOfStates.nd rfl (by first | exact Or.inl rfl | exact Or.inr rfl))) (fun _ _ _ _ _ => pts_nil) (fun _ _ _ _ _ => (pe_cal CIsState hr (by rfl) pass0 (pa_cons (pv 4) (pa_cons (pv 1) pa_nil))))) pa_nil))))))) (pss_one (ps_ret pe_bl)) pss_nil)
      (pss_one (ps_ret (pe_callB (cr_all rfl) (by rfl) nall (by decide +kernel) (pa_cons (pe_lc (own := [("low", 2), ("high", 3)]) (g := (gTup K 2 (gCons (gName 2) (gCons (gName 3) gNil)))) (by rfl) scIsTupleOfStates.nd (RZ.pi_zipA (by rfl) nzip (pa_cons (pv 0) (pa_cons (pe_slice sl_tupA (pv 0) (po_some pe_int) po_none) pa_nil))) (blkOk_by (own := [("low", 2), ("high", 3)]) (N := ["thing", "size", "low", "high", "part"]) (sc := defScope sIsTupleOfStates) (by decide +kernel)) (fun _ _ _ _ _ => (pg_tup (by rfl) (pgs_cons (pg_name (i := 2) scIsTupleOfStates.nd rfl (by first | exact Or.inl rfl | exact Or.inr rfl)) (pgs_cons (pg_name (i := 3) scIsTupleOfStates.nd rfl (by first | exact Or.inl rfl | exact Or.inr rfl)) pgs_nil)))) (fun _ _ _ _ _ => pts_nil) (fun _ _ _ _ _ => (pe_cmpR op_lt (pv 2) (pv 3) (nomark _)))) pa_nil))))), ?_⟩
    refine ⟨v, rfl, v, .ty "tuple", _, _, _, rfl, .ty "tuple", tyx_of hd, kit_ty (kit_tuple d), _, rfl, ?_⟩
    cases d with
    | tuple ds =>
      cases hd with
      | tup hs ha =>
      rename_i a xs
      have hzz : PyData.bulkAll ds ≤ 500000 := hz
      have hlen : xs.length ≤ 500000 := by rw [ha.len]; exact Nat.le_trans (bulk_len ds) hzz
      refine iteF ?_
      refine ⟨.ref a, rfl, a, rfl, ⟨xs, hs⟩, fun D nD => ?_⟩
      refine lc_it walk_tup (LcP D (fun _ H' => Same H H') (fun j v => ∃ e, ds[j]? = some e ∧ v = some (.bl (stateD n e)))) (LcP.start (same_upd nD)) (fun i H' _ p => by obtain ⟨_, _, _, _, sm⟩ := p; exact ex_t' sm hs) ?_ ?_
      · rintro i y H1 H2 hi ⟨ys, hl, hR, hD, sm⟩ ⟨rfl, hy⟩
        obtain ⟨e, ee, he⟩ := ha.at hy
        refine ⟨rfl, ?_⟩
        dsimp only [tYes]
        refine iteT ?_
        refine ⟨y, rfl, _, rfl, y, e, n, rfl, he.up sm, sz_mem hzz e (List.mem_of_getElem? ee), fun H3 sm3 => ?_⟩
        exact lcp_some hl hR (sm3 _ _ hD) (by omega) ⟨e, ee, rfl⟩ fun b o q => by rw [upd_ne (ne_of_none q nD)]; exact sm3 _ _ (sm b o q)
      rintro H1 ⟨ys, hl, hR, hD, sm⟩
      have e1 := rows_map (f := fun e => some (V.bl (stateD n e))) (l := ds) (by rw [hl, ha.len]) hR
      refine ⟨D, ds.map (stateD n), rfl, sqOf (by rw [hD, e1]; simp [List.filterMap_map, Function.comp_def]), _, rfl, ?_⟩
      have e2 : (ds.map (stateD n)).all id = ds.all (stateD n) := by simp [List.all_map, Function.comp_def]
      rw [e2]
      cases hall : ds.all (stateD n) with
      | false =>
        refine iteT ?_
        have := q H1 sm
        simp only [statesD, hall, Bool.false_and] at this
        exact this
      | true =>
        refine iteF ?_
        have hds := all_ints hall
        simp only [statesD, hall, Bool.true_and] at q
        generalize ds.map intOf = ns at hds q
        subst hds
        obtain rfl := dqAll_ints ha
        have hnl : ns.length ≤ 500000 := by simpa using hlen
        refine ⟨.ref a, rfl, .ref a, rfl, 1, rfl, ?_⟩
        dsimp only [tNoPart]
        refine sl_of (ex_t' sm hs) fun b H2 s2 h2 => ?_
        rw [show cutV (ns.map V.int) (some 1) none = (ns.drop 1).map V.int by rw [show (1 : Int) = ((1 : Nat) : Int) from rfl, cut_dp, List.map_drop]] at h2
        have h3 := ex_t' s2 (ex_t' sm hs)
        refine ⟨a, b, _, _, rfl, .inr ⟨h3, h2, fun D2 nD2 => ?_⟩⟩
        have hn : (ns.zip (ns.drop 1)).length = min (ns.map V.int).length ((ns.drop 1).map V.int).length := by simp
        refine lc_it (walk_zipT hn) (LcP D2 (fun _ H' => Same H2 H') (fun j v => ∃ p, (ns.zip (ns.drop 1))[j]? = some p ∧ v = some (.bl (decide (p.1 < p.2))))) (LcP.start (same_upd nD2)) (fun i H' _ p => by obtain ⟨_, _, _, _, sm⟩ := p; exact ⟨ex_t' sm h3, ex_t' sm h2⟩) ?_ ?_
        · rintro i y H3 H4 hi ⟨ys, hl, hR, hD2, sm2⟩ ⟨T, x, z, rfl, nT, rfl, hx, hy⟩
          obtain ⟨x', ex, rfl⟩ := get_map_int hx
          obtain ⟨z', ez, rfl⟩ := get_map_int hy
          have eT : SqT K (upd H3 T (.tup [.int x', .int z'])) T [.int x', .int z'] := stOf upd_same
          have lz : (ns.zip (ns.drop 1)).length ≤ 500000 := by rw [List.length_zip]; omega
          refine ⟨T, _, rfl, eT, rfl, _, _, rfl, _, _, rfl, rfl, rfl, ?_⟩
          dsimp only [tYes]
          refine iteT ⟨_, rfl, _, rfl, _, _, rfl, rfl, ?_⟩
          refine lcp_some hl hR (by rw [upd_ne (ne_of_none hD2 nT)]; exact hD2) (by omega) ⟨(x', z'), List.getElem?_zip_eq_some.mpr ⟨ex, ez⟩, rfl⟩ fun b o q => ?_
          rw [upd_ne (ne_of_none q nD2), upd_ne (ne_of_none (sm2 b o q) nT)]; exact sm2 b o q
        · rintro H3 ⟨ys, hl, hR, hD2, sm2⟩
          have e4 := rows_map (f := fun p : Int × Int => some (V.bl (decide (p.1 < p.2)))) (l := ns.zip (ns.drop 1)) hl hR
          refine ⟨D2, (ns.zip (ns.drop 1)).map (fun p => decide (p.1 < p.2)), rfl, sqOf (by rw [hD2, e4]; simp [List.filterMap_map, Function.comp_def]), ?_⟩
          rw [← ascI_zip]
          exact q H3 (sm.trans (s2.trans sm2))
    | _ => exact iteT (q H (Same.refl H))
theorem ok_IsMove {f : Addr} {fd : FuncData} {k : Nat} (F : Fun K "is_move" "is_move" sIsMove f fd) (nisinstance : mg "isinstance" = none) (ntuple : mg "tuple" = none) (nlen : mg "len" = none)  (CIsState : Cal P w K mg base k "is_state" ["thing", "size"] (spLookN K stateD)) (CIsText : Cal P w K mg base k "is_text" ["thing"] (spLook K isTextD)) : FnOk P w K mg base CX0 (k + 1) f fd ["thing", "size"] (spLookN K moveD) := by
  refine F.ok scIsMove (fun vs H Q E h => ?_) (fun cdv A outer s H vs Q E hr h => ?_)
  · obtain ⟨v, d, n, rfl, _⟩ := h; rfl
  · obtain ⟨v, d, n, rfl, hd, hz, q⟩ := h
    have hu := hr.units
    refine ⟨_, (pss_cons (ps_if (PW.pt (pw_or (pt_not (pt_val (pe_callB call_isi (by rfl) nisinstance boot_isinstance (pa_cons (pv 0) (pa_cons (pe_tyN ntuple boot_tuple) pa_nil))))) (pw_or1 (pt_cmpR op_ne (pe_callB call_len (by rfl) nlen boot_len (pa_cons (pv 0) pa_nil)) pe_int (nomark _))))) (pss_one (ps_ret pe_bl)) pss_nil)
      (pss_cons (ps_asg (pv 0) (pg_tup (by rfl) (pgs_cons (pg_name (i := 2) scIsMove.nd rfl (by first | exact Or.inl rfl | exact Or.inr rfl)) (pgs_cons (pg_name (i := 3) scIsMove.nd rfl (by first | exact Or.inl rfl | exact Or.inr rfl)) (pgs_cons (pg_name (i := 4) scIsMove.nd rfl (by first | exact Or.inl rfl | exact Or.inr rfl)) (pgs_cons (pg_name (i := 5) scIsMove.nd rfl (by first | exact Or.inl rfl | exact Or.inr rfl)) pgs_nil))))))
      (pss_one (ps_ret (pe_and (pe_cal CIsState hr (by rfl) pass0 (pa_cons (pv 2) (pa_cons (pv 1) pa_nil))) (pe_and (pe_cal CIsText hr (by rfl) pass0 (pa_cons (pv 3) pa_nil)) (pe_and (pe_cal CIsText hr (by rfl) pass0 (pa_cons (pv 4) pa_nil)) (pe_one (pe_cal CIsState hr (by rfl) pass0 (pa_cons (pv 5) (pa_cons (pv 1) pa_nil))))))))))), ?_⟩
    refine ⟨v, rfl, v, .ty "tuple", _, _, _, rfl, .ty "tuple", tyx_of hd, kit_ty (kit_tuple d), _, rfl, ?_⟩
    cases d with
    | tuple ds =>
      cases hd with
      | tup hs ha =>
      rename_i a xs
      have hzz : PyData.bulkAll ds ≤ 500000 := hz
      refine iteF ⟨.ref a, rfl, .ref a, (xs.length : Nat), rfl, .inr ⟨xs, hs, rfl⟩, rfl, _, rfl, ?_⟩
      by_cases e : V.int (xs.length : Nat) = V.int 4
      · rw [decide_eq_true e]
        refine iteF ?_
        have e2 : xs.length = 4 := by
          have := V.int.inj e
          exact_mod_cast this
        have e3 : ds.length = 4 := by rw [← ha.len, e2]
        obtain ⟨d0, d1, d2, d3, rfl⟩ : ∃ d0 d1 d2 d3, ds = [d0, d1, d2, d3] := by
          match ds, e3 with
          | [d0, d1, d2, d3], _ => exact ⟨d0, d1, d2, d3, rfl⟩
        obtain ⟨x0, x1, x2, x3, rfl⟩ : ∃ x0 x1 x2 x3, xs = [x0, x1, x2, x3] := by
          match xs, e2 with
          | [x0, x1, x2, x3], _ => exact ⟨x0, x1, x2, x3, rfl⟩
        have z := sz_mem hzz
        cases ha with
        | cons h0 ha =>
        cases ha with
        | cons h1 ha =>
        cases ha with
        | cons h2 ha =>
        cases ha with
        | cons h3 ha =>
        refine ⟨.ref a, rfl, a, _, rfl, hs, rfl, x0, _, rfl, x1, _, rfl, x2, _, rfl, x3, _, rfl, rfl, ?_⟩
        refine ⟨x0, rfl, _, rfl, x0, d0, n, rfl, h0, z d0 (by simp), fun H1 s1 => ⟨_, rfl, ?_⟩⟩
        simp only [moveD] at q
        cases b0 : stateD n d0 with
        | false => rw [b0] at q; exact iteF (q H1 s1)
        | true =>
        rw [b0] at q
        refine iteT ⟨x1, rfl, x1, d1, rfl, h1.up s1, z d1 (by simp), fun H2 s2 => ⟨_, rfl, ?_⟩⟩
        cases b1 : isTextD d1 with
        | false => rw [b1] at q; exact iteF (q H2 (s1.trans s2))
        | true =>
        rw [b1] at q
        refine iteT ⟨x2, rfl, x2, d2, rfl, (h2.up s1).up s2, z d2 (by simp), fun H3 s3 => ⟨_, rfl, ?_⟩⟩
        cases b2 : isTextD d2 with
        | false => rw [b2] at q; exact iteF (q H3 (s1.trans (s2.trans s3)))
        | true =>
        rw [b2] at q
        refine iteT ⟨x3, rfl, _, rfl, x3, d3, n, rfl, ((h3.up s1).up s2).up s3, z d3 (by simp), fun H4 s4 => ?_⟩
        exact q H4 (s1.trans (s2.trans (s3.trans s4)))
      · rw [decide_eq_false e]
        refine iteT ?_
        have e3 : moveD n (.tuple ds) = false := by
          match ds, ha with
          | [], _ => rfl
          | [_], _ => rfl
          | [_, _], _ => rfl
          | [_, _, _], _ => rfl
          | _ :: _ :: _ :: _ :: _ :: _, _ => rfl
          | [_, _, _, _], ha => exact absurd (by rw [ha.len]; rfl) e
        rw [← e3]
        exact q H (Same.refl H)
    | _ => exact iteT (q H (Same.refl H))
theorem ok_IsTupleOfMoves {f : Addr} {fd : FuncData} {k : Nat} (F : Fun K "is_tuple_of_moves" "is_tuple_of_moves" sIsTupleOfMoves f fd) (nisinstance : mg "isinstance" = none) (ntuple : mg "tuple" = none) (nall : mg "all" = none)  (CIsMove : Cal P w K mg base k "is_move" ["thing", "size"] (spLookN K moveD)) : FnOk P w K mg base CX0 (k + 1) f fd ["thing", "size"] (spLookN K movesD) := by
  refine F.ok scIsTupleOfMoves (fun vs H Q E h => ?_) (fun cdv A outer s H vs Q E hr h => ?_)
  · obtain ⟨v, d, n, rfl, _⟩ := h; rfl
  · obtain ⟨v, d, n, rfl, hd, hz, q⟩ := h
    have hu := hr.units
    refine ⟨_, (pss_one (ps_ret (pe_and (pe_callB call_isi (by rfl) nisinstance boot_isinstance (pa_cons (pv 0) (pa_cons (pe_tyN ntuple boot_tuple) pa_nil))) (pe_one (pe_callB (cr_all rfl) (by rfl) nall (by decide +kernel) (pa_cons (pe_lc (own := [("part", 2)]) (g := (gName 2)) (by rfl) scIsTupleOfMoves.nd (pi_tup (pv 0)) (blkOk_by (own := [("part", 2)]) (N := ["thing", "size", "part"]) (sc := defScope sIsTupleOfMoves) (by decide +kernel)) (fun _ _ _ _ _ => (pg_name (i := 2) scIsTupleOfMoves.nd rfl (by first | exact Or.inl rfl | exact Or.inr rfl))) (fun _ _ _ _ _ => pts_nil) (fun _ _ _ _ _ => (pe_cal CIsMove hr (by rfl) pass0 (pa_cons (pv 2) (pa_cons (pv 1) pa_nil))))) pa_nil)))))), ?_⟩
    refine ⟨v, rfl, v, .ty "tuple", _, _, _, rfl, .ty "tuple", tyx_of hd, kit_ty (kit_tuple d), _, rfl, ?_⟩
    cases d with
    | tuple ds =>
      cases hd with
      | tup hs ha =>
      rename_i a xs
      have hzz : PyData.bulkAll ds ≤ 500000 := hz
      have hlen : xs.length ≤ 500000 := by rw [ha.len]; exact Nat.le_trans (bulk_len ds) hzz
      refine iteT ?_
      refine ⟨.ref a, rfl, a, rfl, ⟨xs, hs⟩, fun D nD => ?_⟩
      refine lc_it walk_tup (LcP D (fun _ H' => Same H H') (fun j v => ∃ e, ds[j]? = some e ∧ v = some (.bl (moveD n e)))) (LcP.start (same_upd nD)) (fun i H' _ p => by obtain ⟨_, _, _, _, sm⟩ := p; exact ex_t' sm hs) ?_ ?_
      · rintro i y H1 H2 hi ⟨ys, hl, hR, hD, sm⟩ ⟨rfl, hy⟩
        obtain ⟨e, ee, he⟩ := ha.at hy
        refine ⟨rfl, ?_⟩
        dsimp only [tYes]
        refine iteT ?_
        refine ⟨y, rfl, _, rfl, y, e, n, rfl, he.up sm, sz_mem hzz e (List.mem_of_getElem? ee), fun H3 sm3 => ?_⟩
        exact lcp_some hl hR (sm3 _ _ hD) (by omega) ⟨e, ee, rfl⟩ fun b o q => by rw [upd_ne (ne_of_none q nD)]; exact sm3 _ _ (sm b o q)
      rintro H1 ⟨ys, hl, hR, hD, sm⟩
      have e1 := rows_map (f := fun e => some (V.bl (moveD n e))) (l := ds) (by rw [hl, ha.len]) hR
      refine ⟨D, ds.map (moveD n), rfl, sqOf (by rw [hD, e1]; simp [List.filterMap_map, Function.comp_def]), ?_⟩
      have e2 : (ds.map (moveD n)).all id = ds.all (moveD n) := by simp [List.all_map, Function.comp_def]
      rw [e2]
      exact q H1 sm
    | _ => exact iteF (q H (Same.refl H))
end
end KP
namespace KP
open PySem PySem.Spec PyProof.Rows L2 EL
open Evl (pss_cut)
abbrev sPacerInit : Stmt := inClass (topS 51) 0
abbrev sPacerTells : Stmt := inClass (topS 51) 1
abbrev sPacerEq : Stmt := inClass (topS 51) 7
theorem scPacerInit : FnScope ["self", "size", "begins", "moves", "ends"] ["self", "size", "begins", "moves", "ends"] (defScope sPacerInit) := ⟨rfl, rfl, rfl, by decide +kernel, rfl, by decide +kernel, by decide +kernel⟩
/-- a pacer's own dict -/
def pf (n : Int) (b m e : V) : List (Str × V) := [("size", .int n), ("begins", b), ("moves", m), ("ends", e)]
theorem pf_put (n : Int) (b m e : V) : putF "ends" e (putF "moves" m (putF "begins" b (putF "size" (.int n) []))) = pf n b m e := by
  have h1 : ¬ ("size" : Str) = "begins" := by decide +kernel
  have h2 : ¬ ("size" : Str) = "moves" := by decide +kernel
  have h3 : ¬ ("begins" : Str) = "moves" := by decide +kernel
  have h4 : ¬ ("size" : Str) = "ends" := by decide +kernel
  have h5 : ¬ ("begins" : Str) = "ends" := by decide +kernel
  have h6 : ¬ ("moves" : Str) = "ends" := by decide +kernel
  simp only [putF, if_neg h1, if_neg h2, if_neg h3, if_neg h4, if_neg h5, if_neg h6, pf]
theorem put3 (n : Int) (b : V) : putF "begins" b (putF "size" (.int n) []) = ([("size", .int n), ("begins", b)] : List (Str × V)) := by
  have h1 : ¬ ("size" : Str) = "begins" := by decide +kernel
  simp only [putF, if_neg h1]
theorem put4 (n : Int) (b m : V) : putF "moves" m (putF "begins" b (putF "size" (.int n) [])) = ([("size", .int n), ("begins", b), ("moves", m)] : List (Str × V)) := by
  have h2 : ¬ ("size" : Str) = "moves" := by decide +kernel
  have h3 : ¬ ("begins" : Str) = "moves" := by decide +kernel
  rw [put3]
  simp only [putF, if_neg h2, if_neg h3]
structure PTxt (K : PySem.W.Frag) (C : Addr) : Prop where
  cl : Cls K C
  nS : NoAttr K C "size"
  nB : NoAttr K C "begins"
  nM : NoAttr K C "moves"
  nE : NoAttr K C "ends"
/-- a pacer is made of what is right -/
def spPInit (K : PySem.W.Frag) (C : Addr) : Sp := fun vs H Q _ => ∃ (p dx : Addr) (n : Int) (b m e : V) (db dm de : PyData), vs = [.ref p, .int n, b, m, e] ∧ H p = some (.ins C dx []) ∧ Dq K H b db ∧ Dq K H m dm ∧ Dq K H e de ∧
  Sz db ∧ Sz dm ∧ Sz de ∧ 1 ≤ n ∧ statesD n db = true ∧ movesD n dm = true ∧ statesD n de = true ∧
  ∀ H', (∀ c o, c ≠ p → H c = some o → H' c = some o) → H' p = some (.ins C dx (pf n b m e)) → Q .non H'
section
variable {P : Program} {w : World} {K : PySem.W.Frag} {mg : Str → Option Value} {base : Heap}
theorem ok_PacerInit {f C : Addr} {fd : FuncData} {k : Nat} (F : Fun K "__init__" "Pacer.__init__" sPacerInit f fd) (T : PTxt K C) (CIsSize : Cal P w K mg base k "is_size" ["thing"] (spLook K sizeD)) (CIsTupleOfMoves : Cal P w K mg base k "is_tuple_of_moves" ["thing", "size"] (spLookN K movesD)) (CIsTupleOfStates : Cal P w K mg base k "is_tuple_of_states" ["thing", "size"] (spLookN K statesD)) : FnOk P w K mg base CX0 (k + 1) f fd ["self", "size", "begins", "moves", "ends"] (spPInit K C) := by
  refine F.ok scPacerInit (fun vs H Q E h => ?_) (fun cdv A outer s H vs Q E hr h => ?_)
  · obtain ⟨p, dx, n, b, m, e, db, dm, de, rfl, _⟩ := h; rfl
  · obtain ⟨p, dx, n, b, m, e, db, dm, de, rfl, hp, hb, hm, he, zb, zm, ze, hn, tb, tm, te, q⟩ := h
    have hu := hr.units
    refine ⟨_, (pss_cons (ps_if (pt_not (pt_val (pe_cal CIsSize hr (by rfl) pass0 (pa_cons (pv 1) pa_nil)))) (pss_one (ps_never)) pss_nil)
      (pss_cons (ps_if (pt_not (pt_val (pe_cal CIsTupleOfStates hr (by rfl) pass0 (pa_cons (pv 2) (pa_cons (pv 1) pa_nil))))) (pss_one (ps_never)) pss_nil)
      (pss_cons (ps_if (pt_not (pt_val (pe_cal CIsTupleOfMoves hr (by rfl) pass0 (pa_cons (pv 3) (pa_cons (pv 1) pa_nil))))) (pss_one (ps_never)) pss_nil)
      (pss_cons (ps_if (pt_not (pt_val (pe_cal CIsTupleOfStates hr (by rfl) pass0 (pa_cons (pv 4) (pa_cons (pv 1) pa_nil))))) (pss_one (ps_never)) pss_nil)
      (pss_cons (ps_fld (pv 0) (pv 1) rfl)
      (pss_cons (ps_fld (pv 0) (pv 2) rfl)
      (pss_cons (ps_fld (pv 0) (pv 3) rfl)
      (pss_one (ps_fld (pv 0) (pv 4) rfl))))))))), ?_⟩
    have sn : sizeD (.int n) = true := by simp [sizeD, hn]
    refine ⟨_, rfl, _, .int n, rfl, .int n, by show 0 ≤ 500000; decide, fun H1 s1 => ⟨_, rfl, ?_⟩⟩
    rw [sn]
    refine iteF ⟨b, rfl, _, rfl, b, db, n, rfl, hb.up s1, zb, fun H2 s2 => ⟨_, rfl, ?_⟩⟩
    rw [tb]
    refine iteF ⟨m, rfl, _, rfl, m, dm, n, rfl, (hm.up s1).up s2, zm, fun H3 s3 => ⟨_, rfl, ?_⟩⟩
    rw [tm]
    refine iteF ⟨e, rfl, _, rfl, e, de, n, rfl, ((he.up s1).up s2).up s3, ze, fun H4 s4 => ⟨_, rfl, ?_⟩⟩
    rw [te]
    have S := s1.trans (s2.trans (s3.trans s4))
    refine iteF ⟨_, rfl, _, rfl, p, C, dx, [], rfl, S _ _ hp, T.cl, T.nS, (by show 0 < 1000; decide), ?_⟩
    refine ⟨b, rfl, _, rfl, p, C, dx, _, rfl, upd_same, T.cl, T.nB, (by show 1 < 1000; decide), ?_⟩
    refine ⟨m, rfl, _, rfl, p, C, dx, _, rfl, upd_same, T.cl, T.nM, (by rw [put3]; show 2 < 1000; decide), ?_⟩
    refine ⟨e, rfl, _, rfl, p, C, dx, _, rfl, upd_same, T.cl, T.nE, (by rw [put4]; show 3 < 1000; decide), ?_⟩
    refine q _ (fun c o hc h => ?_) (by rw [upd_same, pf_put])
    rw [upd_ne hc, upd_ne hc, upd_ne hc, upd_ne hc]; exact S _ _ h
end
end KP
/-! The deck of draws beside a list that grows; rows of signs; numbers kept of a range. -/
namespace EL
open PySem PySem.Spec PyProof.Rows L2
theorem offNone {a q b : Addr} {m : Nat} {H H' : Hp} (o : Off a q H H') (d : Dw a q m H') (h : H' b = none) : H b = none := by
  cases e : H b with
  | none => rfl
  | some x =>
    obtain ⟨h1, h2⟩ := d.na h
    rw [o b x h1 h2 e] at h; cases h
theorem offUpd {a q b : Addr} {H H' : Hp} {x : HO} (o : Off a q H H') (h : H b = none) : Off a q H (upd H' b x) := fun c y h1 h2 e => by
  rw [upd_ne (ne_of_none e h)]; exact o c y h1 h2 e
theorem rows_signs {p : Nat → Prop} : ∀ {ys : List (Option V)}, (∀ (j : Nat) (v : Option V), ys[j]? = some v → ∃ c, p c ∧ v = some (.str ⟨#[c]⟩)) → ∃ cs : List Nat, ys.filterMap id = (cs.map fun c => (⟨#[c]⟩ : Str)).map V.str ∧ cs.length = ys.length ∧ ∀ c ∈ cs, p c
  | [], _ => ⟨[], rfl, rfl, fun _ m => (List.not_mem_nil m).elim⟩
  | y :: r, h => by
    obtain ⟨c, hc, e⟩ := h 0 y rfl
    obtain ⟨cs, e1, e2, e3⟩ := rows_signs (ys := r) fun j v e => h (j + 1) v (by rw [List.getElem?_cons_succ]; exact e)
    refine ⟨c :: cs, ?_, by rw [List.length_cons, List.length_cons, e2], fun d m => ?_⟩
    · subst e; rw [List.filterMap_cons]; simp only [id_eq, List.map_cons, e1]
    · rcases List.mem_cons.mp m with rfl | m
      · exact hc
      · exact e3 d m
theorem join_cps : ∀ cs : List Nat, (Str.join (Str.ofString "") (cs.map fun c => (⟨#[c]⟩ : Str))).cps.toList = cs
  | [] => rfl
  | [c] => rfl
  | c :: d :: r => by
    have ih := join_cps (d :: r)
    show ((⟨#[c]⟩ : Str) ++ Str.ofString "" ++ Str.join (Str.ofString "") ((d :: r).map fun c => (⟨#[c]⟩ : Str))).cps.toList = c :: d :: r
    rw [show ((⟨#[c]⟩ : Str) ++ Str.ofString "" ++ Str.join (Str.ofString "") ((d :: r).map fun c => (⟨#[c]⟩ : Str))).cps = #[c] ++ #[] ++ (Str.join (Str.ofString "") ((d :: r).map fun c => (⟨#[c]⟩ : Str))).cps from rfl, Array.toList_append, ih]
    rfl
theorem join_signs (cs : List Nat) : Txt.join (Str.ofString "") (cs.map fun c => (⟨#[c]⟩ : Str)) = ⟨cs.toArray⟩ := by
  refine str_ext ?_
  unfold Txt.join
  rw [StrLaws.glued_eq_join, join_cps]
theorem ones (cs : List Nat) : ((cs.map fun c => (⟨#[c]⟩ : Str)).map (·.length)).sum = cs.length := by
  induction cs with
  | nil => rfl
  | cons c r ih => rw [List.map_cons, List.map_cons, List.sum_cons, ih, List.length_cons, show (⟨#[c]⟩ : Str).length = 1 from rfl]; omega
theorem hid_upd {l : Addr} {H : Hp} {o : HO} : hid l l (upd H l o) = hid l l H := by
  funext b
  by_cases h : b = l
  · subst h; unfold hid; simp
  · rw [hid_ne h h, hid_ne h h, upd_ne h]
theorem hid_fresh {l p : Addr} {H : Hp} {o : HO} (h : H p = none) : Same (hid l l H) (hid l l (upd H p o)) := fun b x e => by
  obtain ⟨h1, _, h3⟩ := hid_some e
  rw [hid_ne h1 h1, upd_ne (ne_of_none h3 h)]; exact h3
theorem DqAll.snoc {K : PySem.W.Frag} {H : Hp} {v : V} {d : PyData} : ∀ {ds : List PyData} {vs : List V}, DqAll K H vs ds → Dq K H v d → DqAll K H (vs ++ [v]) (ds ++ [d])
  | [], _, h, e => by cases h; exact .cons e .nil
  | _ :: _, _, h, e => by
    cases h with
    | cons h1 h2 => exact .cons h1 (DqAll.snoc h2 e)
theorem same_hid {a q : Addr} {H H' : Hp} (s : Same H H') {m : Nat} (d : Dw a q m H) : Same (hid a q H) (hid a q H') := fun b o h => by
  obtain ⟨h1, h2, h3⟩ := hid_some h
  rw [hid_ne h1 h2]; exact s b o h3
theorem hid_of {a q p : Addr} {m : Nat} {H G : Hp} {o : HO} (d : Dw a q m H) (np : H p = none) (h : G p = some o) : hid a q G p = some o := by
  obtain ⟨h1, h2⟩ := d.na np
  rw [hid_ne h1 h2]; exact h
def hi (a q z : Addr) (H : Hp) : Hp := hid z z (hid a q H)
structure Dx (a q z : Addr) (m : Nat) (H : Hp) : Prop where
  dw : Dw a q m H
  li : z = a ∨ (z ≠ a ∧ z ≠ q ∧ ∃ ys, H z = some (.lst ys))
theorem Dx.step {a q z : Addr} {m n : Nat} {H H' : Hp} (d : Dx a q z m H) (o : EL.Off a q H H') (d' : Dw a q n H') : Dx a q z n H' :=
  ⟨d', d.li.imp id fun ⟨h1, h2, ys, h3⟩ => ⟨h1, h2, ys, o _ _ h1 h2 h3⟩⟩
theorem Dx.same {a q z : Addr} {m : Nat} {H H' : Hp} (d : Dx a q z m H) (s : Same H H') : Dx a q z m H' := d.step (.of_same s) (d.dw.same s)
theorem Dx.nz {a q z p : Addr} {m : Nat} {H : Hp} (d : Dx a q z m H) (h : H p = none) : p ≠ z := by
  rcases d.li with rfl | ⟨_, _, ys, h3⟩
  · exact (d.dw.na h).1
  · exact (ne_of_none h3 h).symm
theorem hi_sub {a q z : Addr} {H : Hp} : Same (hi a q z H) H := hid_sub.trans hid_sub
theorem hid_hid {z : Addr} {H H' : Hp} (s : Same H H') : Same (hid z z H) (hid z z H') := fun b o h => by
  obtain ⟨h1, _, h3⟩ := hid_some h
  rw [hid_ne h1 h1]; exact s b o h3
theorem off_hi {a q z : Addr} {H H' : Hp} (o : EL.Off a q H H') : Same (hi a q z H) (hi a q z H') := hid_hid o.hid
theorem hi_ne {a q z b : Addr} {H : Hp} (h1 : b ≠ a) (h2 : b ≠ q) (h3 : b ≠ z) : hi a q z H b = H b := by
  unfold hi; rw [hid_ne h3 h3, hid_ne h1 h2]
theorem same_hi {a q z : Addr} {H H' : Hp} (s : Same H H') {m : Nat} (d : Dx a q z m H) : Same (hi a q z H) (hi a q z H') := off_hi (.of_same s)
theorem hi_of {a q z p : Addr} {m : Nat} {H G : Hp} {o : HO} (d : Dx a q z m H) (np : H p = none) (h : G p = some o) : hi a q z G p = some o := by
  obtain ⟨h1, h2⟩ := d.dw.na np
  rw [hi_ne h1 h2 (d.nz np)]; exact h
theorem sqt_hid {K : PySem.W.Frag} {a q b : Addr} {m : Nat} {H : Hp} {xs : List V} (d : Dw a q m H) (h : SqT K H b xs) : SqT K (hid a q H) b xs := by
  obtain ⟨c, _, k⟩ := d
  obtain ⟨i, _, _, h3⟩ := k.top
  obtain ⟨ns, _, h5⟩ := k.que
  have ne : ∀ o, H b = some o → (∀ ys, o ≠ .lst ys) → (∀ ys, o ≠ .dK ys) → b ≠ a ∧ b ≠ q := fun o e n n' => ⟨fun z => by subst z; rw [h3] at e; exact n' _ (Option.some.inj e).symm, fun z => by subst z; rw [h5] at e; exact n _ (Option.some.inj e).symm⟩
  rcases h with (h | ⟨o, h⟩) | h
  · obtain ⟨n1, n2⟩ := ne _ h (fun _ z => nomatch z) (fun _ z => nomatch z)
    exact .inl (.inl (by rw [hid_ne n1 n2]; exact h))
  · obtain ⟨n1, n2⟩ := ne _ h (fun _ z => nomatch z) (fun _ z => nomatch z)
    exact .inl (.inr ⟨o, by rw [hid_ne n1 n2]; exact h⟩)
  · exact .inr h
theorem sqt_hi {K : PySem.W.Frag} {a q z b : Addr} {m : Nat} {H : Hp} {xs : List V} (d : Dx a q z m H) (h : SqT K H b xs) : SqT K (hi a q z H) b xs := by
  rcases d.li with rfl | ⟨_, _, ys, h3⟩
  · have e : hi z q z H = hid z q H := by
      funext b
      unfold hi
      by_cases hb : b = z
      · subst hb; unfold hid; simp
      · rw [hid_ne hb hb]
    rw [e]; exact sqt_hid d.dw h
  · have ne : ∀ o, H b = some o → (∀ ys, o ≠ .lst ys) → b ≠ z := fun o e n e2 => by subst e2; rw [h3] at e; exact n _ (Option.some.inj e).symm
    have h2 := sqt_hid d.dw h
    have key : ∀ o, (∀ ys, o ≠ .lst ys) → hid a q H b = some o → hi a q z H b = some o := fun o n e => by
      have := (hid_some e).2.2
      have nb := ne _ this n
      unfold hi; rw [hid_ne nb nb]; exact e
    rcases h2 with (h2 | ⟨o, h2⟩) | h2
    · exact .inl (.inl (key _ (fun _ z => nomatch z) h2))
    · exact .inl (.inr ⟨o, key _ (fun _ z => nomatch z) h2⟩)
    · exact .inr h2
theorem hi_upd {a q z : Addr} {H : Hp} {o : HO} : hi a q z (upd H z o) = hi a q z H := by
  funext b
  unfold hi
  by_cases h : b = z
  · subst h; unfold hid; simp
  · rw [hid_ne h h, hid_ne h h]
    unfold hid
    by_cases h2 : b = a ∨ b = q
    · rw [if_pos h2, if_pos h2]
    · rw [if_neg h2, if_neg h2, upd_ne h]
theorem rows_sub : ∀ (n0 : Nat) {ys : List (Option V)}, (∀ (j : Nat) (v : Option V), ys[j]? = some v → v = none ∨ v = some (.int ((n0 + j : Nat) : Int))) → ∃ ns : List Nat, ys.filterMap id = ns.map (fun (n : Nat) => V.int (n : Int)) ∧ ns.Pairwise (· < ·) ∧ (∀ x ∈ ns, n0 ≤ x ∧ x < n0 + ys.length) ∧ ns.length ≤ ys.length
  | _, [], _ => ⟨[], rfl, .nil, fun _ m => (List.not_mem_nil m).elim, Nat.le_refl _⟩
  | n0, y :: r, h => by
    obtain ⟨ns, e1, e2, e3, e4⟩ := rows_sub (n0 + 1) (ys := r) fun j v e => by
      have := h (j + 1) v (by rw [List.getElem?_cons_succ]; exact e)
      rwa [show n0 + (j + 1) = n0 + 1 + j by omega] at this
    rcases h 0 y rfl with rfl | rfl
    · refine ⟨ns, by rw [List.filterMap_cons]; simpa using e1, e2, fun x m => ?_, by rw [List.length_cons]; omega⟩
      have := e3 x m
      rw [List.length_cons]; omega
    · refine ⟨n0 :: ns, by rw [List.filterMap_cons]; simp only [id_eq, List.map_cons, e1, Nat.add_zero], .cons (fun x m => by have := e3 x m; omega) e2, fun x m => ?_, by rw [List.length_cons, List.length_cons]; omega⟩
      rw [List.length_cons]
      rcases List.mem_cons.mp m with rfl | m
      · omega
      · have := e3 x m; omega
end EL
namespace KP
open PySem PySem.Spec PyProof.Rows L2 EL
open Evl (pss_cut)
structure Mv where
  s : Nat
  l : List Nat
  r : List Nat
  t : Nat
abbrev mvD (m : Mv) : PyData := .tuple [.int m.s, .str ⟨m.l.toArray⟩, .str ⟨m.r.toArray⟩, .int m.t]
structure Plan where
  wide : Nat
  ins : List Nat
  ways : List Mv
  outs : List Nat
/-- ascending numbers below n -/
def Asc (n : Nat) (ns : List Nat) : Prop := ns.Pairwise (· < ·) ∧ ∀ x ∈ ns, x < n
structure Plan.Ok (p : Plan) (top many long : Nat) : Prop where
  w1 : 1 ≤ p.wide
  w2 : p.wide ≤ top
  i : Asc p.wide p.ins
  o : Asc p.wide p.outs
  n : p.ways.length ≤ many
  m : ∀ m ∈ p.ways, m.s < p.wide ∧ m.t < p.wide ∧ m.l.length ≤ long ∧ m.r.length ≤ long ∧ (∀ c ∈ m.l, c = 97 ∨ c = 98) ∧ ∀ c ∈ m.r, c = 97 ∨ c = 98
abbrev nats (ns : List Nat) : List PyData := ns.map fun (n : Nat) => PyData.int (n : Int)
theorem nats_dqAll {K : PySem.W.Frag} {H : Hp} : ∀ ns : List Nat, DqAll K H (ns.map fun (n : Nat) => V.int (n : Int)) (nats ns)
  | [] => .nil
  | n :: r => .cons (.int _) (nats_dqAll r)
def okMv (wide long : Nat) (m : Mv) : Prop := m.s < wide ∧ m.t < wide ∧ m.l.length ≤ long ∧ m.r.length ≤ long ∧ (∀ c ∈ m.l, c = 97 ∨ c = 98) ∧ ∀ c ∈ m.r, c = 97 ∨ c = 98
end KP
namespace KP
open PySem PySem.Spec PyProof.Rows L2 EL
open Evl (pss_cut)
theorem ascI_pair : ∀ {ns : List Nat}, ns.Pairwise (· < ·) → ascI ((nats ns).map intOf) = true
  | [], _ => rfl
  | [_], _ => rfl
  | a :: b :: r, h => by
    have h1 : a < b := (List.pairwise_cons.mp h).1 b List.mem_cons_self
    have ih := ascI_pair (ns := b :: r) (List.pairwise_cons.mp h).2
    simp only [List.map_cons, intOf, ascI] at ih ⊢
    rw [ih, Bool.and_true]
    exact decide_eq_true (by exact_mod_cast h1)
theorem states_ok {n : Nat} {ns : List Nat} (h : Asc n ns) : statesD n (.tuple (nats ns)) = true := by
  simp only [statesD, Bool.and_eq_true]
  refine ⟨List.all_eq_true.mpr fun d m => ?_, ascI_pair h.1⟩
  obtain ⟨x, hx, rfl⟩ := List.mem_map.mp m
  have := h.2 x hx
  simp only [stateD, Bool.and_eq_true, decide_eq_true_eq]
  omega
theorem ab_text {cs : List Nat} (h : ∀ c ∈ cs, c = 97 ∨ c = 98) : isTextD (.str ⟨cs.toArray⟩) = true := by
  show cs.all isLow = true
  refine List.all_eq_true.mpr fun c m => ?_
  rcases h c m with rfl | rfl <;> decide
theorem moves_ok {n long : Nat} {ms : List Mv} (h : ∀ m ∈ ms, okMv n long m) : movesD n (.tuple (ms.map mvD)) = true := by
  simp only [movesD]
  refine List.all_eq_true.mpr fun d m => ?_
  obtain ⟨x, hx, rfl⟩ := List.mem_map.mp m
  obtain ⟨h1, h2, _, _, h5, h6⟩ := h x hx
  simp only [moveD, stateD, ab_text h5, ab_text h6, Bool.and_eq_true, decide_eq_true_eq]
  refine ⟨⟨?_, ?_⟩, trivial, trivial, ?_, ?_⟩ <;> omega
theorem nats_bulk : ∀ ns : List Nat, PyData.bulkAll (nats ns) ≤ 10 * ns.length
  | [] => by simp [PyData.bulkAll]
  | n :: r => by
    have : PyData.bulkAll (r.map fun (n : Nat) => PyData.int (n : Int)) ≤ 10 * r.length := nats_bulk r
    simp only [List.map_cons, PyData.bulkAll, PyData.bulk, List.length_cons]; omega
theorem moves_bulk {n long : Nat} (hl : long ≤ 50) : ∀ {ms : List Mv}, (∀ m ∈ ms, okMv n long m) → PyData.bulkAll (ms.map mvD) ≤ 200 * ms.length
  | [], _ => by simp [PyData.bulkAll]
  | m :: r, h => by
    have ih := moves_bulk hl (ms := r) fun x hx => h x (List.mem_cons_of_mem _ hx)
    obtain ⟨_, _, h3, h4, _, _⟩ := h m List.mem_cons_self
    have e1 : (PyData.str ⟨m.l.toArray⟩).bulk = m.l.length := by simp [PyData.bulk, Str.length]
    have e2 : (PyData.str ⟨m.r.toArray⟩).bulk = m.r.length := by simp [PyData.bulk, Str.length]
    have e0 : (mvD m).bulk ≤ 150 := by
      show PyData.bulkAll [_, _, _, _] ≤ 150
      simp only [PyData.bulkAll, e1, e2]
      simp only [PyData.bulk]; omega
    simp only [List.map_cons, PyData.bulkAll, List.length_cons]; omega
theorem asc_len {n : Nat} {ns : List Nat} (h : Asc n ns) : ns.length ≤ n := by
  have key : ∀ (k : Nat) (ns : List Nat), ns.Pairwise (· < ·) → (∀ x ∈ ns, k ≤ x) → (∀ x ∈ ns, x < n) → ns.length ≤ n - k := by
    intro k ns
    induction ns generalizing k with
    | nil => intros; simp
    | cons a r ih =>
      intro h1 h2 h3
      have := ih (a + 1) (List.pairwise_cons.mp h1).2 (fun x m => (List.pairwise_cons.mp h1).1 x m) fun x m => h3 x (List.mem_cons_of_mem _ m)
      have h4 := h2 a List.mem_cons_self
      have h5 := h3 a List.mem_cons_self
      rw [List.length_cons]; omega
  have := key 0 ns h.1 (fun _ _ => Nat.zero_le _) h.2
  omega
/-- a pacer of a plan -/
structure PacAt (K : PySem.W.Frag) (C : Addr) (H : Hp) (x : Addr) (pl : Plan) : Prop where
  at' : ∃ dx vb vm ve : Addr, H x = some (.ins C dx (pf (pl.wide : Int) (.ref vb) (.ref vm) (.ref ve))) ∧ Dq K H (.ref vb) (.tuple (nats pl.ins)) ∧ Dq K H (.ref vm) (.tuple (pl.ways.map mvD)) ∧ Dq K H (.ref ve) (.tuple (nats pl.outs))
theorem PacAt.up {K : PySem.W.Frag} {C : Addr} {H H' : Hp} {x : Addr} {pl : Plan} (h : PacAt K C H x pl) (s : Same H H') : PacAt K C H' x pl := by
  obtain ⟨dx, vb, vm, ve, h1, h2, h3, h4⟩ := h.at'
  exact ⟨dx, vb, vm, ve, s _ _ h1, h2.up s, h3.up s, h4.up s⟩
/-- the class, callable -/
structure CalC (P : Program) (w : World) (K : PySem.W.Frag) (mg : Str → Option Value) (base : Heap) (k : Nat) (C : Addr) where
  f : Addr
  fd : FuncData
  mke : Mk K C f
  ok : FnOk P w K mg base CX0 k f fd ["self", "size", "begins", "moves", "ends"] (spPInit K C)
  g : mg "Pacer" = some (.ref C)
  b : Binds K fd ["self", "size", "begins", "moves", "ends"] []
end KP
namespace KP
open PySem PySem.Spec PyProof.Rows L2 EL
theorem dq_mv {K : PySem.W.Frag} {H : Hp} {v : V} {m : Mv} (h : Dq K H v (mvD m)) : ∃ a, v = .ref a ∧ SqT K H a [.int (m.s : Int), .str ⟨m.l.toArray⟩, .str ⟨m.r.toArray⟩, .int (m.t : Int)] := by
  cases h with
  | tup hs ha =>
    cases ha with
    | cons h1 ha =>
      cases ha with
      | cons h2 ha =>
        cases ha with
        | cons h3 ha =>
          cases ha with
          | cons h4 ha =>
            cases ha; cases h1; cases h2; cases h3; cases h4
            exact ⟨_, rfl, hs⟩
theorem pf_b (n : Int) (b m e : V) : (pf n b m e).lookup ("begins" : Str) = some b := by
  have h1 : (("begins" : Str) == "size") = false := by decide +kernel
  simp [pf, List.lookup, h1]
theorem pf_m (n : Int) (b m e : V) : (pf n b m e).lookup ("moves" : Str) = some m := by
  have h1 : (("moves" : Str) == "size") = false := by decide +kernel
  have h2 : (("moves" : Str) == "begins") = false := by decide +kernel
  simp [pf, List.lookup, h1, h2]
theorem pf_e (n : Int) (b m e : V) : (pf n b m e).lookup ("ends" : Str) = some e := by
  have h1 : (("ends" : Str) == "size") = false := by decide +kernel
  have h2 : (("ends" : Str) == "begins") = false := by decide +kernel
  have h3 : (("ends" : Str) == "moves") = false := by decide +kernel
  simp [pf, List.lookup, h1, h2, h3]
end KP
namespace KP
open PySem PySem.Spec PyProof.Rows L2 EL
open Evl (pss_cut)

theorem scPacerEq : FnScope ["self", "other"] ["self", "other"] (defScope sPacerEq) := ⟨rfl, rfl, rfl, by decide +kernel, rfl, by decide +kernel, by decide +kernel⟩
/-- plans alike, part by part -/
def peq (a b : Plan) : Bool := decide (V.int (a.wide : Int) = V.int (b.wide : Int)) && (PyData.eqv (.tuple (nats a.ins)) (.tuple (nats b.ins)) && (PyData.eqv (.tuple (a.ways.map mvD)) (.tuple (b.ways.map mvD)) && PyData.eqv (.tuple (nats a.outs)) (.tuple (nats b.outs))))
/-- texts of small letters alone, for ==: signs below 128 -/
def AscP (p : Plan) : Prop := ∀ m ∈ p.ways, (∀ c ∈ m.l, c < 128) ∧ ∀ c ∈ m.r, c < 128
theorem nats_lay : ∀ ns : List Nat, PyData.canLayAll0 (nats ns) = true ∧ PyData.depthAll (nats ns) = 0 ∧ PyData.hasDictAll (nats ns) = false
  | [] => by simp [PyData.canLayAll0, PyData.depthAll, PyData.hasDictAll]
  | n :: r => by
    obtain ⟨h1, h2, h3⟩ : PyData.canLayAll0 (r.map fun (n : Nat) => PyData.int (n : Int)) = true ∧ PyData.depthAll (r.map fun (n : Nat) => PyData.int (n : Int)) = 0 ∧ PyData.hasDictAll (r.map fun (n : Nat) => PyData.int (n : Int)) = false := nats_lay r
    simp only [List.map_cons, PyData.canLayAll0, PyData.canLay0, PyData.depthAll, PyData.depth, PyData.hasDictAll, PyData.hasDict, h1, h2, h3]
    exact ⟨rfl, rfl, rfl⟩
theorem shaped_nats (ns : List Nat) : SeqAt.shaped (.tuple (nats ns)) = true := by
  obtain ⟨h1, h2, _⟩ := nats_lay ns
  simp only [SeqAt.shaped, PyData.canLay0, PyData.depth, h1, h2]; rfl
theorem strOk_codes {cs : List Nat} (h : ∀ c ∈ cs, c < 128) : PyData.strOk ⟨cs.toArray⟩ = true := by
  unfold PyData.strOk
  rw [Array.all_eq_true_iff_forall_mem]
  intro c hc
  have := h c (by simpa using hc)
  exact decide_eq_true (by omega)
theorem moves_lay : ∀ ms : List Mv, (∀ m ∈ ms, (∀ c ∈ m.l, c < 128) ∧ ∀ c ∈ m.r, c < 128) → PyData.canLayAll0 (ms.map mvD) = true ∧ PyData.depthAll (ms.map mvD) ≤ 1 ∧ PyData.hasDictAll (ms.map mvD) = false
  | [], _ => by simp [PyData.canLayAll0, PyData.depthAll, PyData.hasDictAll]
  | m :: r, h => by
    obtain ⟨h1, h2, h3⟩ := moves_lay r fun x hx => h x (List.mem_cons_of_mem _ hx)
    obtain ⟨a1, a2⟩ := h m List.mem_cons_self
    have b1 := strOk_codes a1
    have b2 := strOk_codes a2
    simp only [List.map_cons, PyData.canLayAll0, PyData.canLay0, PyData.depthAll, PyData.depth, PyData.hasDictAll, PyData.hasDict, h1, h3, b1, b2]
    refine ⟨rfl, by omega, rfl⟩
theorem shaped_moves {ms : List Mv} (h : ∀ m ∈ ms, (∀ c ∈ m.l, c < 128) ∧ ∀ c ∈ m.r, c < 128) : SeqAt.shaped (.tuple (ms.map mvD)) = true := by
  obtain ⟨h1, h2, _⟩ := moves_lay ms h
  simp only [SeqAt.shaped, PyData.canLay0, PyData.depth, h1, Bool.true_and]
  exact decide_eq_true (by omega)
def spEq (K : PySem.W.Frag) (C : Addr) : Sp := fun vs H Q _ => ∃ (p r : Addr) (a b : Plan), vs = [.ref p, .ref r] ∧ PacAt K C H p a ∧ PacAt K C H r b ∧ AscP a ∧ AscP b ∧ Q (.bl (peq a b)) H
theorem pf_s (n : Int) (b m e : V) : (pf n b m e).lookup ("size" : Str) = some (.int n) := by
  simp [pf, List.lookup]
mutual
theorem dp_of {K : PySem.W.Frag} {H : Hp} : ∀ (d : PyData) (v : V), Dq K H v d → d.hasDict = false → Dp K H v d
  | .none, _, h, _ => by cases h; exact .non
  | .bool b, _, h, _ => by cases h; exact .bl b
  | .int i, _, h, _ => by cases h; exact .int i
  | .str x, _, h, _ => by cases h; exact .str x
  | .list ds, _, h, n => by
    cases h with
    | lst hs ha => exact .lst hs (dpAll_of ds _ ha (by simpa [PyData.hasDict] using n))
  | .tuple ds, _, h, n => by
    cases h with
    | tup hs ha => exact .tup hs (dpAll_of ds _ ha (by simpa [PyData.hasDict] using n))
  | .dict _, _, h, n => by simp [PyData.hasDict] at n
theorem dpAll_of {K : PySem.W.Frag} {H : Hp} : ∀ (ds : List PyData) (vs : List V), DqAll K H vs ds → PyData.hasDictAll ds = false → DpAll K H vs ds
  | [], _, h, _ => by cases h; exact .nil
  | d :: ds, _, h, n => by
    cases h with
    | cons h1 h2 =>
      obtain ⟨n1, n2⟩ : d.hasDict = false ∧ PyData.hasDictAll ds = false := by simpa [PyData.hasDictAll] using n
      exact .cons (dp_of d _ h1 n1) (dpAll_of ds _ h2 n2)
end
section
variable {P : Program} {w : World} {K : PySem.W.Frag} {mg : Str → Option Value} {base : Heap}
theorem ok_PacerEq {f C : Addr} {fd : FuncData} {k : Nat} (F : Fun K "__eq__" "Pacer.__eq__" sPacerEq f fd) (T : PTxt K C) (nisinstance : mg "isinstance" = none) (gC : mg "Pacer" = some (.ref C)) (kC : PySem.W.kitOne K (.ref C) (.ref C) = some true) (hT : ∀ (H : Hp) (a dx : Addr) (fs : List (Str × V)), H a = some (.ins C dx fs) → TyOf K H (.ref a) (.ref C)) : FnOk P w K mg base CX0 (k + 1) f fd ["self", "other"] (spEq K C) := by
  refine F.ok scPacerEq (fun vs H Q E h => ?_) (fun cdv A outer s H vs Q E hr h => ?_)
  · obtain ⟨p, r, a, b, rfl, _⟩ := h; rfl
  · obtain ⟨p, r, a, b, rfl, hP, hR, ha, hb, q⟩ := h
    have hu := hr.units
    refine ⟨_, (pss_one (ps_ret (pe_and (pe_callB call_isi (by rfl) nisinstance boot_isinstance (pa_cons (pv 1) (pa_cons (pe_glob rfl gC (show RelV (.ref C) (.ref C) from rfl)) pa_nil))) (pe_and (pe_cmpR op_eq (pe_fld (pv 0) rfl) (pe_fld (pv 1) rfl) (nomark _)) (pe_and (pe_cmpR (op_eqD hu) (pe_fld (pv 0) rfl) (pe_fld (pv 1) rfl) (nomark _)) (pe_and (pe_cmpR (op_eqD hu) (pe_fld (pv 0) rfl) (pe_fld (pv 1) rfl) (nomark _)) (pe_one (pe_cmpR (op_eqD hu) (pe_fld (pv 0) rfl) (pe_fld (pv 1) rfl) (nomark _))))))))), ?_⟩
    obtain ⟨dx, vb, vm, ve, e1, e2, e3, e4⟩ := hP.at'
    obtain ⟨dy, ub, um, ue, f1, f2, f3, f4⟩ := hR.at'
    refine ⟨.ref r, rfl, .ref r, .ref C, _, _, true, rfl, .own C, .base (hT H r dy _ f1), kC, _, rfl, iteT ?_⟩
    refine ⟨_, rfl, p, C, dx, _, _, rfl, e1, T.cl, T.nS, pf_s _ _ _ _, _, rfl, r, C, dy, _, _, rfl, f1, T.cl, T.nS, pf_s _ _ _ _, rfl, _, rfl, ?_⟩
    unfold peq at q
    cases c1 : decide (V.int (a.wide : Int) = V.int (b.wide : Int)) with
    | false => rw [c1] at q; exact iteF q
    | true =>
    rw [c1] at q
    have nd : ∀ ns : List Nat, (PyData.tuple (nats ns)).hasDict = false := fun ns => by simpa only [PyData.hasDict] using (nats_lay ns).2.2
    refine iteT ⟨_, rfl, p, C, dx, _, _, rfl, e1, T.cl, T.nB, pf_b _ _ _ _, _, rfl, r, C, dy, _, _, rfl, f1, T.cl, T.nB, pf_b _ _ _ _, _, _, dp_of _ _ e2 (nd _), dp_of _ _ f2 (nd _), shaped_nats _, shaped_nats _, _, rfl, ?_⟩
    cases c2 : PyData.eqv (.tuple (nats a.ins)) (.tuple (nats b.ins)) with
    | false => rw [c2] at q; exact iteF q
    | true =>
    rw [c2] at q
    refine iteT ⟨_, rfl, p, C, dx, _, _, rfl, e1, T.cl, T.nM, pf_m _ _ _ _, _, rfl, r, C, dy, _, _, rfl, f1, T.cl, T.nM, pf_m _ _ _ _, _, _, dp_of _ _ e3 (by simpa only [PyData.hasDict] using (moves_lay _ ha).2.2), dp_of _ _ f3 (by simpa only [PyData.hasDict] using (moves_lay _ hb).2.2), shaped_moves ha, shaped_moves hb, _, rfl, ?_⟩
    cases c3 : PyData.eqv (.tuple (a.ways.map mvD)) (.tuple (b.ways.map mvD)) with
    | false => rw [c3] at q; exact iteF q
    | true =>
    rw [c3] at q
    exact iteT ⟨_, rfl, p, C, dx, _, _, rfl, e1, T.cl, T.nE, pf_e _ _ _ _, _, rfl, r, C, dy, _, _, rfl, f1, T.cl, T.nE, pf_e _ _ _ _, _, _, dp_of _ _ e4 (nd _), dp_of _ _ f4 (nd _), shaped_nats _, shaped_nats _, q⟩
end
end KP
/-! {x: True for x in e}, e a list of tuples: a dict whose keys are these tuples. -/
namespace EL
open PySem PySem.Spec PyProof.Rows L2
theorem upd_upd {H : Hp} {a : Addr} {x y : HO} : L2.upd (L2.upd H a x) a y = L2.upd H a y := by
  funext b
  by_cases h : b = a
  · subst h; rw [upd_same, upd_same]
  · rw [upd_ne h, upd_ne h, upd_ne h]
/-- the dict of the first keys -/
def dT1 (ks : List (List L2.Key)) : List (List L2.Key × V) := ks.foldl (fun acc k => putK acc k (.bl true)) []
theorem dT1_snoc (ks : List (List L2.Key)) (k : List L2.Key) : dT1 (ks ++ [k]) = putK (dT1 ks) k (.bl true) := by
  unfold dT1; rw [List.foldl_append]; rfl
theorem dT1_len (ks : List (List L2.Key)) : (dT1 ks).length ≤ ks.length := by
  have key : ∀ (ks : List (List L2.Key)) (acc : List (List L2.Key × V)), (ks.foldl (fun acc k => putK acc k (.bl true)) acc).length ≤ acc.length + ks.length := by
    intro ks
    induction ks with
    | nil => intro acc; exact Nat.le_refl _
    | cons k r ih =>
      intro acc
      have h1 := ih (putK acc k (.bl true))
      have h2 := length_putK acc k (V.bl true)
      simp only [List.foldl_cons, List.length_cons]; omega
  have := key ks []
  simpa [dT1] using this
def tDcT (K : PySem.W.Frag) (te : TE) : TE := fun σ H Q => te σ H fun v H1 => ∃ (l : Addr) (vs : List V) (ks : List (List L2.Key)), v = .ref l ∧ SqL K H1 l vs ∧ vs.length = ks.length ∧ vs.length ≤ 1000000 ∧
  (∀ (j : Nat) (k : List L2.Key), ks[j]? = some k → ∃ T, vs[j]? = some (.ref T) ∧ H1 T = some (.tup (k.map kV))) ∧ ∀ D, H1 D = none → Q (.ref D) (L2.upd H1 D (.dT (dT1 ks)))
section
variable {X : Cx} {e : Expr} {te : TE} {x : Str} {scope : Scope} {p0 p1 p2 pos : Pos} {kk : Nat}
theorem dct_goes {pins : List (Addr × Obj)} {σ : L2.St} {H1 : Hp} {s1 : Shared} {l : Addr} {vs : List V} {ks : List (List L2.Key)} {use : Option (Value → Sem Unit)} {Qf : Value → Shared → Prop} (hc : X.calm = true) (hu : X.A.units + 1 < cLine) (hx : scope.names.lookup x = some .local)
    (hkind : scope.kind = .function) (hdb : (x == ("__debug__" : Str)) = false) (I1 : Inv X pins σ H1 s1) (hS : SqL X.K H1 l vs) (hlen : vs.length = ks.length) (hsz : vs.length ≤ 1000000)
    (hk : ∀ (j : Nat) (k : List L2.Key), ks[j]? = some k → ∃ T, vs[j]? = some (.ref T) ∧ H1 T = some (.tup (k.map kV)))
    (fin : ∀ (D C : Addr) (m : Str → Option Value) (s' : Shared), H1 D = none → s'.heap.Ns C m → Inv X pins σ (L2.upd H1 D (.dT (dT1 ks))) s' → FpOk X pins (L2.upd H1 D (.dT (dT1 ks))) C → compEnds (model X.prog X.w) X.A X.xe use Qf (.ref D) (compEnvC scope [] C X.env) (.ok .next) s') :
    wpAny (model X.prog X.w) X.A (pyIter (.ref l)) (DcGoes X.prog X.w X.A X.xe X.env scope [] (.Name x p0) [] (.Name x p1) (.Constant (.bool true) kk p2) use Qf) X.xe s1 := by
  obtain ⟨its, rv, pl, hz⟩ := I1.list hS
  have hl : s1.heap.IsList l its.toArray := pl.isList
  refine wpAny_pyIter_list hl ?_
  have hh := I1.ok.hd hc
  have lI : l ≠ s1.heap.objs.size := fun e => by
    obtain ⟨o, ho, _⟩ := hl
    have := Heap.lt_size ho
    rw [e] at this
    exact Nat.lt_irrefl _ this
  have up2 : ∀ b o, s1.heap.get? b = some o → (s1.heap.push { cls := .type "list_iterator", data := .fields #[.ref l, .int 0 0] }).get? b = some o := fun b o e => Heap.get?_push_of_some _ e
  have sz2 : (s1.heap.push { cls := .type "list_iterator", data := .fields #[.ref l, .int 0 0] }).objs.size = s1.heap.objs.size + 1 := Heap.size_push ..
  generalize hI : s1.heap.objs.size = it at lI sz2 ⊢
  refine ⟨it, [it, l], [it], its.toArray.size, _, _, rfl, Goes.list hh it l lI its.toArray, ⟨⟨_, (by rw [← hI]; exact Heap.get?_push_size _ rfl), rfl, rfl⟩, ?_⟩, fun D C s3 cb hD => ?_⟩
  · obtain ⟨o, ho, hr⟩ := hl
    exact ⟨o, up2 _ _ ho, hr⟩
  have lenV : its.length = vs.length := rv.length.symm
  have nD : it + 1 ≤ D := by have := cb.newD; rw [← sz2]; exact this
  have nC : it + 1 ≤ C := by have := cb.newC; rw [← sz2]; exact this
  have old3 := cb.old
  have ns3 := cb.names
  have neDC := cb.ne
  obtain ⟨h3, tk3, rfl⟩ := cb.only
  have hD0 : H1 D = none := I1.hok.fresh (by omega)
  have hC0 : H1 C = none := I1.hok.fresh (by omega)
  have hI0 : H1 it = none := I1.hok.fresh (by omega)
  have fpI : ∀ o : HO, FpOk X pins (L2.upd H1 D o) it := fun o => I1.fpOk (by omega) (by rw [upd_ne (Nat.ne_of_lt nD)]; exact hI0)
  have fpC : ∀ o : HO, FpOk X pins (L2.upd H1 D o) C := fun o => I1.fpOk (by omega) (by rw [upd_ne neDC.symm]; exact hC0)
  refine ⟨fun i s' => ∃ m, s'.heap.Ns C m ∧ Inv X pins σ (L2.upd H1 D (.dT (dT1 (ks.take i)))) s', ⟨_, ns3, ?_⟩, ?_, ?_, ?_⟩
  · exact I1.laid (t' := tk3) (fun b o e => old3 b o (up2 b o e)) (by omega) ⟨Nat.zero_le _, beq_eq_false_iff_ne.mpr (Ne.symm (Nat.ne_of_lt (Nat.lt_of_lt_of_le I1.big (by rw [hI]; exact Nat.le_of_succ_le nD)))), [], .nil, _, #[], 0, hD, ⟨rfl, rfl, rfl⟩, rfl, rfl, List.nodup_nil⟩
  · rintro i s' h' tk ⟨m, hn, J⟩ k _
    obtain ⟨f0, f1, f2, f3, f4, f5⟩ := fpI (.dT (dT1 (ks.take i)))
    refine ⟨m, ?_, J.turned (t' := tk) (fun b o hb e => k b o (by simpa using hb) e) f0 f1 f3 f4 f5⟩
    obtain ⟨o, es, n, e, d, r⟩ := hn
    exact ⟨o, es, n, k C o (by simp only [List.mem_singleton]; exact (Nat.ne_of_lt nC).symm) e, d, r⟩
  · rintro i v s' hi hY hSt ⟨m, hn, J⟩
    have hi2 : i < ks.length := by rw [List.size_toArray, lenV, hlen] at hi; exact hi
    obtain ⟨T, hT1, hT2⟩ := hk i _ (List.getElem?_eq_getElem hi2)
    obtain ⟨u, hu1, hu2⟩ := rv.get hT1
    have ev : v = .ref T := by
      have e1 : its[i]? = some v := by simpa using hY
      rw [e1] at hu1
      cases hu1
      exact hu2
    subst ev
    have hk' : (compEnvC scope [] C X.env).scope.kind = .function := by simp [compEnvC, relabel, hkind]
    have lk : Env.kindOf (compEnvC scope [] C X.env) x = some .local := lookup_relabel_local hx
    refine wpAny_assign_Name (wpAny_storeName_local (m := m) (hp := by rw [hk']; rfl) lk hn fun h' hn' sb => ?_)
    obtain ⟨f0, f1, f2, f3, f4, f5⟩ := fpC (.dT (dT1 (ks.take i)))
    have J2 := J.turned (t' := s'.toks + 1) (fun b o hb e => (sb.2 b hb).trans e) f0 f1 f3 f4 f5
    refine wpAny_pure ?_
    rw [if_pos rfl]
    refine wpAny_Name (wpAny_loadName_local hk' lk hn' (if_pos rfl) ?_) hdb
    refine wpAny_Constant_bool ?_
    have eD : L2.upd H1 D (.dT (dT1 (ks.take i))) D = some (.dT (dT1 (ks.take i))) := upd_same
    obtain ⟨zz, hd, xs, rel, dd⟩ := dt_of J2.hok eD
    have hz' : xs.length ≤ sizeLine := by rw [← Paired.length rel]; exact zz
    have neT : T ≠ D := ne_of_none hT2 hD0
    have eb : L2.upd H1 D (.dT (dT1 (ks.take i))) T = some (.tup (ks[i].map kV)) := by rw [upd_ne neT]; exact hT2
    have hl2 : (putK (dT1 (ks.take i)) ks[i] (V.bl true)).length ≤ sizeLine := by
      have h1 := length_putK (dT1 (ks.take i)) ks[i] (V.bl true)
      have h2 := dT1_len (ks.take i)
      rw [List.length_take] at h2
      exact Nat.le_trans h1 (lt_sz (by omega))
    have ksn : dT1 (ks.take (i + 1)) = putK (dT1 (ks.take i)) ks[i] (.bl true) := by
      rw [List.take_add_one, List.getElem?_eq_getElem hi2]
      exact dT1_snoc _ _
    have llt : l < it := by
      obtain ⟨o, ho, _⟩ := hl
      rw [← hI]; exact Heap.lt_size ho
    have itC : it ≠ C := Nat.ne_of_lt nC
    have itD : it ≠ D := Nat.ne_of_lt nD
    have lC : l ≠ C := Nat.ne_of_lt (Nat.lt_trans llt nC)
    have lD : l ≠ D := Nat.ne_of_lt (Nat.lt_trans llt nD)
    refine wpAny_dictSet_heap (hsz := hz') (show X.A.units < cLine by omega) (key_of J2.hok eb) dd fun h4 dd' sb2 => ?_
    have keep4 : ∀ b o, b ≠ C → b ≠ D → s'.heap.get? b = some o → h4.get? b = some o := fun b o h1 h2 e => (sb2.2 b h2).trans ((sb.2 b h1).trans e)
    refine ⟨⟨fun x' => if x' = x then some (.ref T) else m x', ?_, ?_⟩, ?_, ?_⟩
    · obtain ⟨o, es, n, e, d, r⟩ := hn'
      exact ⟨o, es, n, (sb2.2 C neDC.symm).trans e, d, r⟩
    · obtain ⟨q4, es, ep, hq, y2, y3, y4, _, y5⟩ := dd'
      have J3 := d_write (t' := s'.toks + 1 + (tupleKind (mixKind X.prog X.w)).draws ks[i]) (ob := .dT (putK (dT1 (ks.take i)) ks[i] (.bl true))) J2 (by rw [eD]; exact True.intro) sb2 ⟨q4, hq⟩ ⟨hl2, hd, _, (rel.put ks[i] eb (show RelV (.bl true) (.bool true) from rfl)).keeps fun c ys ec => by
        rw [upd_ne (ne_of ec eD (fun z => nomatch z))]; exact ec, q4, es, ep, hq, y2, y3, y4, y5⟩
      rw [upd_upd] at J3
      rw [ksn]
      exact J3
    · obtain ⟨o, ho, hr⟩ := hSt.1
      exact ⟨o, keep4 it o itC itD ho, hr⟩
    · obtain ⟨o, ho, hr⟩ := hSt.2
      exact ⟨o, keep4 l o lC lD ho, hr⟩
  · rintro s' ⟨m, hn, J⟩
    have f := fpC (.dT (dT1 (ks.take its.toArray.size)))
    rw [List.size_toArray, lenV, hlen, List.take_of_length_le (Nat.le_refl _)] at J f
    exact fin D C m s' hD0 hn J f
theorem pe_dctrue (hc : X.calm = true) (hu : X.A.units + 1 < cLine) (he : PE X e te) (hx : scope.names.lookup x = some .local) (hclos : closureFor scope X.env = pure [])
    (hcell : ∀ y ∈ scope.names, y.2 ≠ .cell) (hkind : scope.kind = .function) (hnames : ∀ y ∈ scope.names, y.2 = .local → scope.names.lookup y.1 = some .local) (hs : ∀ x, foldedSetIterable e X.env x = pure x := by intro _; rfl)
    (hdb : (x == ("__debug__" : Str)) = false := by decide) :
    PE X (.DictComp (.Name x p1) (.Constant (.bool true) kk p2) [⟨.Name x p0, e, [], 0⟩] scope pos) (tDcT X.K te) := by
  refine ⟨fun pins s σ H Q I h => ?_⟩
  refine DictComp_goes hclos hcell hkind hnames (thn (he.run pins s σ H _ I h) fun v s1 hh => ?_) hs
  obtain ⟨xv, H1, I1, r1, l, vs, ks, rfl, hS, hlen, hsz, hk, q⟩ := hh
  cases r1
  refine dct_goes hc hu hx hkind hdb I1 hS hlen hsz hk fun D C m s' hD0 hn J f => ?_
  refine ⟨m, hn, fun h' sb => ?_⟩
  obtain ⟨f0, f1, f2, f3, f4, f5⟩ := f
  exact ⟨.ref D, _, J.turned (t' := s'.toks) (fun b o hb e => (sb.2 b hb).trans e) f0 f1 f3 f4 f5, rfl, q D hD0⟩
/-- y = {x: True for x in e}, stored before the block is let go -/
theorem ps_dctrue {i : Nat} {y : Str} {py spos : Pos} (hc : X.calm = true) (hu : X.A.units + 1 < cLine) (hN : X.N.Nodup) (hy : X.N[i]? = some y) (hyl : X.env.scope.names.lookup y = some .local)
    (hsw : swapsWith (.DictComp (.Name x p1) (.Constant (.bool true) kk p2) [⟨.Name x p0, e, [], 0⟩] scope pos) (some (.Name y py)) spos.line X.env = pure true) (he : PE X e te) (hx : scope.names.lookup x = some .local) (hclos : closureFor scope X.env = pure [])
    (hcell : ∀ y ∈ scope.names, y.2 ≠ .cell) (hkind : scope.kind = .function) (hnames : ∀ y ∈ scope.names, y.2 = .local → scope.names.lookup y.1 = some .local) (hs : ∀ x, foldedSetIterable e X.env x = pure x := by intro _; rfl)
    (hdb : (x == ("__debug__" : Str)) = false := by decide) :
    PS X (.Assign [.Name y py] (.DictComp (.Name x p1) (.Constant (.bool true) kk p2) [⟨.Name x p0, e, [], 0⟩] scope pos) spos) (tAsg (tDcT X.K te) (gName i)) := by
  refine ⟨fun pins s σ H D I h => ?_⟩
  have h : tDcT X.K te σ H (fun v H1 => gName i v σ H1 D.nx) := h
  rw [exec_Assign_Name_used _ _ _ _ hsw]
  refine wpAny_bind (wpAny_standAt (wpAny_bind ?_))
  refine wpAny_bind (wpAny_mono (comprehension_at (use := some (assign (.Name y py) X.env)) (Q := fun _ s' => SP X pins D .next s') rfl hs hclos hkind hnames
    (thn (he.run pins s σ H _ I h) fun v s1 hh => ?_)) (fun _ s' hq => wpAny_pure (wpAny_pure hq)) fun _ _ z => z)
  obtain ⟨xv, H1, I1, r1, l, vs, ks, rfl, hS, hlen, hsz, hk, q⟩ := hh
  cases r1
  refine wpAny_mono (dct_goes (use := some (assign (.Name y py) X.env)) (Qf := fun _ s' => SP X pins D .next s') hc hu hx hkind hdb I1 hS hlen hsz hk fun L C m s' hD0 hn J f => ?_) (fun it s2 h2 => compBlock_dict hcell hkind h2) fun _ _ z => z
  show wpAny _ _ (assign (.Name y py) X.env (.ref L)) _ _ _
  refine wpAny_assign_Name (store_ok2 (v := V.ref L) J hN hy (.inl hyl) rfl (fun s2 J2 hst => ?_) (.inr hyl))
  obtain ⟨a, sb, ha⟩ := hst
  obtain ⟨f0, f1, f2, f3, f4, f5⟩ := f
  have haC : C ≠ a := by
    rcases ha with z | z
    · rw [z]; exact f1
    · exact fun q => f4 y a z q.symm
  refine ⟨m, hn.sameBut sb haC, fun h3 sb3 => ?_⟩
  exact ⟨_, _, J2.turned (t' := s2.toks) (fun b o hb q => (sb3.2 b hb).trans q) f0 f1 f3 f4 f5, q L hD0⟩
end
end EL
/-! sum(lists, []): one list after the other put behind. -/
namespace EL
open PySem PySem.Spec PyProof.Rows L2
/-- the first i parts, one behind the other -/
def catA (parts : Nat → Array Value) : Nat → Array Value
  | 0 => #[]
  | i + 1 => catA parts i ++ parts i
section
variable {prog : Program} {w : World} {A : Around} {E : Value → Shared → Prop} {R : Result → Shared → Prop} {I lx S : Addr} {items : Array Value} {parts : Nat → Array Value}
theorem sumL_loop (hh : A.handled = none) (hI : lx ≠ I) (hSI : S ≠ I) (hSl : S ≠ lx) (hcat : ∀ i, i ≤ items.size → (catA parts i).size ≤ 1000000) :
    ∀ (k i : Nat) (s : Shared) (T : Addr) (c : Nat), items.size - i = k → i ≤ items.size → s.heap.IsListIter I lx i → s.heap.IsList lx items →
      s.heap.get? S = some { cls := .type "list", dict := none, data := .seq #[.ref T] c, slots := #[] } → T ≠ S → T ≠ I → (∃ n, IsL s.heap T (catA parts i) n) →
      (∀ j, i ≤ j → j < items.size → ∃ b n, items[j]? = some (.ref b) ∧ b ≠ S ∧ b ≠ I ∧ IsL s.heap b (parts j) n) →
      (∀ h' tk T' n, (∀ b o, b ≠ I → b ≠ S → s.heap.get? b = some o → h'.get? b = some o) → IsL h' T' (catA parts items.size) n → ((i = items.size ∧ T' = T) ∨ I < T') → R (.ok (.ret (.ref T'))) { s with heap := h', toks := tk }) →
      codeAny (model prog w) A (.builtin "sum.loop" ⟨[.ref I, .ref S, rawInt 2, rawInt 0], []⟩) R s := by
  intro k
  have W : Walks prog w A.in1 I [I, lx] [I] items.size _ _ := Walks.list (A := A.in1) hh I lx hI items
  induction k with
  | zero =>
    intro i s T c hk hi hit hlx hS hTS hTI hT hp hR
    obtain rfl : i = items.size := by omega
    obtain ⟨nT, hT⟩ := hT
    refine codeAny_builtin PySem.F.entry_sum_loop ?_
    rw [Around.under_plainId PySem.F.plain_sum_loop _]
    refine wpAny_bind (wpAny_seqItems hS rfl ?_)
    show wpAny _ A.in1 (tryCatch (pyNext (.ref I)) _ >>= _) _ _ s
    refine wpAny_bind (wpAny_tryCatch (W.done s _ _ ⟨hit, hlx⟩ fun h' tk keep => ?_))
    have kp : ∀ b o, b ≠ I → b ≠ S → s.heap.get? b = some o → h'.get? b = some o := fun b o hb _ e => keep b o (by simpa using hb) e
    exact wpAny_pure (hR h' tk T nT kp (kp T _ hTI hTS hT) (.inl ⟨rfl, rfl⟩))
  | succ k ih =>
    intro i s T c hk hi hit hlx hS hTS hTI hT hp hR
    have hlt : i < items.size := by omega
    obtain ⟨nT, hT⟩ := hT
    obtain ⟨b, nb, hb1, hbS, hbI, hb2⟩ := hp i (Nat.le_refl _) hlt
    refine codeAny_builtin PySem.F.entry_sum_loop ?_
    rw [Around.under_plainId PySem.F.plain_sum_loop _]
    refine wpAny_bind (wpAny_seqItems hS rfl ?_)
    show wpAny _ A.in1 (tryCatch (pyNext (.ref I)) _ >>= _) _ _ s
    refine wpAny_bind (wpAny_tryCatch (W.item i s _ _ hlt ⟨hit, hlx⟩ fun v h1 tk hv st1 keep => ?_))
    have ev : v = .ref b := by
      have : items[i]? = some v := hv
      rw [hb1] at this
      exact (Option.some.inj this).symm
    subst ev
    have kp : ∀ b o, b ≠ I → s.heap.get? b = some o → h1.get? b = some o := fun b o hb e => keep b o (by simpa using hb) e
    have hS1 := kp S _ hSI hS
    have hT1 := kp T _ hTI hT
    have hb1' := kp b _ hbI hb2
    have hsz : (catA parts i).size + (parts i).size ≤ 1000000 := by
      have := hcat (i + 1) hlt
      simpa [catA, Array.size_append] using this
    show wpAny _ A.in1 ((holding [Value.ref b] (binaryOp .Add (.ref T) (.ref b))).attempt >>= _) _ _ _
    refine wpAny_bind (wpAny_attempt (wpAny_holding (PySem.P.add_list (hsz := Nat.le_trans hsz (by decide)) hT1 hb1' ?_)))
    generalize hN : h1.objs.size = N
    have nN : h1.get? N = none := by
      cases e : h1.get? N with
      | none => rfl
      | some o => exact absurd (Heap.lt_size e) (by rw [hN]; exact Nat.lt_irrefl _)
    have NI : N ≠ I := fun e => by
      obtain ⟨o, ho, _⟩ := st1.1
      rw [← e, nN] at ho; cases ho
    have NS : N ≠ S := fun e => by rw [← e, nN] at hS1; cases hS1
    have IN : I < N := by
      obtain ⟨o, ho, _⟩ := st1.1
      rw [← hN]; exact Heap.lt_size ho
    have hS2 : (h1.push { cls := .type "list", data := .seq (catA parts i ++ parts i) }).get? S = _ := Heap.get?_push_of_some _ hS1
    have gN : (h1.push { cls := .type "list", data := .seq (catA parts i ++ parts i) }).get? N = some { cls := .type "list", data := .seq (catA parts i ++ parts i) } := by rw [← hN]; exact Heap.get?_push_size _ rfl
    have kp2 : ∀ b o, b ≠ I → s.heap.get? b = some o → (h1.push { cls := .type "list", data := .seq (catA parts i ++ parts i) }).get? b = some o := fun b o hb e => Heap.get?_push_of_some _ (kp b o hb e)
    have it2 : (h1.push { cls := .type "list", data := .seq (catA parts i ++ parts i) }).IsListIter I lx (i + 1) := st1.1.at fun o e => Heap.get?_push_of_some _ e
    have lx2 : (h1.push { cls := .type "list", data := .seq (catA parts i ++ parts i) }).IsList lx items := st1.2.at fun o e => Heap.get?_push_of_some _ e
    generalize h1.push { cls := .type "list", data := .seq (catA parts i ++ parts i) } = h2 at hS2 gN kp2 it2 lx2 ⊢
    show wpAny _ A.in1 (updateSeq S (fun _ => #[.ref N]) >>= _) _ _ _
    refine wpAny_bind (wpAny_updateSeq hS2 rfl ?_)
    have hS3 := Heap.get?_update_self (Obj.mapSeq fun _ => #[Value.ref N]) hS2 rfl
    refine wpAny_bind (wpAny_letGo (wpAny_bind (wpAny_updateSeq hS3 rfl (wpAny_pure ⟨plainId_quiet PySem.F.plain_sum_loop _, ?_⟩))))
    have oth : ∀ b o, b ≠ S → h2.get? b = some o → ((h2.update S (Obj.mapSeq fun _ => #[Value.ref N])).update S (Obj.mapSeq fun _ => #[Value.ref N])).get? b = some o := fun b o hb e =>
      (Heap.get?_update_other _ _ (Ne.symm hb)).trans ((Heap.get?_update_other _ _ (Ne.symm hb)).trans e)
    refine ih (i + 1) _ N _ (by omega) hlt (it2.at fun o e => oth _ _ (Ne.symm hSI) e) (lx2.at fun o e => oth _ _ (Ne.symm hSl) e) (Heap.get?_update_self _ hS3 rfl) NS NI ⟨_, oth N _ NS gN⟩ (fun j h1 h2 => ?_) fun h' tk' T' n k' hT' hn => ?_
    · obtain ⟨b', n', q1, q2, q3, q4⟩ := hp j (by omega) h2
      exact ⟨b', n', q1, q2, q3, oth _ _ q2 (kp2 _ _ q3 q4)⟩
    · refine hR h' tk' T' n (fun b o hb1 hb2 e => k' b o hb1 hb2 (oth b o hb2 (kp2 b o hb1 e))) hT' (.inr ?_)
      rcases hn with ⟨_, rfl⟩ | hn
      · exact IN
      · exact hn
theorem args_sum2 (a b : Value) : argsOk "sum" ⟨[a, b], []⟩ := by unfold argsOk; kernel_rfl
theorem sumL_call {s : Shared} {t : Addr} {Q : Value → Shared → Prop} (hh : A.handled = none) (hlx : s.heap.IsList lx items) (ht : ∃ n, IsL s.heap t #[] n) (h1 : 0 < items.size) (hcat : ∀ i, i ≤ items.size → (catA parts i).size ≤ 1000000)
    (hp : ∀ j, j < items.size → ∃ b n, items[j]? = some (.ref b) ∧ IsL s.heap b (parts j) n)
    (hQ : ∀ h' tk T' n, (∀ b o, s.heap.get? b = some o → h'.get? b = some o) → IsL h' T' (catA parts items.size) n → s.heap.objs.size ≤ T' → Q (.ref T') { s with heap := h', toks := tk }) :
    wpAny (model prog w) A (call (.builtin "sum") [.ref lx, .ref t]) Q E s := by
  refine call_function_tree PySem.F.kind_sum PySem.F.plain_sum PySem.F.entry_sum (args_sum2 _ _) ?_
  unfold Builtin.«sum»
  simp only [List.length_cons, List.length_nil]
  rw [if_neg (by decide)]
  refine wpAny_bind (wpAny_of_eq (show Builtin.Builtins.bindParams "sum" ["start"] 0 ⟨[.ref t], []⟩ = pure [some (.ref t)] from rfl) ?_)
  refine wpAny_bind (wpAny_pyIter_list hlx ?_)
  obtain ⟨nt, ht⟩ := ht
  generalize hI : s.heap.objs.size = it
  have up : ∀ b o, s.heap.get? b = some o → (s.heap.push { cls := .type "list_iterator", data := .fields #[.ref lx, .int 0 0] }).get? b = some o := fun b o e => Heap.get?_push_of_some _ e
  have gI : (s.heap.push { cls := .type "list_iterator", data := .fields #[.ref lx, .int 0 0] }).get? it = some { cls := .type "list_iterator", data := .fields #[.ref lx, .int 0 0] } := by rw [← hI]; exact Heap.get?_push_size _ rfl
  have szI : (s.heap.push { cls := .type "list_iterator", data := .fields #[.ref lx, .int 0 0] }).objs.size = it + 1 := by rw [Heap.size_push, hI]
  generalize s.heap.push { cls := .type "list_iterator", data := .fields #[.ref lx, .int 0 0] } = h1 at up gI szI ⊢
  refine wpAny_bind (wpAny_pure ?_)
  have ty : ({ s with heap := h1 } : Shared).TypeIs (.ref t) "list" := ⟨_, up _ _ ht, rfl⟩
  simp only [List.forIn_cons, List.forIn_nil]
  refine wpAny_bind (wpAny_bind (wpAny_bind (wpAny_isInstance (T := "list") (b := false) ty sub_list_str ?_)))
  simp only [Bool.false_eq_true, if_false]
  refine wpAny_pure (wpAny_bind (wpAny_bind (wpAny_isInstance (T := "list") (b := false) ty PySem.F.sub_list_bytes ?_)))
  simp only [Bool.false_eq_true, if_false]
  refine wpAny_pure (wpAny_bind (wpAny_bind (wpAny_isInstance (T := "list") (b := false) ty PySem.F.sub_list_bytearray ?_)))
  simp only [Bool.false_eq_true, if_false]
  refine wpAny_pure (wpAny_pure ?_)
  refine wpAny_bind (wpAny_newObj_type ?_)
  have old : ∀ b o, s.heap.get? b = some o → b < it := fun b o e => by rw [← hI]; exact Heap.lt_size e
  have ltx : lx < it := by obtain ⟨o, ho, _⟩ := hlx; exact old _ _ ho
  have ltt : t < it := old _ _ ht
  have itS : it < h1.objs.size := by rw [szI]; exact Nat.lt_succ_self _
  have up2 : ∀ b o, h1.get? b = some o → (h1.push { cls := .type "list", data := .seq #[.ref t] }).get? b = some o := fun b o e => Heap.get?_push_of_some _ e
  show wpAny _ _ (pure _) _ _ _
  refine wpAny_pure ⟨plainId_quiet PySem.F.plain_sum_loop _, sumL_loop (I := it) (lx := lx) (S := h1.objs.size) (items := items) (parts := parts) hh (Nat.ne_of_lt ltx) (Nat.ne_of_gt itS) (Nat.ne_of_gt (Nat.lt_trans ltx itS)) hcat items.size 0 _ t _ rfl (Nat.zero_le _) ⟨_, up2 _ _ gI, rfl, rfl⟩ ?_ (Heap.get?_push_size _ rfl) (Nat.ne_of_lt (Nat.lt_trans ltt itS)) (Nat.ne_of_lt ltt) ⟨nt, up2 _ _ (up _ _ ht)⟩ (fun j _ hj => ?_) fun h' tk T' n keep hT' hn => ?_⟩
  · obtain ⟨o, ho, hr⟩ := hlx
    exact ⟨o, up2 _ _ (up _ _ ho), hr⟩
  · obtain ⟨b, n, q1, q2⟩ := hp j hj
    have := old _ _ q2
    exact ⟨b, n, q1, Nat.ne_of_lt (Nat.lt_trans this itS), Nat.ne_of_lt this, up2 _ _ (up _ _ q2)⟩
  · refine hQ h' tk T' n (fun b o e => keep b o (Nat.ne_of_lt (old b o e)) (Nat.ne_of_lt (Nat.lt_trans (old b o e) itS)) (up2 _ _ (up _ _ e))) hT' ?_
    rcases hn with ⟨h0, _⟩ | hn
    · omega
    · rw [hI]; exact Nat.le_of_lt hn
end
theorem vals_append {xs ys : List V} {us ws : List Value} (h1 : Vals xs us) (h2 : Vals ys ws) : Vals (xs ++ ys) (us ++ ws) := by
  induction h1 with
  | nil => exact h2
  | cons a _ ih => exact .cons a ih
def rSumL (K : PySem.W.Frag) : List V → Hp → VK → Prop := fun xs H Q => ∃ (l t : Addr) (vs : List V) (parts : List (List V)), xs = [.ref l, .ref t] ∧ SqL K H l vs ∧ H t = some (.lst []) ∧ 0 < vs.length ∧ vs.length = parts.length ∧ parts.flatten.length ≤ 1000000 ∧
  (∀ (j : Nat) (p : List V), parts[j]? = some p → ∃ b, vs[j]? = some (.ref b) ∧ H b = some (.lst p)) ∧ ∀ q, H q = none → Q (.ref q) (L2.upd H q (.lst parts.flatten))
theorem cr_sumL {X : Cx} (hc : X.calm = true) : CallR X (.builtin "sum") (rSumL X.K) := by
  intro pins s σ H xs us Q I rv h
  obtain ⟨l, t, vs, parts, rfl, hS, ht, h1, hlen, hz, hk, q⟩ := h
  obtain ⟨u1, u2, rfl, r1, r2⟩ : ∃ u1 u2, us = [u1, u2] ∧ RelV (.ref l) u1 ∧ RelV (.ref t) u2 := by
    cases rv with
    | cons a r =>
      cases r with
      | cons b r => cases r; exact ⟨_, _, rfl, a, b⟩
  cases r1
  cases r2
  obtain ⟨its, rv2, pl, _⟩ := I.list hS
  have li : its.length = vs.length := rv2.length.symm
  have ch : ∀ j : Nat, ∃ ws : List Value, ∀ p, parts[j]? = some p → Vals p ws ∧ ∃ b n, its.toArray[j]? = some (.ref b) ∧ IsL s.heap b ws.toArray n := fun j => by
    cases e : parts[j]? with
    | none => exact ⟨[], fun p h => by cases h⟩
    | some p =>
      obtain ⟨b, hb1, hb2⟩ := hk j p e
      obtain ⟨u, hu1, hu2⟩ := rv2.get hb1
      cases hu2
      obtain ⟨_, ws, n, rw', gb⟩ := (show ObjOk X.prog X.w H s.heap b (.lst p) from I.hok b _ hb2)
      exact ⟨ws, fun p' h => by cases h; exact ⟨rw', b, n, by simpa using hu1, gb⟩⟩
  obtain ⟨f, hf⟩ := Classical.skolem.mp ch
  have vals : ∀ i, i ≤ parts.length → Vals (parts.take i).flatten (catA (fun j => (f j).toArray) i).toList := by
    intro i
    induction i with
    | zero => intro _; exact .nil
    | succ i ih =>
      intro hi
      have e : parts[i]? = some (parts[i]'(by omega)) := List.getElem?_eq_getElem (by omega)
      rw [List.take_add_one, e]
      simp only [Option.toList_some, List.flatten_append, List.flatten_cons, List.flatten_nil, List.append_nil, catA, Array.toList_append]
      exact vals_append (ih (by omega)) (hf i _ e).1
  have szs : ∀ i, i ≤ parts.length → (catA (fun j => (f j).toArray) i).size ≤ 1000000 := fun i hi => by
    have e1 : (parts.take i).flatten.length = (catA (fun j => (f j).toArray) i).toList.length := (vals i hi).length
    have e3 : (catA (fun j => (f j).toArray) i).toList.length = (catA (fun j => (f j).toArray) i).size := Array.length_toList
    have e2 : parts.flatten.length = (parts.take i).flatten.length + (parts.drop i).flatten.length := by
      rw [← List.length_append, ← List.flatten_append, List.take_append_drop]
    omega
  have sz : its.toArray.size = parts.length := by rw [List.size_toArray, li, hlen]
  obtain ⟨_, w0, n0, r0, g0⟩ := (show ObjOk X.prog X.w H s.heap t (.lst []) from I.hok t _ ht)
  cases r0
  refine sumL_call (parts := fun j => (f j).toArray) (I.ok.hd hc) pl.isList ⟨n0, g0⟩ (by rw [sz, ← hlen]; exact h1) (fun i hi => szs i (by rw [← sz]; exact hi)) (fun j hj => ?_) fun h' tk T' n keep hT' le => ?_
  · exact (hf j _ (List.getElem?_eq_getElem (by rw [← sz]; exact hj))).2
  · rw [sz] at hT'
    have v2 := vals parts.length (Nat.le_refl _)
    rw [List.take_of_length_le (Nat.le_refl _)] at v2
    refine ⟨.ref T', _, I.laid (t' := tk) (o := .lst parts.flatten) keep le ⟨len_sz hz, _, n, v2, ?_⟩, rfl, q T' (I.hok.fresh le)⟩
    rw [Array.toArray_toList]
    exact hT'
end EL
/-! == and != of instances by their class's own __eq__, whatever it answers; o.m(k = v, ..) by keywords alone. -/
namespace EL
open PySem PySem.Spec PyProof.Rows L2
section
variable {X : Cx} {k : Nat} {C f : Addr} {fd : FuncData} {ps : List Str} {sp : Sp} {E : XK}
/-- an instance compared by its own __eq__: what is asked -/
def rOwn (C : Addr) (sp : Sp) (E : XK) (g : Bool → Bool) : R2 := fun x y H Q => ∃ a b dx dy fs gs, x = .ref a ∧ y = .ref b ∧ H a = some (.ins C dx fs) ∧ H b = some (.ins C dy gs) ∧ sp [.ref a, .ref b] H (fun v H' => ∃ r : Bool, v = .bl r ∧ Q (.bl (g r)) H') E
theorem run_own {A : Around} {pins : List (Addr × Obj)} {s : Shared} {σ : L2.St} {H : Hp} {a b : Addr} {Q : VK} (hA : A.frames = X.A.frames) (hr : Room k A) (F : FnOk X.prog X.w X.K X.mg X.base CX0 k f fd ps sp) (hb : Binds X.K fd ps []) (hx : Passes CX0 X E) (I : Inv X pins σ H s)
    (hsp : sp [.ref a, .ref b] H (fun v H' => ∃ r : Bool, v = .bl r ∧ Q v H') E) :
    wpAny (model X.prog X.w) A (call (.ref f) [.ref a, .ref b]) (fun v s' => ∃ r : Bool, v = .bool r ∧ EP X pins σ (fun v H' => v = .bl r ∧ Q v H') (.bool r) s') X.xe s := by
  have e0 : Env0 X.prog X.w X.K X.mg X.base A X.stack s H := by
    have e := I.env0
    exact ⟨by rw [hA]; exact e.frames, e.mod, e.bs, e.bsz, e.funs, e.frf, e.hok, e.bare⟩
  have hl := F.len _ _ _ _ hsp
  have r2 : Vals [V.ref a, V.ref b] [Value.ref a, Value.ref b] := .cons rfl (.cons rfl .nil)
  refine wpAny_call (codeAny_mono (F.run A X.stack s H ⟨[.ref a, .ref b], []⟩ [.ref a, .ref b] [.ref a, .ref b] _ E hr e0 (by
    have := hb s [.ref a, .ref b] I.kIn (by simpa using hl)
    simpa using this) r2 hsp) fun r s' hq => ?_)
  cases r with
  | error e => exact hx pins σ H s e s' I hq
  | ok fl =>
    cases fl with
    | ret w =>
      obtain ⟨z, H', I', rz, r, ez, q⟩ := I.after hq
      subst ez
      cases rz
      exact ⟨r, rfl, .bl r, H', I', rfl, rfl, q⟩
    | next => exact False.elim hq
    | brk => exact False.elim hq
    | cont => exact False.elim hq
theorem op_eqOwn (F : FnOk X.prog X.w X.K X.mg X.base CX0 k f fd ps sp) (hr : Room k X.A) (hs : PySem.W.findIn X.K (.ref C) "__eq__" = some (some (.ref f))) (hf : PySem.W.isFn X.K (.ref f) = true) (hb : Binds X.K fd ps []) (hx : Passes CX0 X E) :
    OpR X (compareOp .Eq) (rOwn C sp E id) := by
  intro pins s σ H x y v u Q I rx ry hq
  obtain ⟨a, b, dx, dy, fs, gs, rfl, rfl, ha, hb', hsp⟩ := hq
  cases rx
  cases ry
  obtain ⟨mA, J, _⟩ := ins_get I.hok ha
  obtain ⟨mB, J', _⟩ := ins_get I.hok hb'
  obtain ⟨od, J, _⟩ := J.look
  obtain ⟨od', J', _⟩ := J'.look
  obtain ⟨m, hF⟩ := I.fr
  show wpAny (model X.prog X.w) X.A (richCompare .Eq (.ref a) (.ref b)) (EP X pins σ Q) X.xe s
  refine PySem.W.cmp_K (op := .Eq) (tb := .ref C) hr.units0 hF I.ok.mod.kin J J'.type (by simp [PySem.W.notFirst]) hs hf ?_
  refine wpAny_mono (run_own (Q := Q) rfl hr F hb hx I (show sp _ H (fun v H' => ∃ r : Bool, v = .bl r ∧ Q v H') E from ?_)) (fun r s' hq => ?_) fun _ _ z => z
  · have e : (fun (v : V) (H' : Hp) => ∃ r : Bool, v = .bl r ∧ Q (.bl (id r)) H') = fun v H' => ∃ r : Bool, v = .bl r ∧ Q v H' := by
      funext v H'
      apply propext
      constructor
      · rintro ⟨r, rfl, q⟩; exact ⟨r, rfl, q⟩
      · rintro ⟨r, rfl, q⟩; exact ⟨r, rfl, q⟩
    rw [← e]; exact hsp
  · obtain ⟨r, rfl, z, H', I', rz, rfl, q⟩ := hq
    exact ⟨_, H', I', rz, q⟩
theorem ne_units {A : Around} {k : Nat} (h : Room (k + 1) A) : A.units < cLine := h.units0
/-- what != wants to know of the class -/
structure NeOwn (K : PySem.W.Frag) (C f : Addr) : Prop where
  ne : PySem.W.findIn K (.ref C) "__ne__" = some (some (.builtin "object.__ne__"))
  eq : PySem.W.findIn K (.ref C) "__eq__" = some (some (.ref f))
  fn : PySem.W.isFn K (.ref f) = true
  ob : PySem.W.subIn K (.ref C) (.type "object") = some true
theorem op_neOwn (F : FnOk X.prog X.w X.K X.mg X.base CX0 k f fd ps sp) (hr : Room (k + 1) X.A) (N : NeOwn X.K C f) (hb : Binds X.K fd ps []) (hx : Passes CX0 X E) :
    OpR X (compareOp .NotEq) (rOwn C sp E not) := by
  intro pins s σ H x y v u Q I rx ry hq
  obtain ⟨a, b, dx, dy, fs, gs, rfl, rfl, ha, hb', hsp⟩ := hq
  cases rx
  cases ry
  obtain ⟨mA, J, _⟩ := ins_get I.hok ha
  obtain ⟨mB, J', _⟩ := ins_get I.hok hb'
  obtain ⟨od, J, _⟩ := J.look
  obtain ⟨od', J', _⟩ := J'.look
  show wpAny (model X.prog X.w) X.A (richCompare .NotEq (.ref a) (.ref b)) (EP X pins σ Q) X.xe s
  have inA : wpAny (model X.prog X.w) X.A.in1 (call (.ref f) [.ref a, .ref b]) (fun v s' => ∃ r : Bool, v = .bool r ∧ EP X pins σ Q (.bool (!r)) s') X.xe s := by
    refine wpAny_mono (run_own (X := X) (A := X.A.in1) (Q := fun v H' => ∃ r, v = V.bl r ∧ Q (.bl (!r)) H') rfl hr.in1 F hb hx I ?_) (fun r s' hq => ?_) fun _ _ z => z
    · have e : (fun (v : V) (H' : Hp) => ∃ r : Bool, v = .bl r ∧ Q (.bl (not r)) H') = fun v H' => ∃ r : Bool, v = .bl r ∧ ∃ r, v = V.bl r ∧ Q (.bl (!r)) H' := by
        funext v H'
        apply propext
        constructor
        · rintro ⟨r, rfl, q⟩; exact ⟨r, rfl, r, rfl, q⟩
        · rintro ⟨r, rfl, r', e, q⟩; cases e; exact ⟨r, rfl, q⟩
      rw [← e]; exact hsp
    · obtain ⟨r, rfl, z, H', I', rz, rfl, r', e, q⟩ := hq
      cases e
      exact ⟨r, rfl, .bl (!r), H', I', rfl, q⟩
  have one : wpAny (model X.prog X.w) X.A (call (.builtin "object.__ne__") [.ref a, .ref b]) (fun v s' => v ≠ .notImplemented ∧ EP X pins σ Q v s') X.xe s := by
    have t2 : PySem.W.Looks (model X.prog X.w) s.heap (isInstance (.ref a) (.type "object")) true := J.type.andThen (PySem.W.looks_subIn I.kIn N.ob)
    refine wpAny_call (codeAny_call_builtin PySem.F.cmp_object.ne.plain PySem.F.cmpEntry_ne (@PySem.W.check_slot (model X.prog X.w) _ _ _ "object.__ne__" "object" "__ne__" (.ref a) [.ref b] [] _ PySem.F.cmpKind_ne PySem.F.cmpSplit_ne t2 (PySem.F.cmpArgs_ne _ _) ?_))
    show wpAny (model X.prog X.w) X.A.in1 (Builtin.«object.__ne__» ⟨[.ref a, .ref b], []⟩) _ _ s
    unfold Builtin.«object.__ne__»
    repeat (first
      | with_reducible refine wpAny_cRoomFor hr.in1.units0 ?_
      | (refine wpAny_bind (m := callSpecialIfBound? (.ref a) (Str.ofString "__eq__") [.ref b])
          (PySem.W.ifBound_K I.kIn J N.eq N.fn (wpAny_mono inA (fun r s' hr => by
            obtain ⟨b, rfl, hq⟩ := hr
            repeat (first | exact ⟨by simp, hq⟩ | exact wpAny_pure ⟨by simp, hq⟩ | exact wpAny_truthy_bool ⟨by simp, hq⟩ | (refine wpAny_bind (m := truthy (.bool _)) (wpAny_truthy_bool ?_)) | wp_step)) fun _ _ e => e)))
      | wp_step)
  have try1 : wpAny (model X.prog X.w) X.A (tryCompare (.ref a) "__ne__" (.ref b)) (fun r s' => ∃ v, r = some v ∧ EP X pins σ Q v s') X.xe s := by
    unfold tryCompare
    refine wpAny_bind ?_
    simp only [callSpecialIfBound?, bindSpecialIfBound?]
    refine wpAny_holding (wpAny_bind (wpAny_bind (wpAny_bind (J.type.here ((PySem.W.looks_findIn I.kIn N.ne).here ?_)))))
    refine wpAny_bind (wpAny_askSetting (wpAny_ite ?_))
    have fin : wpAny (model X.prog X.w) X.A (call (.builtin "object.__ne__") ([.ref a] ++ [.ref b]) >>= fun v => pure (some v)) (fun r s' => wpAny (model X.prog X.w) X.A (match r with | some .notImplemented => pure none | none => pure none | some v => pure (some v)) (fun r s' => ∃ v, r = some v ∧ EP X pins σ Q v s') X.xe s') X.xe s := by
      refine wpAny_bind (wpAny_mono one (fun v s' h' => wpAny_pure ?_) fun _ _ h' => h')
      obtain ⟨hn, q⟩ := h'
      cases v <;> first | exact absurd rfl hn | exact wpAny_pure ⟨_, rfl, q⟩
    split
    · exact wpAny_bind ((PySem.W.Looks.of_pure (PySem.F.cmp_object.ne.bind _)).here (wpAny_pure (by exact fin)))
    · exact wpAny_tryCatch (wpAny_bind ((PySem.W.Looks.of_pure (PySem.F.cmp_object.ne.bind _)).here (wpAny_pure (by exact fin))))
  unfold richCompare
  simp only [oneThing_ref]
  refine wpAny_holding (wpAny_bind (wpAny_cRoomFor hr.units0 ?_))
  refine wpAny_bind (J.type.here (wpAny_bind (J'.type.here ?_)))
  rw [show (Value.ref C != Value.ref C) = false from by simp]
  simp only [Bool.false_eq_true, if_false]
  refine wpAny_bind (wpAny_pure ?_)
  simp only [Bool.false_eq_true, if_false]
  refine wpAny_bind (wpAny_mono try1 (fun r s' z => ?_) fun _ _ e => e)
  obtain ⟨v, rfl, hq⟩ := z
  exact wpAny_pure hq
end
/-! ### o.m(k = v, ..): keywords alone -/
section
variable {X : Cx} {k : Nat} {f C : Addr} {fd : FuncData} {m : Str} {ps ks : List Str} {sp : Sp} {E : XK} {o : Expr} {kws : List Keyword} {ta : TE} {tk : TA} {apos pos : Pos} {g : List Value → List Value → List Value} {gV : List V → List V → List V}
theorem pe_methK0 {pl : Sem Bool} (he : PE X o ta) (c : Cls X.K C) (hm : Meth X.K C m f) (F : FnOk X.prog X.w X.K X.mg X.base CX0 k f fd ps sp) (hr : Room k X.A) (kb : KBinds X.K fd ps ks g gV) (hx : Passes CX0 X E) (hkw : PK X kws tk)
    (hall : (backToKw pos (keywordEach kws X.env)).all (·.1.isSome) = true := by rfl) (hks : (backToKw pos (keywordEach kws X.env)).filterMap (·.1) = ks := by rfl)
    (hpl : ((backTo pos (starEach [] X.env)).any (·.1) || (backToKw pos (keywordEach kws X.env)).any (·.1.isNone)) = false := by rfl)
    (ht : eval (.Call (.Attribute o m apos) [] kws pos) X.env = (do
      let ov ← eval o X.env
      standAt apos.atName
      let (f, first) ← holding [ov] (getMethod ov m pl)
      callWith pos f first (backTo pos (starEach [] X.env)) (backToKw pos (keywordEach kws X.env))) := by rfl) :
    PE X (.Call (.Attribute o m apos) [] kws pos) (fun σ H Q => ta σ H fun x H1 => ∃ a dx fs, x = .ref a ∧ H1 a = some (.ins C dx fs) ∧ fs.lookup m = none ∧ tk σ H1 fun zs H2 => sp (gV [.ref a] zs) H2 Q E) := by
  refine ⟨fun pins s σ H Q I h => ?_⟩
  refine PySem.W.methodCall_KW (pl := pl) (thn (he.run pins s σ H _ I h) fun u s1 ⟨x, H1, I1, rx, a, dx, fs, ex, ea, l, q⟩ => ?_) ht
  subst ex
  obtain rfl : u = Value.ref a := rx
  refine getmeth_ok I1 ea c hm l ?_
  refine PySem.W.callWith_KW0 (first := [.ref a]) (h₀ := X.base) I1.ok.mod.kin hm.kp hall (thn (hkw.run pos pins s1 σ H1 _ I1 q) fun ws s2 hh => ?_) hpl
  obtain ⟨zs, H2, I2, rz, q2⟩ := hh
  refine ⟨I2.kIn, ?_⟩
  rw [hks]
  exact run_fnk (us := [.ref a]) (vs := [.ref a]) F hr kb hx I2 (.cons rfl .nil) rz q2
end
def kwM2r {α : Type} : List α → List α → List α
  | [s], [z, y] => [s, y, z]
  | _, _ => []
theorem kwM2r_rel {vs : List V} {us : List Value} {zs : List V} {ws : List Value} (h1 : Vals vs us) (h2 : Vals zs ws) : Vals (kwM2r vs zs) (kwM2r us ws) := by
  cases h1 with
  | nil => exact .nil
  | cons r0 rr0 =>
    cases rr0 with
    | cons _ _ => exact .nil
    | nil =>
    cases h2 with
    | nil => exact .nil
    | cons r rr =>
      cases rr with
      | nil => exact .nil
      | cons r2 rr2 =>
        cases rr2 with
        | nil => exact .cons r0 (.cons r2 (.cons r .nil))
        | cons _ _ => exact .nil
theorem Fun.kwM2r {K : PySem.W.Frag} {x qual : Str} {st : Stmt} {f : Addr} {fd : FuncData} {r p q : Str} (F : Fun K x qual st f fd)
    (h : ∀ (kV doc pm : Value) (an : Option Addr) (cdv ct : Value) (t u v : Value), bindArgs (PySem.W.fnOf x qual (defArgs st) (defBody st) (defScope st) .none kV doc pm an cdv ct) ⟨[t], [(q, u), (p, v)]⟩ = pure [(r, t), (p, v), (q, u)]) : KBinds K fd [r, p, q] [q, p] EL.kwM2r EL.kwM2r := by
  obtain ⟨oc, od, kV, doc, pm, an, cdv, ct, osl, rfl, lk, hcd⟩ := F.ex
  refine ⟨fun s us ws _ hl => ?_, kwM2r_rel⟩
  match us, ws, hl with
  | [t], [u, v], _ => exact .of_eq (h kV doc pm an cdv ct t u v)
  | [], _, hl => exact absurd hl (by simp [EL.kwM2r])
  | [_], [], hl => exact absurd hl (by simp [EL.kwM2r])
  | [_], [_], hl => exact absurd hl (by simp [EL.kwM2r])
  | [_], _ :: _ :: _ :: _, hl => exact absurd hl (by simp [EL.kwM2r])
  | _ :: _ :: _, _, hl => exact absurd hl (by simp [EL.kwM2r])
/-! ### a text, so often -/
def rRepS : R2 := fun x y H Q => ∃ z k, x = .str z ∧ y = .int k ∧ 2 ≤ k ∧ k ≤ 1000 ∧ z.length ≠ 0 ∧ z.length ≤ 1000 ∧ Q (.str ⟨(List.replicate k.toNat z.cps).foldl (· ++ ·) #[]⟩) H
theorem fold_size (c : Array Nat) : ∀ (n : Nat) (acc : Array Nat), (List.foldl (fun x1 x2 => x1 ++ x2) acc (List.replicate n c)).size = acc.size + n * c.size
  | 0, acc => by simp
  | n + 1, acc => by
    rw [List.replicate_succ, List.foldl_cons, fold_size c n, Array.size_append, Nat.add_mul]; omega
theorem op_repS {X : Cx} : OpR X (binaryOp .Mult) rRepS := by
  intro pins s σ H x y v u Q I rx ry h
  obtain ⟨z, k, rfl, rfl, h1, h2, hz, hz2, q⟩ := h
  obtain ⟨t, rfl⟩ := rx
  obtain ⟨t', rfl⟩ := ry
  have c0 : (decide (k < -(2 ^ 63 : Int)) || decide (k ≥ 2 ^ 63)) = false := by
    rw [decide_eq_false (by omega), decide_eq_false (by omega)]; rfl
  have c1 : (k == 1 || z.length == 0) = false := by
    rw [Bool.or_eq_false_iff]
    exact ⟨by simpa using (by omega : k ≠ 1), by simpa using hz⟩
  have hm : z.length * k.toNat ≤ 1000 * 1000 := Nat.mul_le_mul hz2 (by omega)
  refine P.mul_str c0 (fun _ _ => ?_) (fun _ _ => ?_) ?_
  · have : (2 : Int) ^ 63 - 1 = 9223372036854775807 := by decide
    rw [this]
    have : (1000 : Int) * k ≤ 9223372036854775807 := by omega
    have := Int.le_ediv_of_mul_le (by omega : 0 < k) this
    omega
  · have : sizeLine = 16777216 := by decide
    exact decide_eq_false (by omega)
  · rw [if_neg (by omega), if_neg (by rw [c1]; exact Bool.false_ne_true)]
    refine ⟨?_, ⟨.str _, H, I.tok _, ⟨_, rfl⟩, q⟩⟩
    show (List.foldl (fun x1 x2 => x1 ++ x2) #[] (List.replicate k.toNat z.cps)).size ≤ sizeLine
    rw [fold_size]
    have h0 : (#[] : Array Nat).size = 0 := rfl
    have h3 : k.toNat * z.cps.size = z.length * k.toNat := Nat.mul_comm _ _
    rw [h0, h3]
    have : sizeLine = 16777216 := by decide
    omega
end EL
/-! Plain data (signs below 128, ints of at most 50 digits, dicts that are empty): what repr and == ask of it. -/
namespace EL
open PySem PySem.Spec PyProof.Rows L2
mutual
def pln : PyData → Bool
  | .none | .bool _ => true
  | .int i => decide (i.natAbs < 10 ^ 50)
  | .str x => x.cps.toList.all fun c => decide (c < 128)
  | .list xs | .tuple xs => plns xs
  | .dict kvs => kvs.isEmpty
def plns : List PyData → Bool
  | [] => true
  | x :: xs => pln x && plns xs
end
theorem plns_all : ∀ ds : List PyData, plns ds = ds.all pln
  | [] => by simp [plns]
  | d :: r => by simp [plns, plns_all r]
theorem log2_lt {n : Nat} (h : n < 10 ^ 50) : n.log2 < 1920 := by
  by_cases h0 : n = 0
  · subst h0; decide
  · rw [Nat.log2_lt h0]
    exact Nat.lt_of_lt_of_le h (by decide +kernel)
theorem shown_int60 {i : Int} (h : i.natAbs < 10 ^ 50) : (PyData.shown (.int i)).length ≤ 60 := by
  have e := int_text_length_le10 (k := 50) (by decide) h
  show (Str.ofString (toString i)).length ≤ 60
  rw [PySem.ofString_length]; exact Nat.le_trans e (by decide)
mutual
theorem pln_showable : ∀ d : PyData, pln d = true → d.showable = true
  | .none, _ => by simp [PyData.showable]
  | .bool _, _ => by simp [PyData.showable]
  | .int i, h => by
    have : i.natAbs < 10 ^ 50 := by simpa only [pln, decide_eq_true_eq] using h
    simpa only [PyData.showable, decide_eq_true_eq] using log2_lt this
  | .str _, _ => by simp [PyData.showable]
  | .list xs, h => by
    have := plns_showable xs (by simpa [pln] using h)
    simpa [PyData.showable] using this
  | .tuple xs, h => by
    have := plns_showable xs (by simpa [pln] using h)
    simpa [PyData.showable] using this
  | .dict kvs, h => by
    have : kvs = [] := by simpa [pln] using h
    subst this; simp [PyData.showable, PyData.showableKv]
theorem plns_showable : ∀ ds : List PyData, plns ds = true → PyData.showableAll ds = true
  | [], _ => by simp [PyData.showableAll]
  | d :: r, h => by
    obtain ⟨h1, h2⟩ : pln d = true ∧ plns r = true := by simpa [plns] using h
    simp [PyData.showableAll, pln_showable d h1, plns_showable r h2]
end
mutual
theorem pln_short : ∀ d : PyData, pln d = true → d.leavesShort 60 = true
  | .none, _ => by simp [PyData.leavesShort]
  | .bool _, _ => by simp [PyData.leavesShort]
  | .int i, h => by
    have : i.natAbs < 10 ^ 50 := by simpa only [pln, decide_eq_true_eq] using h
    simpa only [PyData.leavesShort, decide_eq_true_eq] using shown_int60 this
  | .str x, h => by
    simp only [PyData.leavesShort, List.all_eq_true, decide_eq_true_eq]
    simp only [pln, List.all_eq_true, decide_eq_true_eq] at h
    intro c hc
    have := h c hc
    omega
  | .list xs, h => by
    have := plns_short xs (by simpa [pln] using h)
    simpa [PyData.leavesShort] using this
  | .tuple xs, h => by
    have := plns_short xs (by simpa [pln] using h)
    simpa [PyData.leavesShort] using this
  | .dict kvs, h => by
    have : kvs = [] := by simpa [pln] using h
    subst this; simp [PyData.leavesShort, PyData.leavesShortKv]
theorem plns_short : ∀ ds : List PyData, plns ds = true → PyData.leavesShortAll 60 ds = true
  | [], _ => by simp [PyData.leavesShortAll]
  | d :: r, h => by
    obtain ⟨h1, h2⟩ : pln d = true ∧ plns r = true := by simpa [plns] using h
    simp [PyData.leavesShortAll, pln_short d h1, plns_short r h2]
end
theorem strOk_pln {x : Str} (h : (x.cps.toList.all fun c => decide (c < 128)) = true) : PyData.strOk x = true := by
  simp only [List.all_eq_true, decide_eq_true_eq] at h
  unfold PyData.strOk
  rw [Array.all_eq_true_iff_forall_mem]
  intro c hc
  have := h c (Array.mem_def.mp hc)
  exact decide_eq_true (by omega)
mutual
theorem pln_lay : ∀ d : PyData, pln d = true → d.hasDict = false → d.canLay0 = true
  | .none, _, _ => by simp [PyData.canLay0]
  | .bool _, _, _ => by simp [PyData.canLay0]
  | .int i, _, _ => by simp [PyData.canLay0]
  | .str x, h, _ => by
    simp only [PyData.canLay0]
    exact strOk_pln (by simpa only [pln] using h)
  | .list xs, h, n => by
    have := plns_lay xs (by simpa [pln] using h) (by simpa [PyData.hasDict] using n)
    simpa [PyData.canLay0] using this
  | .tuple xs, h, n => by
    have := plns_lay xs (by simpa [pln] using h) (by simpa [PyData.hasDict] using n)
    simpa [PyData.canLay0] using this
  | .dict kvs, _, n => by simp [PyData.hasDict] at n
theorem plns_lay : ∀ ds : List PyData, plns ds = true → PyData.hasDictAll ds = false → PyData.canLayAll0 ds = true
  | [], _, _ => by simp [PyData.canLayAll0]
  | d :: r, h, n => by
    obtain ⟨h1, h2⟩ : pln d = true ∧ plns r = true := by simpa [plns] using h
    obtain ⟨n1, n2⟩ : d.hasDict = false ∧ PyData.hasDictAll r = false := by simpa [PyData.hasDictAll] using n
    simp [PyData.canLayAll0, pln_lay d h1 n1, plns_lay r h2 n2]
end
theorem shaped_pln {d : PyData} (h : pln d = true) (n : d.hasDict = false) (hd : d.depth ≤ 64) : SeqAt.shaped d = true := by
  have := pln_lay d h n
  simp only [SeqAt.shaped, this, Bool.true_and]
  exact decide_eq_true hd
/-- what may be shown -/
structure Shw (d : PyData) : Prop where
  p : pln d = true
  n : d.hasDict = false ∨ noL d = true
  dp : d.depth ≤ 60
  bk : d.bulk ≤ 200000
theorem Shw.shown {d : PyData} (h : Shw d) : d.shown.length ≤ sizeLine := by
  have h1 := PyData.shown_le_bulk 60 (by decide) d (pln_short d h.p)
  have h2 : (60 + 2) * d.bulk ≤ 62 * 200000 := Nat.mul_le_mul (by omega) h.bk
  have e : sizeLine = 16777216 := by decide
  rw [e]
  omega
theorem Shw.r {d : PyData} (h : Shw d) : d.showable = true ∧ (d.hasDict = false ∨ noL d = true) ∧ d.depth ≤ 100 ∧ d.shown.length ≤ sizeLine := ⟨pln_showable d h.p, h.n, Nat.le_trans h.dp (by decide), h.shown⟩
/-- repr(x) of plain data -/
theorem repr_shw {K : PySem.W.Frag} {H : Hp} {x : V} {d : PyData} {Q : VK} (hd : Dq K H x d) (h : Shw d) (q : Q (.str d.shown) H) : rRepr K [x] H Q := ⟨x, d, rfl, hd, pln_showable d h.p, h.n, Nat.le_trans h.dp (by decide), h.shown, q⟩
/-- == of plain data without dicts -/
theorem shw_shaped {d : PyData} (h : Shw d) (n : d.hasDict = false) : SeqAt.shaped d = true := shaped_pln h.p n (Nat.le_trans h.dp (by decide))
theorem shw_bools (bs : List Bool) (h : bs.length ≤ 100) : Shw (.list (bs.map PyData.bool)) := by
  have h1 : ∀ cs : List Bool, plns (cs.map PyData.bool) = true ∧ PyData.hasDictAll (cs.map PyData.bool) = false ∧ PyData.depthAll (cs.map PyData.bool) ≤ 0 ∧ PyData.bulkAll (cs.map PyData.bool) ≤ 10 * cs.length := by
    intro cs
    induction cs with
    | nil => simp [plns, PyData.hasDictAll, PyData.depthAll, PyData.bulkAll]
    | cons b r ih =>
      obtain ⟨i1, i2, i3, i4⟩ := ih
      simp only [List.map_cons, plns, pln, PyData.hasDictAll, PyData.hasDict, PyData.depthAll, PyData.depth, PyData.bulkAll, PyData.bulk, List.length_cons, i1, i2, Bool.and_self, Bool.or_self]
      refine ⟨trivial, trivial, by omega, by omega⟩
  obtain ⟨a1, a2, a3, a4⟩ := h1 bs
  refine ⟨by simpa only [pln] using a1, .inl (by simpa only [PyData.hasDict] using a2), by simp only [PyData.depth]; omega, ?_⟩
  show PyData.bulkAll _ ≤ 200000
  omega
end EL
/-! Written data: an expression of constants, tuples, lists gives its data at new places. -/
namespace EL
open PySem PySem.Spec PyProof.Rows L2
/-- a reading, weakened -/
def clE (t : TE) : TE := fun σ H Q => ∃ P : VK, t σ H P ∧ ∀ v H1, P v H1 → Q v H1
def clA (t : TA) : TA := fun σ H Q => ∃ P : List V → Hp → Prop, t σ H P ∧ ∀ vs H1, P vs H1 → Q vs H1
theorem PE.cl {X : Cx} {e : Expr} {t : TE} (h : PE X e t) : PE X e (clE t) := ⟨fun pins s σ H Q I q => by
  obtain ⟨P, p, w⟩ := q
  refine wpAny_mono (h.run pins s σ H P I p) (fun u s1 z => ?_) fun _ _ z => z
  obtain ⟨v, H1, I1, r, q⟩ := z
  exact ⟨v, H1, I1, r, w v H1 q⟩⟩
theorem PA.cl {X : Cx} {es : List Expr} {t : TA} (h : PA X es t) : PA X es (clA t) := ⟨fun pos pins s σ H Q I q => by
  obtain ⟨P, p, w⟩ := q
  refine wpAny_mono (h.run pos pins s σ H P I p) (fun u s1 z => ?_) fun _ _ z => z
  obtain ⟨v, H1, I1, r, q⟩ := z
  exact ⟨v, H1, I1, r, w v H1 q⟩⟩
def tK (K : PySem.W.Frag) (d : PyData) : TE := fun _ H Q => ∀ v H', Same H H' → Dq K H' v d → Q v H'
def tKs (K : PySem.W.Frag) (ds : List PyData) : TA := fun _ H Q => ∀ vs H', Same H H' → DqAll K H' vs ds → Q vs H'
section
variable {X : Cx}
theorem kd_int {i j pos} : PE X (.Constant (.int i) j pos) (tK X.K (.int i)) := ⟨fun pins s σ H Q I h => pe_int.run pins s σ H Q I (h _ H (Same.refl H) (.int i))⟩
theorem kd_bl {b j pos} : PE X (.Constant (.bool b) j pos) (tK X.K (.bool b)) := ⟨fun pins s σ H Q I h => pe_bl.run pins s σ H Q I (h _ H (Same.refl H) (.bl b))⟩
theorem kd_non {j pos} : PE X (.Constant .none j pos) (tK X.K .none) := ⟨fun pins s σ H Q I h => pe_non.run pins s σ H Q I (h _ H (Same.refl H) .non)⟩
theorem kd_str {x j pos} : PE X (.Constant (.str x) j pos) (tK X.K (.str x)) := ⟨fun pins s σ H Q I h => pe_str.run pins s σ H Q I (h _ H (Same.refl H) (.str x))⟩
theorem kd_nil : PA X [] (tKs X.K []) := ⟨fun pos pins s σ H Q I h => pa_nil.run pos pins s σ H Q I (h _ H (Same.refl H) .nil)⟩
theorem kd_cons {e : Expr} {es : List Expr} {d : PyData} {ds : List PyData} (ha : PE X e (tK X.K d)) (hr : PA X es (tKs X.K ds)) (hs : starEach (e :: es) X.env = (false, eval e X.env) :: starEach es X.env := by rfl) : PA X (e :: es) (tKs X.K (d :: ds)) :=
  ⟨fun pos pins s σ H Q I h => (pa_cons ha hr hs).run pos pins s σ H Q I fun v H1 s1 d1 vs H2 s2 d2 => h _ H2 (s1.trans s2) (.cons (d1.up s2) d2)⟩
theorem kd_tup {es : List Expr} {ds : List PyData} {x1 pos} (h : PA X es (tKs X.K ds)) (hz : ds.length ≤ 1000000 := by decide) : PE X (.Tuple es x1 pos) (tK X.K (.tuple ds)) :=
  ⟨fun pins s σ H Q I q => (pe_tup h).run pins s σ H Q I fun vs H1 s1 d1 => ⟨len_sz (by rw [d1.len]; exact hz), fun p np => q _ _ (s1.trans (same_upd np)) (.tup (stOf upd_same) (d1.up (same_upd np)))⟩⟩
theorem kd_lst {es : List Expr} {ds : List PyData} {pos} (h : PA X es (tKs X.K ds)) (hz : ds.length ≤ 1000000 := by decide) : PE X (.List es pos) (tK X.K (.list ds)) :=
  ⟨fun pins s σ H Q I q => (pe_lst h).run pins s σ H Q I fun vs H1 s1 d1 => ⟨len_sz (by rw [d1.len]; exact hz), fun p np => q _ _ (s1.trans (same_upd np)) (.lst (sqOf upd_same) (d1.up (same_upd np)))⟩⟩
theorem kd_dic {pos} : PE X (.Dict [] [] pos) (tK X.K (.dict [])) :=
  ⟨fun pins s σ H Q I q => pe_dnewK.run pins s σ H Q I fun p np => q _ _ (same_upd np) (.dic upd_same)⟩
end
/-! ### data of tuples alone stands beside the deck -/
mutual
/-- no list and no dict within -/
def noLD : PyData → Bool
  | .none | .bool _ | .int _ | .str _ => true
  | .list _ | .dict _ => false
  | .tuple xs => noLDs xs
def noLDs : List PyData → Bool
  | [] => true
  | x :: xs => noLD x && noLDs xs
end
theorem sqT_hid {K : PySem.W.Frag} {H : Hp} {a q b : Addr} {m : Nat} {xs : List V} (D : Dw a q m H) (h : SqT K H b xs) : SqT K (hid a q H) b xs := by
  obtain ⟨c, _, k⟩ := D
  obtain ⟨_, _, _, ha⟩ := k.top
  obtain ⟨_, _, hq⟩ := k.que
  rcases h with (h | ⟨o, h⟩) | h
  · exact .inl (.inl (by rw [hid_ne (fun e => by rw [e, ha] at h; cases h) (fun e => by rw [e, hq] at h; cases h)]; exact h))
  · exact .inl (.inr ⟨o, by rw [hid_ne (fun e => by rw [e, ha] at h; cases h) (fun e => by rw [e, hq] at h; cases h)]; exact h⟩)
  · exact .inr h
mutual
theorem dq_hidT {K : PySem.W.Frag} {H : Hp} {a q : Addr} {m : Nat} (D : Dw a q m H) : ∀ (d : PyData) (v : V), Dq K H v d → noLD d = true → Dq K (hid a q H) v d
  | .none, _, h, _ => by cases h; exact .non
  | .bool b, _, h, _ => by cases h; exact .bl b
  | .int i, _, h, _ => by cases h; exact .int i
  | .str x, _, h, _ => by cases h; exact .str x
  | .list ds, _, h, n => by simp [noLD] at n
  | .tuple ds, _, h, n => by
    cases h with
    | tup hs ha => exact .tup (sqT_hid D hs) (dqAll_hidT D ds _ ha (by simpa [noLD] using n))
  | .dict _, _, h, n => by simp [noLD] at n
theorem dqAll_hidT {K : PySem.W.Frag} {H : Hp} {a q : Addr} {m : Nat} (D : Dw a q m H) : ∀ (ds : List PyData) (vs : List V), DqAll K H vs ds → noLDs ds = true → DqAll K (hid a q H) vs ds
  | [], _, h, _ => by cases h; exact .nil
  | d :: ds, _, h, n => by
    cases h with
    | cons h1 h2 =>
      obtain ⟨n1, n2⟩ : noLD d = true ∧ noLDs ds = true := by simpa [noLDs] using n
      exact .cons (dq_hidT D d _ h1 n1) (dqAll_hidT D ds _ h2 n2)
end
end EL
namespace KP
open PySem PySem.Spec PyProof.Rows L2 EL
abbrev planV (n : Int) (x y z : V) : List (L2.Key × V) := [(.inr "wide", .int n), (.inr "in", x), (.inr "ways", y), (.inr "out", z)]
theorem plan_wide {H : Hp} {p : Addr} {n : Int} {x y z : V} (h : H p = some (.dK (planV n x y z))) : DGet H p (kV (.inr "wide")) (some (.int n)) := by
  have := DGet.k (k := .inr "wide") h
  simpa [valV] using this
theorem plan_in {H : Hp} {p : Addr} {n : Int} {x y z : V} (h : H p = some (.dK (planV n x y z))) : DGet H p (kV (.inr "in")) (some x) := by
  have n1 : ¬ ("wide" : Str) = "in" := by decide +kernel
  have := DGet.k (k := .inr "in") h
  simpa [valV, n1] using this
theorem plan_ways {H : Hp} {p : Addr} {n : Int} {x y z : V} (h : H p = some (.dK (planV n x y z))) : DGet H p (kV (.inr "ways")) (some y) := by
  have n2 : ¬ ("wide" : Str) = "ways" := by decide +kernel
  have n3 : ¬ ("in" : Str) = "ways" := by decide +kernel
  have := DGet.k (k := .inr "ways") h
  simpa [valV, n2, n3] using this
theorem plan_out {H : Hp} {p : Addr} {n : Int} {x y z : V} (h : H p = some (.dK (planV n x y z))) : DGet H p (kV (.inr "out")) (some z) := by
  have n4 : ¬ ("wide" : Str) = "out" := by decide +kernel
  have n5 : ¬ ("in" : Str) = "out" := by decide +kernel
  have n6 : ¬ ("ways" : Str) = "out" := by decide +kernel
  have := DGet.k (k := .inr "out") h
  simpa [valV, n4, n5, n6] using this
/-- a method that may be called -/
structure CalM (P : Program) (w : World) (K : PySem.W.Frag) (mg : Str → Option Value) (base : Heap) (k : Nat) (C : Addr) (m : Str) (ps : List Str) (sp : Sp) where
  f : Addr
  fd : FuncData
  ok : FnOk P w K mg base CX0 k f fd ps sp
  mt : Meth K C m f
  b : Binds K fd ps []
theorem pe_calM {X : Cx} {k : Nat} {C : Addr} {m : Str} {ps : List Str} {sp : Sp} {E : XK} {o e : Expr} {es : List Expr} {ta : TE} {t : TA} {apos pos : Pos} {pl : Sem Bool} (c : Cls X.K C) (M : CalM X.prog X.w X.K X.mg X.base k C m ps sp) (hr : Room k X.A) (hx : Passes CX0 X E) (he : PE X o ta) (ha : PA X (e :: es) t)
    (hst : starEach (e :: es) X.env = (false, eval e X.env) :: starEach es X.env := by rfl) (hpl : (backTo pos (starEach es X.env)).any (·.1) = false := by rfl)
    (ht : eval (.Call (.Attribute o m apos) (e :: es) [] pos) X.env = (do
      let ov ← eval o X.env
      standAt apos.atName
      let (f, first) ← holding [ov] (getMethod ov m pl)
      callWith pos f first (backTo pos (starEach (e :: es) X.env)) (backToKw pos (keywordEach [] X.env))) := by rfl) :
    PE X (.Call (.Attribute o m apos) (e :: es) [] pos) (tMeth C m sp [] E ta t) := pe_meth he c M.mt M.ok hr M.b .nil hx ha hst hpl ht
theorem pe_calM0 {X : Cx} {k : Nat} {C : Addr} {m : Str} {ps : List Str} {sp : Sp} {E : XK} {o : Expr} {ta : TE} {apos pos : Pos} {pl : Sem Bool} (c : Cls X.K C) (M : CalM X.prog X.w X.K X.mg X.base k C m ps sp) (hr : Room k X.A) (hx : Passes CX0 X E) (he : PE X o ta)
    (ht : eval (.Call (.Attribute o m apos) [] [] pos) X.env = (do
      let ov ← eval o X.env
      standAt apos.atName
      let (f, first) ← holding [ov] (getMethod ov m pl)
      callWith pos f first (backTo pos (starEach [] X.env)) (backToKw pos (keywordEach [] X.env))) := by rfl) :
    PE X (.Call (.Attribute o m apos) [] [] pos) (tMeth C m sp [] E ta tNil) := pe_meth0 he c M.mt M.ok hr M.b .nil hx ht
theorem pf_miss {f : Str} (n : Int) (b m e : V) (h1 : (f == ("size" : Str)) = false := by decide +kernel) (h2 : (f == ("begins" : Str)) = false := by decide +kernel) (h3 : (f == ("moves" : Str)) = false := by decide +kernel) (h4 : (f == ("ends" : Str)) = false := by decide +kernel) : (pf n b m e).lookup f = none := by
  simp only [pf, List.lookup, h1, h2, h3, h4]
theorem pf_no (n : Int) (b m e : V) : (pf n b m e).lookup ("tells" : Str) = none := by
  have h1 : (("tells" : Str) == "size") = false := by decide +kernel
  have h2 : (("tells" : Str) == "begins") = false := by decide +kernel
  have h3 : (("tells" : Str) == "moves") = false := by decide +kernel
  have h4 : (("tells" : Str) == "ends") = false := by decide +kernel
  simp only [pf, List.lookup, h1, h2, h3, h4]
/-! ### pacers beside the deck -/
theorem nats_noLD (ns : List Nat) : noLD (.tuple (nats ns)) = true := by
  simp only [noLD]
  induction ns with
  | nil => rfl
  | cons n r ih => simpa [noLDs, noLD] using ih
theorem mvs_noLD (ms : List Mv) : noLD (.tuple (ms.map mvD)) = true := by
  simp only [noLD]
  induction ms with
  | nil => rfl
  | cons m r ih =>
    simp only [List.map_cons, noLDs, ih, Bool.and_true]
    simp [mvD, noLD, noLDs]
theorem PacAt.hidden {K : PySem.W.Frag} {C : Addr} {H : Hp} {x a q : Addr} {m : Nat} {pl : Plan} (h : PacAt K C H x pl) (D : Dw a q m H) : PacAt K C (hid a q H) x pl := by
  obtain ⟨dx, vb, vm, ve, h1, h2, h3, h4⟩ := h.at'
  obtain ⟨c, _, k⟩ := id D
  obtain ⟨_, _, _, ha⟩ := k.top
  obtain ⟨_, _, hq⟩ := k.que
  refine ⟨dx, vb, vm, ve, ?_, dq_hidT D _ _ h2 (nats_noLD _), dq_hidT D _ _ h3 (mvs_noLD _), dq_hidT D _ _ h4 (nats_noLD _)⟩
  rw [hid_ne (fun e => by rw [e, ha] at h1; cases h1) (fun e => by rw [e, hq] at h1; cases h1)]
  exact h1
theorem PacAt.ins {K : PySem.W.Frag} {C : Addr} {H : Hp} {x : Addr} {pl : Plan} (h : PacAt K C H x pl) (f : Str) (h1 : (f == ("size" : Str)) = false := by decide +kernel) (h2 : (f == ("begins" : Str)) = false := by decide +kernel) (h3 : (f == ("moves" : Str)) = false := by decide +kernel) (h4 : (f == ("ends" : Str)) = false := by decide +kernel) :
    ∃ dx fs, H x = some (.ins C dx fs) ∧ fs.lookup f = none := by
  obtain ⟨dx, vb, vm, ve, e1, _⟩ := h.at'
  exact ⟨dx, _, e1, pf_miss _ _ _ _ h1 h2 h3 h4⟩
/-- Pacer(..) of what is right -/
def tPac (K : PySem.W.Frag) (C : Addr) (t : TA) : TE := fun σ H Q => t σ H fun vs H1 => ∃ (pl : Plan) (top many long : Nat) (v1 v2 v3 : V), vs = [.int (pl.wide : Int), v1, v2, v3] ∧ Dq K H1 v1 (.tuple (nats pl.ins)) ∧ Dq K H1 v2 (.tuple (pl.ways.map mvD)) ∧ Dq K H1 v3 (.tuple (nats pl.outs)) ∧
  pl.Ok top many long ∧ top ≤ 50 ∧ many ≤ 50 ∧ long ≤ 50 ∧ ∀ x H', Same H1 H' → H1 x = none → PacAt K C H' x pl → Q (.ref x) H'
theorem pe_pac {X : Cx} {k : Nat} {C : Addr} {E : XK} {e : Expr} {es : List Expr} {t : TA} {p pos : Pos} (CC : CalC X.prog X.w X.K X.mg X.base k C) (hr : Room (k + 1) X.A) (hg : Gl X "Pacer") (hx : Passes CX0 X E) (ha : PA X (e :: es) t)
    (he : starEach (e :: es) X.env = (false, eval e X.env) :: starEach es X.env := by rfl) (hpl : (backTo pos (starEach es X.env)).any (·.1) = false := by rfl) :
    PE X (.Call (.Name "Pacer" p) (e :: es) [] pos) (tPac X.K C t) := by
  refine ⟨fun pins s σ H Q I h => (pe_make CC.mke CC.ok hr hg CC.g CC.b .nil hx (EL.PA.cl ha) (by decide) he hpl).run pins s σ H Q I ?_⟩
  refine ⟨_, h, ?_⟩
  rintro vs H1 ⟨pl, top, many, long, v1, v2, v3, rfl, d1, d2, d3, hO, t1, t2, t3, kQ⟩
  intro x dx nx ndx nex
  have s2 : Same H1 (upd (upd H1 dx (.own x)) x (.ins C dx [])) := fun b o e => by
    rw [upd_ne (ne_of_none e nx), upd_ne (ne_of_none e ndx)]; exact e
  have gx : upd (upd H1 dx (.own x)) x (.ins C dx []) x = some (.ins C dx []) := upd_same
  generalize upd (upd H1 dx (.own x)) x (.ins C dx []) = H2 at s2 gx ⊢
  have b1 := asc_len hO.i
  have b2 := asc_len hO.o
  have w2 := hO.w2
  have nn := hO.n
  refine ⟨x, dx, (pl.wide : Int), v1, v2, v3, _, _, _, rfl, gx, d1.up s2, d2.up s2, d3.up s2, ?_, ?_, ?_, by have := hO.w1; omega, states_ok hO.i, moves_ok hO.m, states_ok hO.o, fun H3 keep g => ⟨rfl, ?_⟩⟩
  · show PyData.bulkAll _ ≤ 500000
    have := nats_bulk pl.ins; omega
  · show PyData.bulkAll _ ≤ 500000
    have := moves_bulk t3 hO.m; omega
  · show PyData.bulkAll _ ≤ 500000
    have := nats_bulk pl.outs; omega
  · have s13 : Same H1 H3 := fun b o e => keep b o (ne_of_none e nx) (s2 b o e)
    have ref_of : ∀ {v : V} {ds : List PyData}, Dq X.K H1 v (.tuple ds) → ∃ a, v = .ref a := fun h => by cases h with | tup _ _ => exact ⟨_, rfl⟩
    obtain ⟨a1, rfl⟩ := ref_of d1
    obtain ⟨a2, rfl⟩ := ref_of d2
    obtain ⟨a3, rfl⟩ := ref_of d3
    exact kQ x H3 s13 nx ⟨dx, a1, a2, a3, g, d1.up s13, d2.up s13, d3.up s13⟩
/-- .. of written parts -/
theorem pe_pacK {X : Cx} {k : Nat} {C : Addr} {E : XK} {e : Expr} {es : List Expr} {ds : List PyData} {p pos : Pos} (pl : Plan) (CC : CalC X.prog X.w X.K X.mg X.base k C) (hr : Room (k + 1) X.A) (hg : Gl X "Pacer") (hx : Passes CX0 X E) (ha : PA X (e :: es) (tKs X.K ds))
    (hds : ds = [.int (pl.wide : Int), .tuple (nats pl.ins), .tuple (pl.ways.map mvD), .tuple (nats pl.outs)]) (hO : pl.Ok 50 50 50)
    (he : starEach (e :: es) X.env = (false, eval e X.env) :: starEach es X.env := by rfl) (hpl : (backTo pos (starEach es X.env)).any (·.1) = false := by rfl) :
    PE X (.Call (.Name "Pacer" p) (e :: es) [] pos) (fun _ H Q => ∀ x H', Same H H' → H x = none → PacAt X.K C H' x pl → Q (.ref x) H') := by
  refine ⟨fun pins s σ H Q I h => (pe_pac CC hr hg hx ha he hpl).run pins s σ H Q I ?_⟩
  subst hds
  intro vs H1 s1 dq
  cases dq with
  | cons d0 dq => cases dq with
  | cons d1 dq => cases dq with
  | cons d2 dq => cases dq with
  | cons d3 dq =>
    cases dq
    cases d0
    exact ⟨pl, 50, 50, 50, _, _, _, rfl, d1, d2, d3, hO, Nat.le_refl _, Nat.le_refl _, Nat.le_refl _, fun x H' s2 n g => h x H' (s1.trans s2) (s1.free n) g⟩
theorem Plan.Ok.upto {p : Plan} {a b c a' b' c' : Nat} (h : p.Ok a b c) (h1 : a ≤ a') (h2 : b ≤ b') (h3 : c ≤ c') : p.Ok a' b' c' := ⟨h.w1, Nat.le_trans h.w2 h1, h.i, h.o, Nat.le_trans h.n h2, fun m hm => by obtain ⟨q1, q2, q3, q4, q5⟩ := h.m m hm; exact ⟨q1, q2, Nat.le_trans q3 h3, Nat.le_trans q4 h3, q5⟩⟩
theorem dqAll_nats {K : PySem.W.Frag} {H : Hp} : ∀ {ns : List Nat} {vs : List V}, DqAll K H vs (nats ns) → vs = ns.map fun (n : Nat) => V.int (n : Int)
  | [], _, h => by cases h; rfl
  | n :: r, _, h => by
    cases h with
    | cons h1 h2 => cases h1; rw [dqAll_nats h2]; rfl
theorem cut_app (a b : Str) : (a ++ b).length = a.length + b.length := by
  show (a.cps ++ b.cps).size = _
  rw [Array.size_append]; rfl
theorem cut_two (z : Str) (c : Nat) : (cutS z none (some (c : Int)) ++ cutS z (some ((c : Int) + 1)) none).length ≤ z.length := by
  rw [cut_app]
  show (((z.cps.toList.drop (HT.sIx z.length 0 none)).take (HT.sIx z.length z.length (some (c : Int)) - HT.sIx z.length 0 none)).toArray).size + (((z.cps.toList.drop (HT.sIx z.length 0 (some ((c : Int) + 1)))).take (HT.sIx z.length z.length none - HT.sIx z.length 0 (some ((c : Int) + 1)))).toArray).size ≤ z.cps.size
  rw [show ((c : Int) + 1) = ((c + 1 : Nat) : Int) by omega, HT.sIx_nat, HT.sIx_nat, HT.sIx_none, HT.sIx_none, List.size_toArray, List.size_toArray, List.length_take, List.length_take, List.length_drop, List.length_drop, Array.length_toList]
  show _ ≤ z.length
  omega
theorem peq_self (pl : Plan) (h : AscP pl) : peq pl pl = true := by
  have sh : ∀ d : PyData, SeqAt.shaped d = true → PyData.eqv d d = true := fun d q => SeqAt.eqv_refl d (by
    simp only [SeqAt.shaped, Bool.and_eq_true] at q; exact q.1)
  unfold peq
  rw [sh _ (shaped_nats _), sh _ (shaped_nats _), sh _ (shaped_moves h), decide_eq_true rfl]; rfl
end KP
/-! xs[::2] of a list. -/
namespace EL
open PySem PySem.Spec PyProof.Rows L2
def evs (xs : List V) : List V := (sliceRange 0 (xs.length : Int) 2).filterMap (xs[·]?)
theorem evs_mem {xs : List V} {v : V} (h : v ∈ evs xs) : v ∈ xs := by
  obtain ⟨k, _, e⟩ := List.mem_filterMap.mp h
  exact List.mem_of_getElem? e
theorem vals_pick {xs : List V} {its : List Value} (r : Vals xs its) : ∀ R : List Nat, Vals (R.filterMap (xs[·]?)) (R.filterMap (its[·]?))
  | [] => .nil
  | k :: R => by
    have ih := vals_pick r R
    rw [List.filterMap_cons, List.filterMap_cons]
    by_cases h : k < xs.length
    · obtain ⟨u, hu, ru⟩ := r.get (List.getElem?_eq_getElem h)
      rw [List.getElem?_eq_getElem h, hu]
      exact .cons ru ih
    · rw [List.getElem?_eq_none (by omega), List.getElem?_eq_none (by rw [← r.length]; omega)]
      exact ih
theorem evs_len (xs : List V) : (evs xs).length ≤ xs.length := by
  refine Nat.le_trans (List.length_filterMap_le _ _) (sliceRange_length_le _ _ _ _ (fun _ => ⟨by omega, Int.le_refl _⟩) fun h => ?_)
  exact absurd (by decide : (2 : Int) > 0) h
def tEvs (K : PySem.W.Frag) (te : TE) : TE := fun σ H Q => te σ H fun x H1 => ∃ a xs, x = .ref a ∧ SqL K H1 a xs ∧ ∀ p, H1 p = none → Q (.ref p) (upd H1 p (.lst (evs xs)))
theorem pe_evs {X : Cx} {e : Expr} {te : TE} {k : Nat} {p2 p3 pos : Pos} (he : PE X e te) : PE X (.Subscript e (.Slice none none (some (.Constant (.int 2) k p2)) p3) pos) (tEvs X.K te) := by
  refine ⟨fun pins s σ H Q I h => ?_⟩
  refine Subscript_ (thn (he.run pins s σ H _ I h) fun v s1 ⟨x, H1, I1, r1, q1⟩ => ?_)
  obtain ⟨a, xs, ex, hx, q⟩ := q1
  subst ex
  cases r1
  have hst : PO X (some (.Constant (.int 2) k p2)) (tPart (tC (.int 2))) := po_some pe_int
  refine wpAny_Slice (thn (po_none.run pins s1 σ H1 (fun o H2 => o = none ∧ H2 = H1) I1 ⟨rfl, rfl⟩) fun vl s2 ⟨l, H2, I2, pl, el, e2⟩ => ?_)
  subst el e2
  refine thn (po_none.run pins s2 σ H2 (fun o H3 => o = none ∧ H3 = H2) I2 ⟨rfl, rfl⟩) fun vu s3 ⟨u, H3, I3, pu, eu, e3⟩ => ?_
  subst eu e3
  refine thn (hst.run pins s3 σ H3 (fun o H4 => o = some 2 ∧ H4 = H3) I3 ⟨2, rfl, rfl, rfl⟩) fun vs s4 ⟨o, H4, I4, ps, eo, e4⟩ => ?_
  subst eo e4
  have I5 : Inv X pins σ H4 { s4 with heap := s4.heap.push { cls := .type "slice", data := .fields #[vl, vu, vs] } } := I4.kept (t' := s4.toks) fun b ob q => Heap.get?_push_of_some _ q
  obtain ⟨its, r, ht, hz⟩ := I5.list hx
  have hlen := r.length
  show wpAny (model X.prog X.w) X.A (subscriptTail e (.Slice none none (some (.Constant (.int 2) k p2)) p3) (.ref a) (.ref s4.heap.objs.size)) (EP X pins σ Q) X.xe { s4 with heap := s4.heap.push { cls := .type "slice", data := .fields #[vl, vu, vs] } }
  refine tail_any (ops := [.ref a, .ref s4.heap.objs.size]) ht.isList.typeIs (PySem.slot_list_getitem.lookup) ?_ (by with_unfolding_all rfl)
  refine wpAny_getItem_list_slice ht.isList (Heap.IsSliceOf.new _ vl vu vs) pl pu ps (by decide) ?_ (by rw [List.size_toArray]; omega)
  have ep : slicePick its.toArray none none (some 2) = ((sliceRange 0 (xs.length : Int) 2).filterMap (its[·]?)).toArray := by
    unfold slicePick
    rw [show sliceBounds none none (some 2) its.toArray.size = (0, (its.toArray.size : Int), 2) from rfl]
    show ((sliceRange 0 (its.toArray.size : Int) 2).filterMap (its.toArray[·]?)).toArray = _
    rw [List.size_toArray, ← hlen]
    congr 2
    funext i
    simp
  rw [ep]
  refine ⟨.ref _, _, I5.laid (t' := s4.toks) (o := .lst (evs xs)) (fun b ob q => Heap.get?_push_of_some _ q) (Nat.le_refl _) ?_, rfl, q _ (I5.hok.fresh (Nat.le_refl _))⟩
  exact ⟨Nat.le_trans (evs_len xs) hz, _, 0, vals_pick r _, Heap.get?_push_size _ rfl⟩
end EL
/-! Comprehensions whose items are data made on the way: the heap without the list that grows. -/
namespace EL
open PySem PySem.Spec PyProof.Rows L2
/-- the heap without one object -/
def wo (D : Addr) (H : Hp) : Hp := fun b => if b = D then none else H b
theorem wo_ne {D b : Addr} {H : Hp} (h : b ≠ D) : wo D H b = H b := if_neg h
theorem wo_at {D : Addr} {H : Hp} : wo D H D = none := if_pos rfl
theorem wo_some {D b : Addr} {H : Hp} {o : HO} (h : wo D H b = some o) : b ≠ D ∧ H b = some o := by
  by_cases e : b = D
  · subst e; rw [wo_at] at h; cases h
  · exact ⟨e, by rw [wo_ne e] at h; exact h⟩
theorem wo_sub {D : Addr} {H : Hp} : Same (wo D H) H := fun _ _ h => (wo_some h).2
theorem wo_upd {D : Addr} {H : Hp} {o : HO} : wo D (upd H D o) = wo D H := by
  funext b
  by_cases e : b = D
  · subst e; rw [wo_at, wo_at]
  · rw [wo_ne e, wo_ne e, upd_ne e]
theorem same_wo {D : Addr} {H H' : Hp} (s : Same H H') : Same (wo D H) (wo D H') := fun b o h => by
  obtain ⟨e, h⟩ := wo_some h
  rw [wo_ne e]; exact s b o h
theorem wo_id {D : Addr} {H : Hp} (n : H D = none) : wo D H = H := by
  funext b
  by_cases e : b = D
  · subst e; rw [wo_at, n]
  · exact wo_ne e
/-- a comprehension's list at D behind i turns: the data f i, beside the list itself -/
def LcG (K : PySem.W.Frag) (D : Addr) (H : Hp) (f : Nat → List PyData) (i : Nat) (H' : Hp) : Prop := ∃ vs, H' D = some (.lst vs) ∧ DqAll K (wo D H') vs (f i) ∧ vs.length ≤ i ∧ Same H (wo D H')
section
variable {K : PySem.W.Frag} {D : Addr} {H H1 H2 : Hp} {f : Nat → List PyData} {i : Nat}
theorem LcG.start (n : H D = none) (h0 : f 0 = []) : LcG K D H f 0 (upd H D (.lst [])) :=
  ⟨[], upd_same, by rw [h0]; exact .nil, Nat.le_refl _, by rw [wo_upd, wo_id n]; exact Same.refl _⟩
theorem LcG.sm (L : LcG K D H f i H1) (n : H D = none) : Same H H1 := by
  obtain ⟨_, _, _, _, s⟩ := L
  exact s.trans wo_sub
theorem LcG.at (L : LcG K D H f i H1) : ∃ vs, H1 D = some (.lst vs) := by
  obtain ⟨vs, h, _⟩ := L
  exact ⟨vs, h⟩
theorem DqAll.snoc' {vs : List V} {ds : List PyData} {v : V} {d : PyData} (h : DqAll K H vs ds) (g : Dq K H v d) : DqAll K H (vs ++ [v]) (ds ++ [d]) := h.app (.cons g .nil)
theorem lcg_some {v : V} {d : PyData} (L : LcG K D H f i H1) (s : Same H1 H2) (hf : f (i + 1) = f i ++ [d]) (hv : Dq K (wo D H2) v d) (hi : i < 1000000) :
    ∃ acc, H2 D = some (.lst acc) ∧ acc.length < sizeLine ∧ LcG K D H f (i + 1) (upd H2 D (.lst (acc ++ [v]))) := by
  obtain ⟨vs, h1, h2, h3, h4⟩ := L
  refine ⟨vs, s _ _ h1, lt_sz (by omega), vs ++ [v], upd_same, ?_, by rw [List.length_append]; show vs.length + 1 ≤ _; omega, ?_⟩
  · rw [wo_upd, hf]
    exact (h2.up (same_wo s)).snoc' hv
  · rw [wo_upd]
    exact h4.trans (same_wo s)
theorem lcg_none (L : LcG K D H f i H1) (s : Same H1 H2) (hf : f (i + 1) = f i) : LcG K D H f (i + 1) H2 := by
  obtain ⟨vs, h1, h2, h3, h4⟩ := L
  exact ⟨vs, s _ _ h1, by rw [hf]; exact h2.up (same_wo s), by omega, h4.trans (same_wo s)⟩
/-- at the end: a list of this data -/
theorem LcG.done (L : LcG K D H f i H1) : ∃ vs, H1 D = some (.lst vs) ∧ DqAll K (wo D H1) vs (f i) ∧ DqAll K H1 vs (f i) ∧ vs.length ≤ i := by
  obtain ⟨vs, h1, h2, h3, _⟩ := L
  exact ⟨vs, h1, h2, h2.up wo_sub, h3⟩
/-- a new tuple stands beside the list -/
theorem tup_wo {p : Addr} {xs : List V} {ds : List PyData} (hD : ∃ vs, H1 D = some (.lst vs)) (np : H1 p = none) (h : DqAll K (wo D H1) xs ds) : Dq K (wo D (upd H1 p (.tup xs))) (.ref p) (.tuple ds) := by
  obtain ⟨vs, hD⟩ := hD
  have e : p ≠ D := fun e => by rw [e, hD] at np; cases np
  exact .tup (stOf (by rw [wo_ne e]; exact upd_same)) (h.up (same_wo (same_upd np)))
theorem take_snoc {α : Type} {l : List α} {i : Nat} {x : α} (h : l[i]? = some x) : l.take (i + 1) = l.take i ++ [x] := by
  rw [List.take_add_one, h]; rfl
end
/-! ### a method without arguments -/
theorem mv_get {α : Type} {l : List α} {g : α → PyData} {i : Nat} {d : PyData} (h : (l.map g)[i]? = some d) : ∃ x, l[i]? = some x ∧ d = g x := by
  rw [List.getElem?_map] at h
  cases e : l[i]? with
  | none => rw [e] at h; cases h
  | some x => rw [e] at h; exact ⟨x, rfl, (Option.some.inj h).symm⟩
end EL
/-! set(xs) of a list of ints: a set that can be sorted. -/
namespace EL
open PySem PySem.Spec PyProof.Rows L2
section
variable {P : Program} {w : World} {A : Around} {E : Value → Shared → Prop} {s : Shared}
/-- the empty set, as it is laid -/
abbrev bareSet (w : World) : Obj := { cls := .type "set", dict := none, data := .set #[] 0 (.fresh 0 0 (!w.params.followText "set-order")) }
theorem set_list_ints {l : Addr} {items : Array Value} (ns : List Int) {Q : Value → Shared → Prop} (hh : A.handled = none) (hl : s.heap.IsList l items) (hit : IntsAre items.toList ns) (hb : ns.length + 1 < scanBound)
    (h : ∀ (g : Heap) (tk c : Nat), SetR w g s.heap.objs.size (fun j => decide (j ∈ ns)) c → c ≤ ns.length → (∀ b o, s.heap.get? b = some o → g.get? b = some o) → Q (.ref s.heap.objs.size) { s with heap := g, toks := tk }) : wpAny (model P w) A (call (.type "set") [.ref l]) Q E s := by
  have len : items.size = ns.length := by
    rw [← Array.length_toList]; exact IntsAre.length hit
  obtain ⟨_, _, mr⟩ := PySem.F.called_set.mro
  have md := PySem.F.called_set.made
  have sb := PySem.F.called_set.sub
  refine wpAny_call (codeAny_of_tree ?_)
  show wpAny _ _ (callAny (.type "set") _) _ _ _
  refine wpAny_pure ⟨Code.quiet_builtin _ (by decide +kernel), codeAny_builtin (PySem.F.entry_type_call) ?_⟩
  rw [Around.under_plain (weight_type_call_type "set" [.ref l] []) rfl]
  have q1 := PySem.F.called_set.notType
  have q2 := PySem.F.called_set.canCreate
  have q3 := PySem.F.typeCall_set_1 (.ref l)
  repeat (any_goals (first | assumption | wp_step))
  generalize hN : s.heap.objs.size = N at h ⊢
  have made : ∀ B : Around, codeAny (model P w) B (.call (.builtin "set.__new__") ⟨[.type "set", .ref l], []⟩) (wants (fun obj s₁ => obj = .ref N ∧ s₁ = { s with heap := s.heap.push (bareSet w) }) E) s := fun B => code_set_led1 (.ref l) (by rw [← hN]; exact ⟨rfl, rfl⟩)
  refine codeAny_mono (made _) fun r s₁ hr => ?_
  match r, hr with
  | .error e, hr => exact hr
  | .ok (.ret obj), ⟨e1, e2⟩ =>
    subst e1 e2
    have hS : (s.heap.push (bareSet w)).get? N = some (bareSet w) := by rw [← hN]; exact Heap.get?_push_size _ rfl
    have hT : Shared.TypeIs { s with heap := s.heap.push (bareSet w) } (.ref N) "set" := ⟨_, hS, rfl⟩
    have hli := PySem.F.called_set.init.lookup
    have hbi := PySem.F.called_set.init.bind (.ref N)
    repeat (any_goals (first | assumption | wp_step))
    have init : ∀ B : Around, B.handled = none → codeAny (model P w) B (.call (.builtin "set.__init__") ⟨[.ref N, .ref l], []⟩) (wants (fun r s₂ => r = .none ∧ ∃ g tk c, s₂ = { s with heap := g, toks := tk } ∧ SetR w g N (fun j => decide (j ∈ ns)) c ∧ c ≤ ns.length ∧ (∀ b o, s.heap.get? b = some o → g.get? b = some o)) E) { s with heap := s.heap.push (bareSet w) } := by
      intro B hB
      refine codeAny_call_builtin PySem.F.called_set.init.plain PySem.F.entry_set_init (PySem.check_set_init_1 hT ?_)
      have hl1 : (s.heap.push (bareSet w)).IsList l items := hl.push _
      have hTl : Shared.TypeIs { s with heap := s.heap.push (bareSet w) } (.ref l) "list" := Heap.IsList.typeIs (s := { s with heap := s.heap.push (bareSet w) }) hl1
      have f1 := PySem.F.sub_list_set
      have f2 := PySem.F.sub_list_frozenset
      have f3 : (Value.type "list" == Value.type "dict") = false := by decide
      have lN : l < N := by
        obtain ⟨o, ho, _⟩ := hl
        rw [← hN]; exact Heap.lt_size ho
      have sz : (s.heap.push (bareSet w)).objs.size = N + 1 := by rw [Heap.size_push, hN]
      unfold Builtin.«set.__init__» noKeywords Builtin.Frozenset.updateFrom
      generalize hPI : pyIter = PI
      wp_walk
      subst hPI
      refine wpAny_pyIter_list hl1 (wpAny_bind (wpAny_runValue ?_))
      have hB3 : B.in1.in1.handled = none := by simp [hB]
      have walk := (Walks.list (prog := P) (w := w) hB3 (N + 1) l (Nat.ne_of_lt (Nat.lt_succ_of_lt lN)) items).toS
      rw [sz]
      refine set_update_ints walk N ?_ ns len hb ?_ (items.size - 0) 0 _ (by omega) (Nat.zero_le _) ⟨?_, hl1.push _⟩ ⟨0, Nat.le_refl 0, setR_new_at (Heap.get?_push_of_some _ hS)⟩ ?_
      · intro z
        rcases List.mem_cons.mp z with z | z
        · exact Nat.ne_of_lt (Nat.lt_succ_self N) z
        · exact Nat.ne_of_gt lN (List.mem_singleton.mp z)
      · intro i v hv
        have hi : i < ns.length := by rw [← len]; exact (Array.getElem?_eq_some_iff.mp hv).1
        obtain ⟨t, e⟩ := IntsAre.int_at hit i v (by rw [Array.getElem?_toList]; exact hv)
        exact ⟨ns[i], t, List.getElem?_eq_getElem hi, by rw [e, List.getD_eq_getElem?_getD, List.getElem?_eq_getElem hi]; rfl⟩
      · exact ⟨_, by rw [← sz]; exact Heap.get?_push_size _ rfl, rfl, rfl⟩
      · rintro ⟨g, gn, dr, tk, os⟩ c mv hc R
        obtain rfl : gn = s.gens := mv.gens
        obtain rfl : dr = s.drawn := mv.drawn
        obtain rfl : os = s.os := mv.os
        refine wpAny_pure ?_
        refine wpAny_pure ⟨rfl, g, tk, c, rfl, R, by omega, fun b o e => ?_⟩
        have hb0 : b < N := by rw [← hN]; exact Heap.lt_size e
        refine mv.heap b o (fun z => ?_) (Heap.get?_push_of_some _ (Heap.get?_push_of_some _ e))
        rcases List.mem_cons.mp z with z | z
        · exact Nat.ne_of_lt hb0 z
        · exact Nat.ne_of_lt (Nat.lt_succ_of_lt hb0) (List.mem_singleton.mp z)
    refine codeAny_mono (init _ (by simp [hh])) fun r₂ s₂ h2 => ?_
    match r₂, h2 with
    | .error e, h2 => exact h2
    | .ok (.ret v), ⟨e0, g, tk, c, e1, R, hc, keep⟩ =>
      subst e0 e1
      repeat (any_goals (first | assumption | wp_step))
      exact h g tk c R hc keep
    | .ok .next, h2 => exact h2.elim
    | .ok .brk, h2 => exact h2.elim
    | .ok .cont, h2 => exact h2.elim
  | .ok .next, hr => exact hr.elim
  | .ok .brk, hr => exact hr.elim
  | .ok .cont, hr => exact hr.elim
end
end EL
namespace EL
open PySem PySem.Spec PyProof.Rows L2
section
variable {X : Cx}
/-- set(xs), xs a list of ints -/
def rSetI (K : PySem.W.Frag) (w : World) : List V → Hp → VK → Prop := fun xs H Q => ∃ (l : Addr) (ns : List Int), xs = [.ref l] ∧ SqL K H l (ns.map V.int) ∧ ns.length ≤ 1000 ∧ ∀ p c, H p = none → c ≤ ns.length → Q (.ref p) (upd H p (SetO w p (fun j => decide (j ∈ ns)) c))
theorem cr_setI (hc : X.calm = true) : CallR X (.type "set") (rSetI X.K X.w) := by
  intro pins s σ H xs us Q I r h
  obtain ⟨l, ns, rfl, hl, hn, q⟩ := h
  rw [Vals.ref1 r]
  obtain ⟨its, rv, pl, hz⟩ := I.list hl
  have hN : H s.heap.objs.size = none := I.hok.fresh (Nat.le_refl _)
  have room : ns.length + 1 < scanBound := by unfold scanBound; omega
  refine set_list_ints ns (I.ok.hd hc) pl.isList (by simpa using RZ.intsAre_vals rv) room fun g tk c R hcc k => ?_
  exact ⟨.ref s.heap.objs.size, upd H s.heap.objs.size (SetO X.w s.heap.objs.size (fun j => decide (j ∈ ns)) c), I.laid (t' := tk) k (Nat.le_refl _) (setO_new R), rfl, q _ c hN hcc⟩
end
end EL
/-! d.setdefault(k, []).append(v), again and again: lists by keys. -/
namespace EL
open PySem PySem.Spec PyProof.Rows L2
/-- the keys, as they are met -/
def keysOf : List (L2.Key × PyData) → List L2.Key
  | [] => []
  | (k, _) :: r => k :: (keysOf r).filter fun j => decide (j ≠ k)
/-- what stands under a key -/
def ofK (es : List (L2.Key × PyData)) (k : L2.Key) : List PyData := (es.filter fun e => decide (e.1 = k)).map (·.2)
theorem ofK_snoc (es : List (L2.Key × PyData)) (k j : L2.Key) (d : PyData) : ofK (es ++ [(k, d)]) j = ofK es j ++ (if k = j then [d] else []) := by
  unfold ofK
  rw [List.filter_append, List.map_append]
  congr 1
  by_cases h : k = j
  · rw [if_pos h, List.filter_cons_of_pos (by simpa using h)]; rfl
  · rw [if_neg h, List.filter_cons_of_neg (by simpa using h)]; rfl
theorem mem_keysOf {es : List (L2.Key × PyData)} {k : L2.Key} : k ∈ keysOf es ↔ ∃ d, (k, d) ∈ es := by
  induction es with
  | nil => simp [keysOf]
  | cons e r ih =>
    obtain ⟨j, d⟩ := e
    simp only [keysOf, List.mem_cons, List.mem_filter, decide_eq_true_eq, ih]
    constructor
    · rintro (rfl | ⟨⟨x, hx⟩, _⟩)
      · exact ⟨d, .inl rfl⟩
      · exact ⟨x, .inr hx⟩
    · rintro ⟨x, h | h⟩
      · exact .inl (congrArg Prod.fst h)
      · by_cases e : k = j
        · exact .inl e
        · exact .inr ⟨⟨x, h⟩, e⟩
theorem keysOf_new' {es : List (L2.Key × PyData)} {k : L2.Key} (d : PyData) (h : k ∉ keysOf es) : keysOf (es ++ [(k, d)]) = keysOf es ++ [k] := by
  induction es with
  | nil => rfl
  | cons e r ih =>
    obtain ⟨j, x⟩ := e
    simp only [List.cons_append, keysOf] at h ⊢
    have h1 : k ≠ j := fun e => h (e ▸ List.mem_cons_self)
    have h2 : k ∉ keysOf r := fun q => h (List.mem_cons_of_mem _ (List.mem_filter.mpr ⟨q, by simpa using h1⟩))
    rw [ih h2, List.filter_append, List.filter_cons_of_pos (by simpa using h1)]; rfl
theorem keysOf_old {es : List (L2.Key × PyData)} {k : L2.Key} (d : PyData) (h : k ∈ keysOf es) : keysOf (es ++ [(k, d)]) = keysOf es := by
  induction es with
  | nil => simp [keysOf] at h
  | cons e r ih =>
    obtain ⟨j, x⟩ := e
    simp only [List.cons_append, keysOf] at h ⊢
    by_cases h1 : k = j
    · subst h1
      by_cases h2 : k ∈ keysOf r
      · rw [ih h2]
      · have := keysOf_new' (es := r) d h2
        rw [this, List.filter_append, List.filter_cons_of_neg (by simp)]; simp
    · rcases List.mem_cons.mp h with h | h
      · exact absurd h h1
      · rw [ih (List.mem_filter.mp h).1]
theorem keysOf_new {es : List (L2.Key × PyData)} {k : L2.Key} (d : PyData) (h : k ∉ keysOf es) : keysOf (es ++ [(k, d)]) = keysOf es ++ [k] := keysOf_new' d h
theorem keysOf_len (es : List (L2.Key × PyData)) : (keysOf es).length ≤ es.length := by
  induction es with
  | nil => exact Nat.le_refl _
  | cons e r ih =>
    simp only [keysOf, List.length_cons]
    have := List.length_filter_le (fun j => decide (j ≠ e.1)) (keysOf r)
    omega
theorem ofK_nil {es : List (L2.Key × PyData)} {k : L2.Key} (h : k ∉ keysOf es) : ofK es k = [] := by
  unfold ofK
  rw [List.map_eq_nil_iff, List.filter_eq_nil_iff]
  intro e he
  simp only [decide_eq_true_eq]
  intro z
  exact h (mem_keysOf.mpr ⟨e.2, by rw [← z]; exact he⟩)
theorem valV_keys {kvs : List (L2.Key × V)} {k : L2.Key} : valV kvs k = none ↔ k ∉ kvs.map (·.1) := by
  induction kvs with
  | nil => simp [valV_nil]
  | cons e r ih =>
    obtain ⟨j, v⟩ := e
    by_cases h : k = j
    · subst h; simp [valV]
    · have h' : ¬ j = k := fun e => h e.symm
      simp only [List.map_cons, List.mem_cons, h, false_or]
      rw [← ih]
      simp [valV, h']
/-- the heap without a dict and the lists that it holds -/
def hidO (d : Addr) (kvs : List (L2.Key × V)) (H : Hp) : Hp := fun b => if b = d ∨ V.ref b ∈ kvs.map (·.2) then none else H b
theorem hidO_ne {d b : Addr} {kvs : List (L2.Key × V)} {H : Hp} (h1 : b ≠ d) (h2 : V.ref b ∉ kvs.map (·.2)) : hidO d kvs H b = H b := if_neg fun z => z.elim h1 h2
theorem hidO_some {d b : Addr} {kvs : List (L2.Key × V)} {H : Hp} {o : HO} (h : hidO d kvs H b = some o) : b ≠ d ∧ V.ref b ∉ kvs.map (·.2) ∧ H b = some o := by
  unfold hidO at h
  split at h
  · cases h
  · rename_i z
    exact ⟨fun e => z (.inl e), fun e => z (.inr e), h⟩
theorem hidO_sub {d : Addr} {kvs : List (L2.Key × V)} {H : Hp} : Same (hidO d kvs H) H := fun _ _ h => (hidO_some h).2.2
theorem hidO_same {d : Addr} {kvs : List (L2.Key × V)} {H H' : Hp} (s : Same H H') : Same (hidO d kvs H) (hidO d kvs H') := fun b o h => by
  obtain ⟨h1, h2, h3⟩ := hidO_some h
  rw [hidO_ne h1 h2]; exact s b o h3
theorem valV_mem {kvs : List (L2.Key × V)} {k : L2.Key} {v : V} (h : valV kvs k = some v) : v ∈ kvs.map (·.2) := by
  induction kvs with
  | nil => rw [valV_nil] at h; cases h
  | cons e r ih =>
    obtain ⟨j, w⟩ := e
    by_cases hk : j = k
    · subst hk
      have : w = v := by simpa [valV] using h
      exact this ▸ List.mem_cons_self
    · exact List.mem_cons_of_mem _ (ih (by simpa [valV, hk] using h))
structure Grp (K : PySem.W.Frag) (Hb H : Hp) (d : Addr) (es : List (L2.Key × PyData)) : Prop where
  ex : ∃ kvs : List (L2.Key × V), H d = some (.dK kvs) ∧ kvs.map (·.1) = keysOf es ∧ Hb d = none ∧
    (∀ (k : L2.Key) (v : V), valV kvs k = some v → ∃ l vs, v = .ref l ∧ Hb l = none ∧ l ≠ d ∧ H l = some (.lst vs) ∧ DqAll K (hidO d kvs H) vs (ofK es k)) ∧
    (∀ (j k : L2.Key) (l : Addr), valV kvs j = some (.ref l) → valV kvs k = some (.ref l) → j = k) ∧
    (∀ v ∈ kvs.map (·.2), ∃ k, valV kvs k = some v) ∧ Same Hb (hidO d kvs H)
theorem Grp.same {K : PySem.W.Frag} {Hb H : Hp} {d : Addr} {es : List (L2.Key × PyData)} (g : Grp K Hb H d es) : Same Hb H := by
  obtain ⟨_, _, _, _, _, _, _, s⟩ := g.ex
  exact s.trans hidO_sub
theorem Grp.up {K : PySem.W.Frag} {Hb H H' : Hp} {d : Addr} {es : List (L2.Key × PyData)} (g : Grp K Hb H d es) (s : Same H H') : Grp K Hb H' d es := by
  obtain ⟨kvs, h1, h2, h3, h4, h5, h6, h7⟩ := g.ex
  refine ⟨kvs, s _ _ h1, h2, h3, fun k v hv => ?_, h5, h6, h7.trans (hidO_same s)⟩
  obtain ⟨l, vs, q1, q2, q3, q4, q5⟩ := h4 k v hv
  exact ⟨l, vs, q1, q2, q3, s _ _ q4, q5.up (hidO_same s)⟩
theorem Grp.start {K : PySem.W.Frag} {Hb : Hp} {d : Addr} (n : Hb d = none) : Grp K Hb (upd Hb d (.dK [])) d [] :=
  ⟨[], upd_same, rfl, n, fun k v h => (by rw [valV_nil] at h; cases h), fun j k l h => (by rw [valV_nil] at h; cases h), fun v h => (List.not_mem_nil h).elim, fun b o h => by
    rw [hidO_ne (ne_of_none h n) List.not_mem_nil, upd_ne (ne_of_none h n)]; exact h⟩
/-- the data under a key, as they may be read -/
theorem Grp.get {K : PySem.W.Frag} {Hb H : Hp} {d : Addr} {es : List (L2.Key × PyData)} (g : Grp K Hb H d es) : ∃ kvs : List (L2.Key × V), H d = some (.dK kvs) ∧ kvs.map (·.1) = keysOf es ∧
    ∀ k : L2.Key, (valV kvs k = none ∧ ofK es k = []) ∨ ∃ l vs, valV kvs k = some (.ref l) ∧ Hb l = none ∧ H l = some (.lst vs) ∧ DqAll K H vs (ofK es k) := by
  obtain ⟨kvs, h1, h2, h3, h4, h5, h6, h7⟩ := g.ex
  refine ⟨kvs, h1, h2, fun k => ?_⟩
  cases e : valV kvs k with
  | none => exact .inl ⟨rfl, ofK_nil (by rw [← h2]; exact valV_keys.mp e)⟩
  | some v =>
    obtain ⟨l, vs, rfl, q2, q3, q4, q5⟩ := h4 k v e
    exact .inr ⟨l, vs, rfl, q2, q4, q5.up hidO_sub⟩
/-- an item's data: beside the dict and its lists -/
def GrpItem (K : PySem.W.Frag) (H : Hp) (d : Addr) (v : V) (x : PyData) : Prop := ∀ kvs, H d = some (.dK kvs) → Dq K (hidO d kvs H) v x
theorem GrpItem.int {K : PySem.W.Frag} {H : Hp} {d : Addr} (i : Int) : GrpItem K H d (.int i) (.int i) := fun _ _ => .int i
theorem GrpItem.old {K : PySem.W.Frag} {Hb H : Hp} {d : Addr} {es : List (L2.Key × PyData)} {v : V} {x : PyData} (g : Grp K Hb H d es) (h : Dq K Hb v x) : GrpItem K H d v x := fun kvs e => by
  obtain ⟨kvs', h1, _, _, _, _, _, h7⟩ := g.ex
  rw [e] at h1; cases h1
  exact h.up h7
section
variable {K : PySem.W.Frag} {Hb H : Hp} {d : Addr} {es : List (L2.Key × PyData)} {kvs : List (L2.Key × V)}
/-- one more behind a list that is there -/
theorem grp_more {k : L2.Key} {l : Addr} {vs : List V} {v : V} {x : PyData} (g : Grp K Hb H d es) (gd : H d = some (.dK kvs)) (hk : valV kvs k = some (.ref l)) (gl : H l = some (.lst vs)) (hx : GrpItem K H d v x) :
    Grp K Hb (upd H l (.lst (vs ++ [v]))) d (es ++ [(k, x)]) := by
  obtain ⟨kvs', h1, h2, h3, h4, h5, h6, h7⟩ := g.ex
  rw [gd] at h1; cases h1
  obtain ⟨l', vs', e1, nl, ld, gl', dl⟩ := h4 k _ hk
  cases e1
  rw [gl] at gl'; cases gl'
  have hin : V.ref l ∈ kvs.map (·.2) := valV_mem hk
  have hh : hidO d kvs (upd H l (.lst (vs ++ [v]))) = hidO d kvs H := by
    funext b
    unfold hidO
    by_cases z : b = d ∨ V.ref b ∈ kvs.map (·.2)
    · rw [if_pos z, if_pos z]
    · rw [if_neg z, if_neg z, upd_ne (fun e => z (.inr (by rw [e]; exact hin)))]
  refine ⟨kvs, by rw [upd_ne ld.symm]; exact gd, ?_, h3, fun j w hw => ?_, h5, h6, by rw [hh]; exact h7⟩
  · rw [keysOf_old]; exact h2
    rw [← h2]
    exact Classical.byContradiction fun n => by rw [valV_keys.mpr n] at hk; cases hk
  · obtain ⟨m, us, rfl, nm, md, gm, dm⟩ := h4 j w hw
    by_cases e : k = j
    · subst e
      rw [hk] at hw; cases hw
      rw [gl] at gm; cases gm
      refine ⟨l, vs ++ [v], rfl, nl, ld, upd_same, ?_⟩
      rw [hh, ofK_snoc, if_pos rfl]
      exact dm.snoc' (hx kvs gd)
    · have hne : m ≠ l := fun z => e (h5 k j l hk (by rw [← z]; exact hw))
      refine ⟨m, us, rfl, nm, md, by rw [upd_ne hne]; exact gm, ?_⟩
      rw [hh, ofK_snoc, if_neg e, List.append_nil]; exact dm
/-- a new list under a new key -/
theorem grp_new {k : L2.Key} {z : Addr} (g : Grp K Hb H d es) (gd : H d = some (.dK kvs)) (hk : valV kvs k = none) (nz : H z = none) : ∀ {G : Hp}, Same H G → G z = some (.lst []) → ∀ {v : V} {x : PyData},
    ∀ {G' : Hp}, Same (upd G d (.dK (putK kvs k (.ref z)))) G' → (∀ ks, G' d = some (.dK ks) → Dq K (hidO d ks G') v x) → Grp K Hb (upd G' z (.lst [v])) d (es ++ [(k, x)]) := by
  intro G sG gz v x G' s' hx
  obtain ⟨kvs', h1, h2, h3, h4, h5, h6, h7⟩ := g.ex
  rw [gd] at h1; cases h1
  have zd : z ≠ d := fun e => by rw [e, gd] at nz; cases nz
  have gd' : G' d = some (.dK (putK kvs k (.ref z))) := s' _ _ upd_same
  have hput : putK kvs k (.ref z) = kvs ++ [(k, .ref z)] := putK_new _ hk
  have zb : Hb z = none := g.same.free nz
  have hh : hidO d (putK kvs k (.ref z)) (upd G' z (.lst [v])) = hidO d (putK kvs k (.ref z)) G' := by
    funext b
    unfold hidO
    by_cases q : b = d ∨ V.ref b ∈ (putK kvs k (.ref z)).map (·.2)
    · rw [if_pos q, if_pos q]
    · rw [if_neg q, if_neg q, upd_ne (fun e => q (.inr (by rw [e, hput, List.map_append]; exact List.mem_append_right _ (by simp))))]
  have sH : Same (hidO d kvs H) (hidO d (putK kvs k (.ref z)) G') := fun b o h => by
    obtain ⟨q1, q2, q3⟩ := hidO_some h
    have bz : b ≠ z := ne_of_none q3 nz
    rw [hidO_ne q1 (by
      rw [hput, List.map_append, List.mem_append]
      rintro (q | q)
      · exact q2 q
      · have : V.ref b = V.ref z := by simpa using q
        exact bz (by cases this; rfl))]
    exact s' _ _ (by rw [upd_ne q1]; exact sG _ _ q3)
  have old : ∀ {m : Addr} {us : List V}, H m = some (.lst us) → (upd G' z (.lst [v])) m = some (.lst us) := fun {m us} h => by
    have mz : m ≠ z := ne_of_none h nz
    have md : m ≠ d := fun e => by rw [e, gd] at h; cases h
    rw [upd_ne mz]
    exact s' _ _ (by rw [upd_ne md]; exact sG _ _ h)
  refine ⟨putK kvs k (.ref z), by rw [upd_ne zd.symm]; exact gd', ?_, h3, fun j w hw => ?_, fun i j l e1 e2 => ?_, fun w hw => ?_, by rw [hh]; exact h7.trans sH⟩
  · rw [hput, List.map_append, h2, keysOf_new _ (by rw [← h2]; exact valV_keys.mp hk)]; rfl
  · rw [valV_put] at hw
    by_cases e : j = k
    · subst e
      rw [if_pos rfl] at hw; cases hw
      refine ⟨z, [v], rfl, zb, zd, upd_same, ?_⟩
      rw [hh, ofK_snoc, if_pos rfl, ofK_nil (by rw [← h2]; exact valV_keys.mp hk)]
      exact .cons (hx _ gd') .nil
    · rw [if_neg e] at hw
      obtain ⟨m, us, rfl, nm, md, gm, dm⟩ := h4 j w hw
      refine ⟨m, us, rfl, nm, md, old gm, ?_⟩
      rw [hh, ofK_snoc, if_neg (fun q => e q.symm), List.append_nil]
      exact dm.up sH
  · have no : ∀ t : L2.Key, valV kvs t = some (.ref z) → False := fun t q => by
      obtain ⟨m, us, q1, _, _, gm, _⟩ := h4 t _ q
      cases q1; rw [nz] at gm; cases gm
    rw [valV_put] at e1 e2
    by_cases a : i = k
    · rw [if_pos a] at e1; cases e1
      by_cases b : j = k
      · exact a.trans b.symm
      · rw [if_neg b] at e2; exact (no j e2).elim
    · rw [if_neg a] at e1
      by_cases b : j = k
      · rw [if_pos b] at e2; cases e2; exact (no i e1).elim
      · rw [if_neg b] at e2; exact h5 i j l e1 e2
  · rw [hput, List.map_append, List.mem_append] at hw
    rcases hw with hw | hw
    · obtain ⟨j, hj⟩ := h6 w hw
      refine ⟨j, ?_⟩
      rw [valV_put, if_neg (fun e => by subst e; rw [hk] at hj; cases hj)]; exact hj
    · have : w = .ref z := by simpa using hw
      subst this
      exact ⟨k, by rw [valV_put, if_pos rfl]⟩
end
end EL
namespace EL
open PySem PySem.Spec PyProof.Rows L2
/-- d.setdefault(k, []).append(v) -/
def tGrp (K : PySem.W.Frag) (td tk ti : TE) : TS := fun D σ H => td σ H fun x H1 => ∃ a Hb es, x = .ref a ∧ Grp K Hb H1 a es ∧ es.length < 100000 ∧ tk σ H1 fun y H2 => ∃ key : L2.Key, y = kV key ∧ Same H1 H2 ∧
  ∀ H3, Same Hb H3 → (∃ ks, H3 a = some (.dK ks)) → ti σ H3 fun v H4 => ∃ dd, Same H3 H4 ∧ GrpItem K H4 a v dd ∧ ∀ H5, Grp K Hb H5 a (es ++ [(key, dd)]) → D.nx σ H5
section
variable {X : Cx} {o e i : Expr} {td tk ti : TE} {apos cpos lp ap2 cp2 p : Pos}
theorem grp_bound {K : PySem.W.Frag} {Hb H : Hp} {d : Addr} {es : List (L2.Key × PyData)} (g : Grp K Hb H d es) {kvs : List (L2.Key × V)} (h : H d = some (.dK kvs)) : kvs.length ≤ es.length ∧ ∀ k l vs, valV kvs k = some (.ref l) → H l = some (.lst vs) → vs.length ≤ es.length := by
  obtain ⟨kvs', h1, h2, h3, h4, h5, h6, h7⟩ := g.ex
  rw [h] at h1; cases h1
  refine ⟨by rw [← List.length_map (f := fun e : L2.Key × V => e.1), h2]; exact keysOf_len es, fun k l vs hk hl => ?_⟩
  obtain ⟨m, us, e1, _, _, gm, dm⟩ := h4 k _ hk
  cases e1
  rw [hl] at gm; cases gm
  rw [dm.len]
  unfold ofK
  rw [List.length_map]
  exact List.length_filter_le _ _
theorem ps_grp (hd : PE X o td) (hk : PE X e tk) (hi : PE X i ti) (m : M2 X o "setdefault" apos e (.List [] lp) cpos)
    (hbase : attributeBase (.Call (.Attribute o "setdefault" apos) [e, .List [] lp] [] cpos) "append" X.env (eval (.Call (.Attribute o "setdefault" apos) [e, .List [] lp] [] cpos) X.env) = eval (.Call (.Attribute o "setdefault" apos) [e, .List [] lp] [] cpos) X.env := by rfl)
    (hfew : ((backTo cp2 (starEach [i] X.env)).all (fun x => !x.1) && (backToKw cp2 (keywordEach [] X.env)).all (fun x => x.1.isSome)
      && decide (([i] : List Expr).length + ([] : List Keyword).length + (if ([] : List Keyword).isEmpty then 0 else 1) < 30)) = true := by rfl)
    (hline : (ap2.endLine == cp2.line) = true := by rfl) (hs : starEach [i] X.env = (false, eval i X.env) :: starEach [] X.env := by rfl) :
    PS X (.Expr (.Call (.Attribute (.Call (.Attribute o "setdefault" apos) [e, .List [] lp] [] cpos) "append" ap2) [i] [] cp2) p) (tGrp X.K td tk ti) := by
  refine ⟨fun pins s σ H D I h => (ps_expr (pe_bm PySem.F.plainAttrs_list PySem.F.slot_list_append PySem.F.type_list_append mt_append (pe_dsetd (EL.PE.cl hd) (EL.PE.cl hk) (pe_lst pa_nil) m) (pa_cons (EL.PE.cl hi) pa_nil hs) hbase hfew hline hs rfl)).run pins s σ H D I ?_⟩
  refine ⟨_, h, ?_⟩
  rintro x H1 ⟨d, Hb, es, rfl, g1, hlen, hky⟩
  obtain ⟨kvs, gd1, _⟩ := g1.get
  refine ⟨d, rfl, .inl ⟨kvs, .inl gd1⟩, _, hky, ?_⟩
  rintro y H2 ⟨key, rfl, s2, hit⟩
  have g2 := g1.up s2
  have gd2 := s2 _ _ gd1
  obtain ⟨bk, bl⟩ := grp_bound g2 gd2
  refine ⟨Nat.zero_le _, fun z nz => ?_⟩
  have s3 : Same H2 (upd H2 z (.lst [])) := same_upd nz
  have gz : upd H2 z (.lst []) z = some (.lst []) := upd_same
  generalize upd H2 z (.lst []) = H3 at s3 gz ⊢
  have g3 := g2.up s3
  have gd3 := s3 _ _ gd2
  refine ⟨kvs, key, gd3, rfl, lt_sz (by omega), fun v hv => ?_, fun hv => ?_⟩
  · obtain ⟨kvs', q1, q2, q3⟩ := g3.get
    rw [gd3] at q1; cases q1
    rcases q3 key with ⟨q, _⟩ | ⟨l, vs, q, nl, gl, dl⟩
    · rw [hv] at q; cases q
    · rw [hv] at q; cases q
      have lvs : vs.length ≤ es.length := (grp_bound g3 gd3).2 key l vs hv gl
      refine ⟨.inl ⟨rfl, _, sqOf gl⟩, _, hit H3 g3.same ⟨_, gd3⟩, ?_⟩
      rintro w H4 ⟨dd, s4, hx, fin⟩
      exact ⟨l, vs, _, rfl, rfl, s4 _ _ gl, lt_sz (by omega), fin _ (grp_more (g3.up s4) (s4 _ _ gd3) hv (s4 _ _ gl) hx)⟩
  · have zd : z ≠ d := fun e => by rw [e, gd2] at nz; cases nz
    have gz' : upd H3 d (.dK (putK kvs key (.ref z))) z = some (.lst []) := by rw [upd_ne zd]; exact gz
    have sB : Same Hb (upd H3 d (.dK (putK kvs key (.ref z)))) := fun b o h => by
      obtain ⟨_, _, _, nd, _⟩ := g2.ex
      rw [upd_ne (ne_of_none h nd)]; exact g3.same b o h
    refine ⟨.inl ⟨rfl, _, sqOf gz'⟩, _, hit _ sB ⟨_, upd_same⟩, ?_⟩
    rintro w H4 ⟨dd, s4, hx, fin⟩
    exact ⟨z, [], _, rfl, rfl, s4 _ _ gz', lt_sz (by show 0 ≤ _; omega), fin _ (grp_new g2 gd2 hv nz s3 gz s4 hx)⟩
end
end EL
/-! dict comprehensions: read by a walk; stored in a name. -/
namespace EL
open PySem PySem.Spec PyProof.Rows L2
section
variable {J : It} {n : Nat} {G : Hp → Prop} {Y : Nat → Hp → V → Hp → Prop}
theorem dc_it (wk : Walk J n G Y) {g : TG} {tt : TT} {tk tv : TE} {vs : List Nat} {σ : L2.St} {H1 : Hp} {D : Addr} {Qd : Hp → Prop} (P : Nat → Hp → Prop) (p0 : P 0 (upd H1 D (.dK []))) (pG : ∀ i H, i ≤ n → P i H → G H)
    (turn : ∀ i x H H', i < n → P i H → Y i H x H' → g x (wipe σ vs) H' fun σ2 H2 => wipe σ2 vs = wipe σ vs ∧ tt σ2 H2 fun b H3 =>
      if b = true then tk σ2 H3 fun y H4 => tv σ2 H4 fun z H5 => ∃ kvs k, y = kV k ∧ H5 D = some (.dK kvs) ∧ kvs.length < sizeLine ∧ P (i + 1) (upd H5 D (.dK (putK kvs k z))) else P (i + 1) H3) (fin : ∀ H, P n H → Qd H) :
    ∃ W : Nat → Nat → Hp → Prop, (∃ m, W 0 m (upd H1 D (.dK []))) ∧ ∀ i m H, W i m H →
      (J.stop i H ∧ Qd H) ∨ (J.go i H ∧ ∃ Nx : Hp → Prop, (∀ H', Nx H' → ∃ m', m' < m ∧ W (i + 1) m' H') ∧ ∀ x H', J.yld i H x H' → g x (wipe σ vs) H' fun σ2 H2 => wipe σ2 vs = wipe σ vs ∧ tt σ2 H2 fun b H3 =>
        if b = true then tk σ2 H3 fun y H4 => tv σ2 H4 fun z H5 => ∃ kvs k, y = kV k ∧ H5 D = some (.dK kvs) ∧ kvs.length < sizeLine ∧ Nx (upd H5 D (.dK (putK kvs k z))) else Nx H3) := by
  refine ⟨fun i m H => m + i = n ∧ P i H, ⟨n, rfl, p0⟩, fun i m H => ?_⟩
  rintro ⟨e, p⟩
  rcases Nat.lt_or_ge i n with lt | ge
  · exact .inr ⟨wk.goes i H lt (pG i H (Nat.le_of_lt lt) p), P (i + 1), fun _ p' => ⟨m - 1, by omega, by omega, p'⟩, fun x _ y => turn i x H _ lt p (wk.yields i H x _ lt (pG i H (Nat.le_of_lt lt) p) y)⟩
  · obtain rfl : i = n := by omega
    exact .inl ⟨wk.stops H (pG i H (Nat.le_refl _) p), fin H p⟩
end
section
variable {X : Cx}
/-- y = {k: v for ..}: stored before the block is let go -/
theorem ps_setDc {i : Nat} {y : Str} {py spos : Pos} {kx vx tg iter : Expr} {ifs : List Expr} {scope : Scope} {own : List (Str × Nat)} {pos : Pos} {wi : TI} {g : TG} {tt : TT} {tk tv : TE} (hc : X.calm = true) (hN : X.N.Nodup) (hy : X.N[i]? = some y) (hyl : X.env.scope.names.lookup y = some .local)
    (hsw : swapsWith (.DictComp kx vx [⟨tg, iter, ifs, 0⟩] scope pos) (some (.Name y py)) spos.line X.env = pure true) (hi : PI X tg iter wi) (ok : BlkOk X.N X.env.scope scope own)
    (hg : ∀ (s : Shared) (H : Hp) (C : Addr) (cl : List (Str × Addr)) (fp : List Addr), PG (X.blk s H scope (compEnvC scope cl C X.env) fp) tg g) (ht : ∀ (s : Shared) (H : Hp) (C : Addr) (cl : List (Str × Addr)) (fp : List Addr), PTs (X.blk s H scope (compEnvC scope cl C X.env) fp) ifs tt)
    (hk : ∀ (s : Shared) (H : Hp) (C : Addr) (cl : List (Str × Addr)) (fp : List Addr), PE (X.blk s H scope (compEnvC scope cl C X.env) fp) kx tk) (he : ∀ (s : Shared) (H : Hp) (C : Addr) (cl : List (Str × Addr)) (fp : List Addr), PE (X.blk s H scope (compEnvC scope cl C X.env) fp) vx tv)
    (hs : ∀ x, foldedSetIterable iter X.env x = pure x := by intro _; rfl) :
    PS X (.Assign [.Name y py] (.DictComp kx vx [⟨tg, iter, ifs, 0⟩] scope pos) spos) (tAsg (tDc wi g tt tk tv (own.map (·.2))) (gName i)) := by
  refine ⟨fun pins s σ H D I q0 => ?_⟩
  have q : tDc wi g tt tk tv (own.map (·.2)) σ H (fun v H1 => gName i v σ H1 D.nx) := q0
  rw [exec_Assign_Name_used _ _ _ _ hsw]
  refine wpAny_bind (wpAny_standAt (wpAny_bind (wpAny_bind ?_)))
  refine wpAny_mono (dc_core (use := some (assign (.Name y py) X.env)) (Qf := fun _ s' => SP X pins D .next s') hc hN I hi ok hg ht hk he hs q fun L C s' m H' J1 q1 hn f => ?_) (fun _ s' hq => wpAny_pure (wpAny_pure hq)) fun _ _ z => z
  show wpAny _ _ (assign (.Name y py) X.env (.ref L)) _ _ _
  refine wpAny_assign_Name (store_ok2 (v := V.ref L) J1 hN hy (.inl hyl) rfl (fun s2 J2 hst => ?_) (.inr hyl))
  obtain ⟨a, sb, ha⟩ := hst
  obtain ⟨f0, f1, f2, f3, f4, f5⟩ := f
  have far : C ≠ a := ha.elim (fun z => z ▸ f1) fun z e => f4 y a z e.symm
  exact ⟨m, hn.sameBut sb far, fun h3 sb3 => ⟨_, _, J2.turned (t' := s2.toks) (fun b o hb e => (sb3.2 b hb).trans e) f0 f1 f3 f4 f5, q1⟩⟩
end
end EL
namespace EL
open PySem PySem.Spec PyProof.Rows L2
/-- an expression's dict, list, ..: from here on it is walked and nothing else -/
def tLockA (te : TE) : TE := fun σ H Q => te σ H fun x H1 => ∃ d u, x = .ref d ∧ H1 d = some u ∧ Mut (some u) ∧ ∀ od, Q x (upd H1 d (.frz od u))
theorem pe_lockA {X : Cx} {e : Expr} {te : TE} (h : PE X e te) : PE X e (tLockA te) := by
  refine ⟨fun pins s σ H Q I hw => thn (h.run pins s σ H _ I hw) fun v s1 z => ?_⟩
  obtain ⟨x, H1, I1, r, d, u, ex, hd, mu, q⟩ := z
  obtain ⟨od, I2⟩ := I1.lock hd mu
  exact ⟨x, _, I2, r, q od⟩
end EL
namespace EL
open PySem PySem.Spec PyProof.Rows L2
theorem swd_true {kx vx : Expr} {gs : List Comprehension} {scope : Scope} {pos py : Pos} {y : Str} {l : Nat} {env : Env} (hk : env.scope.kind = .function) (hy : env.scope.names.lookup y = some .local) (hl : (py.line == pos.line) = true)
    (ha : (scope.names.any fun (n, k) => n == y && (k == .local || k == .cell)) = false) : swapsWith (.DictComp kx vx gs scope pos) (some (.Name y py)) l env = pure true := by
  have q1 : env.kindOf y = some .local := hy
  have q2 : env.blockKind = .function := by
    unfold Env.blockKind
    rw [hk]; rfl
  unfold swapsWith
  simp only [q2, q1, ha, Expr.pos, hl]; rfl
end EL
/-! Numbers that lead to numbers: what is reached, by mathematics; a dict of lists of numbers. -/
namespace EL
open PySem PySem.Spec PyProof.Rows L2
abbrev Edges := List (Nat × Nat)
inductive GR (es : Edges) (ss : List Nat) : Nat → Prop
  | base {s : Nat} : s ∈ ss → GR es ss s
  | step {p q : Nat} : GR es ss p → (p, q) ∈ es → GR es ss q
def outs (es : Edges) (s : Nat) : List Nat := (es.filter fun e => decide (e.1 = s)).map (·.2)
theorem mem_outs {es : Edges} {s t : Nat} : t ∈ outs es s ↔ (s, t) ∈ es := by
  unfold outs
  simp only [List.mem_map, List.mem_filter, decide_eq_true_eq]
  constructor
  · rintro ⟨⟨a, b⟩, ⟨h, rfl⟩, rfl⟩; exact h
  · intro h; exact ⟨(s, t), ⟨h, rfl⟩, rfl⟩
theorem outs_len (es : Edges) (s : Nat) : (outs es s).length ≤ es.length := by
  unfold outs
  rw [List.length_map]
  exact List.length_filter_le _ _
theorem GR.mono {es fs : Edges} {ss : List Nat} {p : Nat} (w : ∀ e ∈ es, e ∈ fs) (h : GR es ss p) : GR fs ss p := by
  induction h with
  | base m => exact .base m
  | step _ e ih => exact .step ih (w _ e)
/-- going: what was met, and what of it waits -/
structure Goes (es : Edges) (ss : List Nat) (M W : List Nat) : Prop where
  nd : M.Nodup
  re : ∀ p ∈ M, GR es ss p
  st : ∀ s ∈ ss, s ∈ M
  su : ∀ p ∈ W, p ∈ M
  cl : ∀ p ∈ M, p ∉ W → ∀ q, (p, q) ∈ es → q ∈ M
theorem Goes.done {es : Edges} {ss M : List Nat} (g : Goes es ss M []) (p : Nat) : p ∈ M ↔ GR es ss p := by
  refine ⟨g.re p, fun h => ?_⟩
  induction h with
  | base m => exact g.st _ m
  | step _ e ih => exact g.cl _ ih (List.not_mem_nil) _ e
theorem gr_lt {es : Edges} {ss : List Nat} {n p : Nat} (hs : ∀ s ∈ ss, s < n) (he : ∀ e ∈ es, e.2 < n) (h : GR es ss p) : p < n := by
  cases h with
  | base m => exact hs _ m
  | step _ e => exact he _ e
theorem nodup_len : ∀ (n : Nat) (l : List Nat), l.Nodup → (∀ x ∈ l, x < n) → l.length ≤ n
  | 0, l, _, h => by
    cases l with
    | nil => exact Nat.le_refl _
    | cons a r => exact absurd (h a List.mem_cons_self) (Nat.not_lt_zero _)
  | n + 1, l, d, h => by
    by_cases m : n ∈ l
    · have e := List.length_erase_of_mem m
      have ih := nodup_len n (l.erase n) (d.erase n) fun x hx => by
        have h1 := h x (List.mem_of_mem_erase hx)
        have h2 : x ≠ n := fun e => by subst e; exact (List.Nodup.not_mem_erase d) hx
        omega
      have : 0 < l.length := List.length_pos_of_mem m
      omega
    · have ih := nodup_len n l d fun x hx => by
        have h1 := h x hx
        have h2 : x ≠ n := fun e => m (e ▸ hx)
        omega
      omega
/-- a dict of lists: what follows each number -/
structure Fol (K : PySem.W.Frag) (H : Hp) (d : Addr) (es : Edges) : Prop where
  ex : ∃ (kvs : List (L2.Key × V)) (ks : List Nat), H d = some (.dK kvs) ∧ kvs.map (·.1) = ks.map (fun n : Nat => (Sum.inl (n : Int) : L2.Key)) ∧ (∀ s, s ∈ ks ↔ outs es s ≠ []) ∧ ks.length ≤ es.length ∧
    ∀ s : Nat, (valV kvs (.inl (s : Int)) = none ∧ outs es s = []) ∨ ∃ l, valV kvs (.inl (s : Int)) = some (.ref l) ∧ H l = some (.lst ((outs es s).map fun n : Nat => V.int (n : Int)))
theorem Fol.up {K : PySem.W.Frag} {H H' : Hp} {d : Addr} {es : Edges} (f : Fol K H d es) (s : Same H H') : Fol K H' d es := by
  obtain ⟨kvs, ks, h1, h2, h3, h4, h5⟩ := f.ex
  exact ⟨kvs, ks, s _ _ h1, h2, h3, h4, fun t => (h5 t).imp id fun ⟨l, q1, q2⟩ => ⟨l, q1, s _ _ q2⟩⟩
abbrev edgeD (e : Nat × Nat) : L2.Key × PyData := (.inl (e.1 : Int), .int (e.2 : Int))
theorem ofK_edges (es : Edges) (s : Nat) : ofK (es.map edgeD) (.inl (s : Int)) = (outs es s).map fun n : Nat => PyData.int (n : Int) := by
  induction es with
  | nil => rfl
  | cons e r ih =>
    unfold ofK outs at ih ⊢
    by_cases h : e.1 = s
    · have hk : (edgeD e).1 = (Sum.inl (s : Int) : L2.Key) := by rw [h.symm]
      rw [List.map_cons, List.filter_cons, if_pos (by simpa using hk), List.filter_cons, if_pos (by simpa using h), List.map_cons, List.map_cons, List.map_cons, ih]
    · have hk : ¬ (edgeD e).1 = (Sum.inl (s : Int) : L2.Key) := fun q => h (by
        have := Sum.inl.inj q
        omega)
      rw [List.map_cons, List.filter_cons, if_neg (by simpa using hk), List.filter_cons, if_neg (by simpa using h), ih]
theorem dqAll_nums {K : PySem.W.Frag} {H : Hp} : ∀ {ns : List Nat} {vs : List V}, DqAll K H vs (ns.map fun n : Nat => PyData.int (n : Int)) → vs = ns.map fun n : Nat => V.int (n : Int)
  | [], _, h => by cases h; rfl
  | n :: r, _, h => by
    cases h with
    | cons h1 h2 => cases h1; rw [dqAll_nums h2]; rfl
theorem keys_nums : ∀ es : Edges, ∃ ks : List Nat, keysOf (es.map edgeD) = ks.map (fun n : Nat => (Sum.inl (n : Int) : L2.Key)) ∧ (∀ s, s ∈ ks ↔ outs es s ≠ []) ∧ ks.length ≤ es.length := by
  intro es
  have key : ∀ l : List L2.Key, (∀ k ∈ l, ∃ n : Nat, k = .inl (n : Int)) → ∃ ks : List Nat, l = ks.map (fun n : Nat => (Sum.inl (n : Int) : L2.Key)) := by
    intro l
    induction l with
    | nil => exact fun _ => ⟨[], rfl⟩
    | cons k r ih =>
      intro h
      obtain ⟨n, rfl⟩ := h k List.mem_cons_self
      obtain ⟨ks, e⟩ := ih fun j hj => h j (List.mem_cons_of_mem _ hj)
      exact ⟨n :: ks, by rw [e]; rfl⟩
  obtain ⟨ks, e⟩ := key (keysOf (es.map edgeD)) fun k hk => by
    obtain ⟨d, hd⟩ := mem_keysOf.mp hk
    obtain ⟨x, _, ex⟩ := List.mem_map.mp hd
    exact ⟨x.1, (congrArg Prod.fst ex).symm⟩
  refine ⟨ks, e, fun s => ?_, ?_⟩
  · have m1 : s ∈ ks ↔ (Sum.inl (s : Int) : L2.Key) ∈ keysOf (es.map edgeD) := by
      rw [e, List.mem_map]
      constructor
      · intro h; exact ⟨s, h, rfl⟩
      · rintro ⟨n, hn, q⟩
        have := Sum.inl.inj q
        have : n = s := by omega
        exact this ▸ hn
    rw [m1]
    constructor
    · intro h
      obtain ⟨d, hd⟩ := mem_keysOf.mp h
      obtain ⟨x, hx, ex⟩ := List.mem_map.mp hd
      have : x.1 = s := by
        have := Sum.inl.inj (congrArg Prod.fst ex)
        omega
      intro z
      have : x.2 ∈ outs es s := mem_outs.mpr (by rw [← this]; exact hx)
      rw [z] at this
      exact List.not_mem_nil this
    · intro h
      obtain ⟨t, ht⟩ := List.exists_mem_of_ne_nil _ h
      exact mem_keysOf.mpr ⟨_, List.mem_map.mpr ⟨(s, t), mem_outs.mp ht, rfl⟩⟩
  · have := keysOf_len (es.map edgeD)
    rw [e, List.length_map, List.length_map] at this
    exact this
theorem Grp.fol {K : PySem.W.Frag} {Hb H : Hp} {d : Addr} {es : Edges} (g : Grp K Hb H d (es.map edgeD)) : Fol K H d es := by
  obtain ⟨kvs, h1, h2, h3⟩ := g.get
  obtain ⟨ks, k1, k2, k3⟩ := keys_nums es
  refine ⟨kvs, ks, h1, h2.trans k1, k2, k3, fun s => ?_⟩
  rcases h3 (.inl (s : Int)) with ⟨q1, q2⟩ | ⟨l, vs, q1, _, q3, q4⟩
  · rw [ofK_edges] at q2
    exact .inl ⟨q1, List.map_eq_nil_iff.mp q2⟩
  · rw [ofK_edges] at q4
    rw [dqAll_nums q4] at q3
    exact .inr ⟨l, q1, q3⟩
/-- a dict of numbers, each with True -/
abbrev oneD (M : List Nat) : List (L2.Key × V) := M.map fun n : Nat => ((.inl (n : Int) : L2.Key), V.bl true)
theorem oneD_get {M : List Nat} {s : Nat} : valV (oneD M) (.inl (s : Int)) = if s ∈ M then some (.bl true) else none := by
  induction M with
  | nil => simp [valV_nil]
  | cons n r ih =>
    by_cases h : n = s
    · subst h; simp [valV]
    · have hk : ¬ (Sum.inl (n : Int) : L2.Key) = .inl (s : Int) := fun q => h (by have := Sum.inl.inj q; omega)
      have hs : ¬ s = n := fun e => h e.symm
      have h2 : valV (oneD (n :: r)) (.inl (s : Int)) = valV (oneD r) (.inl (s : Int)) := by
        simp only [List.map_cons, valV, List.find?_cons]
        rw [decide_eq_false hk]
      rw [h2, ih]
      simp [hs]
theorem oneD_put {M : List Nat} {s : Nat} (h : s ∉ M) : putK (oneD M) (.inl (s : Int)) (.bl true) = oneD (M ++ [s]) := by
  rw [putK_new _ (by rw [oneD_get, if_neg h])]
  show _ = List.map _ (M ++ [s])
  rw [List.map_append]; rfl
theorem oneD_put' {M : List Nat} {s : Nat} (h : s ∈ M) : putK (oneD M) (.inl (s : Int)) (.bl true) = oneD M := by
  unfold putK
  have ha : ((oneD M).any fun kv => decide (kv.1 = (Sum.inl (s : Int) : L2.Key))) = true := by
    rw [List.any_eq_true]
    exact ⟨(.inl (s : Int), .bl true), List.mem_map.mpr ⟨s, h, rfl⟩, decide_eq_true rfl⟩
  rw [if_pos ha, List.map_map]
  refine List.map_congr_left fun n _ => ?_
  show (if (Sum.inl (n : Int) : L2.Key) = .inl (s : Int) then _ else _) = _
  split <;> rfl
end EL
namespace KP
open PySem PySem.Spec PyProof.Rows L2 EL
open Evl (pss_cut)
abbrev sReached : Stmt := topS 6
theorem scReached : FnScope ["starts", "following", "met", "waiting", "place", "further"] ["starts", "following"] (defScope sReached) := ⟨rfl, rfl, rfl, by decide +kernel, rfl, by decide +kernel, by decide +kernel⟩
abbrev sTurnedAbout : Stmt := topS 7
theorem scTurnedAbout : FnScope ["following", "ahead", "place", "further"] ["following"] (defScope sTurnedAbout) := ⟨rfl, rfl, rfl, by decide +kernel, rfl, by decide +kernel, by decide +kernel⟩
abbrev sUsefulPlaces : Stmt := topS 8
theorem scUsefulPlaces : FnScope ["starts", "following", "ends", "leading", "place"] ["starts", "following", "ends"] (defScope sUsefulPlaces) := ⟨rfl, rfl, rfl, by decide +kernel, rfl, by decide +kernel, by decide +kernel⟩
abbrev sUseful : Stmt := topS 31
theorem scUseful : FnScope ["pacer", "following", "move"] ["pacer"] (defScope sUseful) := ⟨rfl, rfl, rfl, by decide +kernel, rfl, by decide +kernel, by decide +kernel⟩
def spReached (K : PySem.W.Frag) : Sp := fun vs H Q _ => ∃ (v : V) (d : Addr) (ss : List Nat) (es : Edges) (n : Nat), vs = [v, .ref d] ∧ Dq K H v (.tuple (nats ss)) ∧ Fol K H d es ∧ ss.length ≤ 1000 ∧ es.length ≤ 100000 ∧ n ≤ 1000 ∧ (∀ s ∈ ss, s < n) ∧ (∀ e ∈ es, e.2 < n) ∧
  ∀ m H' M, Same H H' → H m = none → H' m = some (.dK (oneD M)) → M.Nodup → (∀ p, p ∈ M ↔ GR es ss p) → Q (.ref m) H'
theorem oneD_keys (M : List Nat) : (oneD M).map (fun kv => kV kv.1) = M.map fun n : Nat => V.int (n : Int) := by
  rw [List.map_map]; rfl
/-- the numbers that follow one, some of them met by now -/
structure Inner (es : Edges) (ss M : List Nat) (q : Nat) (xs : List Nat) (N : List Nat) : Prop where
  nd : (M ++ N).Nodup
  re : ∀ p ∈ N, (q, p) ∈ es
  cl : ∀ p ∈ xs, p ∈ M ++ N
section
variable {P : Program} {w : World} {K : PySem.W.Frag} {mg : Str → Option Value} {base : Heap}
theorem ok_Reached {f : Addr} {fd : FuncData} {k : Nat} (F : Fun K "reached" "reached" sReached f fd) (nlist : mg "list" = none) : FnOk P w K mg base CX0 (k + 1) f fd ["starts", "following"] (spReached K) := by
  refine F.ok scReached (fun vs H Q E h => ?_) (fun cdv A outer s H vs Q E hr h => ?_)
  · obtain ⟨v, d, ss, es, n, rfl, _⟩ := h; rfl
  · obtain ⟨v, d, ss, es, n, rfl, hv, hF, hsl, hel, hn, hss, hes, kQ⟩ := h
    have hu := hr.units
    have hu1 : (A.deeper (envOfC "reached" (defScope sReached) s.heap.objs.size f cdv)).units + 1 < cLine := by omega
    refine ⟨_, (pss_cons (ps_setDc (i := 2) (own := [("place", 4)]) (g := (gName 4)) (by rfl) scReached.nd rfl rfl (swd_true rfl rfl rfl (by decide +kernel)) (pi_tup (pv 0)) (blkOk_by (own := [("place", 4)]) (N := ["starts", "following", "met", "waiting", "place", "further"]) (sc := defScope sReached) (by decide +kernel)) (fun _ _ _ _ _ => (pg_name (i := 4) scReached.nd rfl (by first | exact Or.inl rfl | exact Or.inr rfl))) (fun _ _ _ _ _ => pts_nil) (fun _ _ _ _ _ => (pv 4)) (fun _ _ _ _ _ => pe_bl))
      (pss_cons (ps_set (i := 3) scReached.nd rfl (by first | exact Or.inl rfl | exact Or.inr rfl) (pe_callTy (call_listD rfl) (by rfl) nlist (by decide +kernel) (pa_cons (pv 2) pa_nil)))
      (pss_cons (ps_while PassesOwn.never (pt_truth (pv 3) (by intro _; rfl)) (pss_cons (ps_set (i := 4) scReached.nd rfl (by first | exact Or.inl rfl | exact Or.inr rfl) (pe_bm0 PySem.F.plainAttrs_list PySem.F.slot_list_pop PySem.F.type_list_pop mt_pop (pv 3)))
      (pss_one (ps_for PassesOwn.never rfl (pi_list (pe_dget2 hu1 (pv 1) (pv 4) (pe_lst pa_nil) ⟨by rfl, by rfl, by rfl, by rfl⟩)) (pg_name (i := 5) scReached.nd rfl (by first | exact Or.inl rfl | exact Or.inr rfl)) (pss_one (ps_if (pt_cmp (pc_dnotin hu1 (pv 5) (pv 2))) (pss_cons (ps_dput hu1 (pv 2) (pv 5) pe_bl rfl)
      (pss_one (ps_expr (pe_bm PySem.F.plainAttrs_list PySem.F.slot_list_append PySem.F.type_list_append mt_append (pv 3) (pa_cons (pv 5) pa_nil))))) pss_nil))))))
      (pss_one (ps_ret (pv 2)))))), ?_⟩

    obtain ⟨a, xs, rfl, hxs, hxa⟩ : ∃ a xs, v = .ref a ∧ SqT K H a xs ∧ DqAll K H xs (nats ss) := by
      cases hv with | tup hs ha => exact ⟨_, _, rfl, hs, ha⟩
    obtain rfl := dqAll_nums hxa
    refine ⟨_, rfl, a, rfl, ⟨_, hxs⟩, fun m nm => ?_⟩
    refine dc_it walk_tup (fun i H' => ∃ M, H' m = some (.dK (oneD M)) ∧ M.Nodup ∧ (∀ p, p ∈ M ↔ p ∈ ss.take i) ∧ Same H H') ⟨[], upd_same, List.nodup_nil, fun p => by simp, same_upd nm⟩ (fun i H' _ z => by obtain ⟨_, _, _, _, sm⟩ := z; exact ex_t' sm hxs) ?_ ?_
    · rintro i v H9 H1 hi ⟨M, gm, nd, hM, sm⟩ ⟨rfl, hv⟩
      obtain ⟨s0, hs0, rfl⟩ : ∃ s0, ss[i]? = some s0 ∧ v = .int (s0 : Int) := by
        rw [List.getElem?_map] at hv
        cases e : ss[i]? with
        | none => rw [e] at hv; cases hv
        | some b => rw [e] at hv; exact ⟨b, rfl, (Option.some.inj hv).symm⟩
      refine ⟨rfl, ?_⟩
      dsimp only [tYes]
      have bM : M.length ≤ n := nodup_len n M nd fun p hp => hss p (List.mem_of_mem_take ((hM p).mp hp))
      refine iteT ⟨_, rfl, oneD M, .inl (s0 : Int), rfl, gm, lt_sz (by rw [List.length_map]; omega), ?_⟩
      have sU : ∀ o, Same H (upd H1 m o) := fun o b x e => by rw [upd_ne (ne_of_none e nm)]; exact sm b x e
      by_cases hin : s0 ∈ M
      · rw [oneD_put' hin]
        refine ⟨M, upd_same, nd, fun p => ?_, sU _⟩
        rw [take_snoc hs0, List.mem_append, hM p]
        constructor
        · exact .inl
        · rintro (h | h)
          · exact h
          · rw [List.mem_singleton.mp h]; exact (hM s0).mp hin
      · rw [oneD_put hin]
        refine ⟨M ++ [s0], upd_same, ?_, fun p => ?_, sU _⟩
        · rw [List.nodup_append]
          exact ⟨nd, by simp, fun x hx y hy e => hin (by rw [List.mem_singleton.mp hy] at e; exact e ▸ hx)⟩
        · rw [take_snoc hs0, List.mem_append, List.mem_append, hM p]
    rintro H1 ⟨M0, gm, nd0, hM0, s1⟩
    rw [List.length_map, List.take_length] at hM0
    obtain ⟨kvs, ks, gd, hks, hk1, hk2, hget⟩ := (hF.up s1).ex
    have dm : d ≠ m := by
      obtain ⟨_, _, g, _⟩ := hF.ex
      exact ne_of_none g nm
    refine ⟨_, rfl, m, oneD M0, rfl, .inl gm, fun L nL => ?_⟩
    rw [oneD_keys]
    have s2 := same_upd (o := .lst (M0.map fun n : Nat => V.int (n : Int))) nL
    have gL : upd H1 L (.lst (M0.map fun n : Nat => V.int (n : Int))) L = some (.lst (M0.map fun n : Nat => V.int (n : Int))) := upd_same
    generalize upd H1 L (.lst (M0.map fun n : Nat => V.int (n : Int))) = H2 at s2 gL ⊢
    have gm2 := s2 _ _ gm
    have Lm : L ≠ m := fun e => by rw [e, gm] at nL; cases nL
    have g0 : Goes es ss M0 M0 := ⟨nd0, fun p hp => .base ((hM0 p).mp hp), fun p hp => (hM0 p).mpr hp, fun p hp => hp, fun p hp np => absurd hp np⟩
    have bnd : ∀ {M W : List Nat}, Goes es ss M W → M.length ≤ n := fun g => nodup_len n _ g.nd fun p hp => gr_lt hss hes (g.re p hp)
    have nLH : H L = none := s1.free nL
    have stay : ∀ {G : Hp}, (∀ b o, b ≠ L → b ≠ m → H2 b = some o → G b = some o) → Same H G := fun {G} h b o e => h b o (ne_of_none e nLH) (ne_of_none e nm) (s2 _ _ (s1 _ _ e))
    have fol : ∀ {G : Hp}, (∀ b o, b ≠ L → b ≠ m → H2 b = some o → G b = some o) → G d = some (.dK kvs) ∧ ∀ s : Nat, (valV kvs (.inl (s : Int)) = none ∧ outs es s = []) ∨ ∃ l, valV kvs (.inl (s : Int)) = some (.ref l) ∧ l ≠ L ∧ l ≠ m ∧ G l = some (.lst ((outs es s).map fun n : Nat => V.int (n : Int))) := fun {G} h => by
      have dL : d ≠ L := ne_of_none gd nL
      refine ⟨h _ _ dL dm (s2 _ _ gd), fun s => (hget s).imp id fun ⟨l, q1, q2⟩ => ?_⟩
      have lL : l ≠ L := ne_of_none q2 nL
      have lm : l ≠ m := fun e => by rw [e, gm] at q2; cases q2
      exact ⟨l, q1, lL, lm, h _ _ lL lm (s2 _ _ q2)⟩
    refine ⟨fun t σ H' => ∃ (M W : List Nat) (y4 y5 : Option V), σ = [some (.ref a), some (.ref d), some (.ref m), some (.ref L), y4, y5] ∧ H' m = some (.dK (oneD M)) ∧ H' L = some (.lst (W.map fun n : Nat => V.int (n : Int))) ∧ Goes es ss M W ∧ W.length ≤ M.length ∧ (∀ b o, b ≠ L → b ≠ m → H2 b = some o → H' b = some o) ∧ t = (n - M.length) * 2 + W.length, ⟨_, M0, M0, _, _, rfl, gm2, gL, g0, Nat.le_refl _, fun b o _ _ h => h, rfl⟩, ?_⟩
    rintro t σ H3 ⟨M, W, y4, y5, rfl, gm3, gL3, g3, hWM, keep, ht⟩
    have bM := bnd g3
    refine ⟨.ref L, rfl, !(W.map fun n : Nat => V.int (n : Int)).isEmpty, .inl ⟨_, sqOf gL3, rfl⟩, ?_⟩
    rcases List.eq_nil_or_concat W with rfl | ⟨W', q, rfl⟩
    · exact ⟨_, rfl, kQ m H3 M (stay keep) nm gm3 g3.nd g3.done⟩
    rw [List.concat_eq_append] at *
    have hve : (!((W' ++ [q]).map fun n : Nat => V.int (n : Int)).isEmpty) = true := by simp
    rw [hve]
    have hqM : q ∈ M := g3.su q (by simp)
    refine ⟨fun σ' H' => ∃ t' < t, ∃ (M W : List Nat) (y4 y5 : Option V), σ' = [some (.ref a), some (.ref d), some (.ref m), some (.ref L), y4, y5] ∧ H' m = some (.dK (oneD M)) ∧ H' L = some (.lst (W.map fun n : Nat => V.int (n : Int))) ∧ Goes es ss M W ∧ W.length ≤ M.length ∧ (∀ b o, b ≠ L → b ≠ m → H2 b = some o → H' b = some o) ∧ t' = (n - M.length) * 2 + W.length, fun σ' H' hN => by obtain ⟨t', h1, h2⟩ := hN; exact ⟨t', h1, h2⟩, ?_⟩
    refine ⟨.ref L, rfl, .inl ⟨rfl, _, sqOf gL3⟩, L, _, .int (q : Int), rfl, rfl, gL3, by simp, ?_⟩
    have eD : ((W' ++ [q]).map fun n : Nat => V.int (n : Int)).dropLast = W'.map fun n : Nat => V.int (n : Int) := by simp
    rw [eD]
    have gL4 : upd H3 L (.lst (W'.map fun n : Nat => V.int (n : Int))) L = some (.lst (W'.map fun n : Nat => V.int (n : Int))) := upd_same
    have gm4 : upd H3 L (.lst (W'.map fun n : Nat => V.int (n : Int))) m = some (.dK (oneD M)) := by rw [upd_ne Lm.symm]; exact gm3
    have keep4 : ∀ b o, b ≠ L → b ≠ m → H2 b = some o → upd H3 L (.lst (W'.map fun n : Nat => V.int (n : Int))) b = some o := fun b o h1 h2 e => by rw [upd_ne h1]; exact keep b o h1 h2 e
    generalize upd H3 L (.lst (W'.map fun n : Nat => V.int (n : Int))) = H4 at gL4 gm4 keep4 ⊢
    obtain ⟨gd4, hg4⟩ := fol keep4
    refine ⟨_, rfl, d, rfl, .inl ⟨kvs, .inl gd4⟩, _, rfl, Nat.zero_le _, fun z nz => ?_⟩
    have s5 := same_upd (o := .lst []) nz
    have gz : upd H4 z (.lst []) z = some (.lst []) := upd_same
    generalize upd H4 z (.lst []) = H5 at s5 gz ⊢
    have keep5 : ∀ b o, b ≠ L → b ≠ m → H2 b = some o → H5 b = some o := fun b o h1 h2 e => s5 _ _ (keep4 b o h1 h2 e)
    refine ⟨valV kvs (.inl (q : Int)), DGet.k (k := .inl (q : Int)) (s5 _ _ gd4), ?_⟩
    obtain ⟨l, el, lL, lm, gl⟩ : ∃ l, (valV kvs (.inl (q : Int))).getD (.ref z) = .ref l ∧ l ≠ L ∧ l ≠ m ∧ H5 l = some (.lst ((outs es q).map fun n : Nat => V.int (n : Int))) := by
      rcases hg4 q with ⟨q1, q2⟩ | ⟨l, q1, q2, q3, q4⟩
      · rw [q1, q2]
        exact ⟨z, rfl, (ne_of_none gL4 nz).symm, (ne_of_none gm4 nz).symm, gz⟩
      · rw [q1]
        exact ⟨l, rfl, q2, q3, s5 _ _ q4⟩
    rw [el]
    refine ⟨l, rfl, ⟨_, sqOf gl⟩, ?_⟩
    refine for_it walk_list (fun j σ H' => ∃ (N : List Nat) (y5 : Option V), σ = [some (.ref a), some (.ref d), some (.ref m), some (.ref L), some (.int (q : Int)), y5] ∧ H' m = some (.dK (oneD (M ++ N))) ∧ H' L = some (.lst ((W' ++ N).map fun n : Nat => V.int (n : Int))) ∧ Inner es ss M q ((outs es q).take j) N ∧ (∀ b o, b ≠ L → b ≠ m → H2 b = some o → H' b = some o) ∧ H' l = some (.lst ((outs es q).map fun n : Nat => V.int (n : Int))))
      ⟨[], y5, rfl, by rw [List.append_nil]; exact s5 _ _ gm4, by rw [List.append_nil]; exact s5 _ _ gL4, ⟨by rw [List.append_nil]; exact g3.nd, fun p h => (List.not_mem_nil h).elim, fun p h => by rw [List.take_zero] at h; exact (List.not_mem_nil h).elim⟩, keep5, gl⟩ (fun j σ H' _ z => by obtain ⟨_, _, _, _, _, _, _, h⟩ := z; exact sqOf h) ?_ ?_
    · rintro j v σ H9 H6 hj ⟨N, y5, rfl, gm6, gL6, hI, keep6, gl6⟩ ⟨rfl, hv⟩
      obtain ⟨p, hp, rfl⟩ : ∃ p, (outs es q)[j]? = some p ∧ v = .int (p : Int) := by
        rw [List.getElem?_map] at hv
        cases e : (outs es q)[j]? with
        | none => rw [e] at hv; cases hv
        | some b => rw [e] at hv; exact ⟨b, rfl, (Option.some.inj hv).symm⟩
      have hpe : (q, p) ∈ es := mem_outs.mp (List.mem_of_getElem? hp)
      have tk := take_snoc hp
      have bN : (M ++ N).length ≤ n := nodup_len n _ hI.nd fun r hr => by
        rcases List.mem_append.mp hr with hr | hr
        · exact gr_lt hss hes (g3.re r hr)
        · exact hes _ (hI.re r hr)
      rw [List.length_append] at bN
      refine ⟨_, rfl, .ref m, rfl, m, _, rfl, DGet.k (k := .inl (p : Int)) gm6, _, rfl, ?_⟩
      rw [oneD_get]
      by_cases hin : p ∈ M ++ N
      · rw [if_pos hin]
        refine iteF ⟨N, _, rfl, gm6, gL6, ⟨hI.nd, hI.re, fun r hr => ?_⟩, keep6, gl6⟩
        rw [tk] at hr
        rcases List.mem_append.mp hr with hr | hr
        · exact hI.cl r hr
        · rw [List.mem_singleton.mp hr]; exact hin
      · rw [if_neg hin]
        refine iteT ⟨.ref m, rfl, _, rfl, m, _, rfl, DPut.k (k := .inl (p : Int)) gm6 (lt_sz (by rw [List.length_map, List.length_append]; omega)), ?_⟩
        rw [oneD_put hin]
        have gL7 : upd H6 m (.dK (oneD (M ++ N ++ [p]))) L = some (.lst ((W' ++ N).map fun n : Nat => V.int (n : Int))) := by rw [upd_ne Lm]; exact gL6
        refine ⟨.ref L, rfl, .inl ⟨rfl, _, sqOf gL7⟩, _, rfl, L, _, _, rfl, rfl, gL7, lt_sz (by rw [List.length_map, List.length_append]; rw [List.length_append] at hWM; simp only [List.length_singleton] at hWM; omega), ?_⟩
        refine ⟨N ++ [p], _, rfl, by rw [upd_ne Lm.symm, upd_same, List.append_assoc], by rw [upd_same, ← List.append_assoc, List.map_append (l₁ := W' ++ N)]; rfl, ⟨?_, fun r hr => ?_, fun r hr => ?_⟩, fun b o h1 h2 e => by rw [upd_ne h1, upd_ne h2]; exact keep6 b o h1 h2 e, by rw [upd_ne lL, upd_ne lm]; exact gl6⟩
        · rw [← List.append_assoc, List.nodup_append]
          exact ⟨hI.nd, by simp, fun x hx y hy e => hin (by rw [List.mem_singleton.mp hy] at e; exact e ▸ hx)⟩
        · rcases List.mem_append.mp hr with hr | hr
          · exact hI.re r hr
          · rw [List.mem_singleton.mp hr]; exact hpe
        · rw [← List.append_assoc]
          rw [tk] at hr
          rcases List.mem_append.mp hr with hr | hr
          · exact List.mem_append_left _ (hI.cl r hr)
          · exact List.mem_append_right _ hr
    · rintro σ H6 ⟨N, y5, rfl, gm6, gL6, hI, keep6, gl6⟩
      rw [List.length_map, List.take_length] at hI
      have lN : (M ++ N).length = M.length + N.length := List.length_append
      have bN : (M ++ N).length ≤ n := nodup_len n _ hI.nd fun r hr => by
        rcases List.mem_append.mp hr with hr | hr
        · exact gr_lt hss hes (g3.re r hr)
        · exact hes _ (hI.re r hr)
      rw [List.length_append] at hWM
      simp only [List.length_singleton] at hWM
      refine ⟨(n - (M ++ N).length) * 2 + (W' ++ N).length, ?_, M ++ N, W' ++ N, _, _, rfl, gm6, gL6, ⟨hI.nd, fun p hp => ?_, fun s0 hs0 => List.mem_append_left _ (g3.st s0 hs0), fun p hp => ?_, fun p hp np r hr => ?_⟩, by rw [lN, List.length_append]; omega, keep6, rfl⟩
      · rw [ht, lN, List.length_append, List.length_append]
        simp only [List.length_singleton]
        omega
      · rcases List.mem_append.mp hp with hp | hp
        · exact g3.re p hp
        · exact .step (g3.re q hqM) (hI.re p hp)
      · rcases List.mem_append.mp hp with hp | hp
        · exact List.mem_append_left _ (g3.su p (List.mem_append_left _ hp))
        · exact List.mem_append_right _ hp
      · rcases List.mem_append.mp hp with hp | hp
        · by_cases hpq : p = q
          · rw [hpq] at hr
            exact hI.cl r (mem_outs.mpr hr)
          · have : p ∉ W' ++ [q] := fun z => by
              rcases List.mem_append.mp z with z | z
              · exact np (List.mem_append_left _ z)
              · exact hpq (List.mem_singleton.mp z)
            exact List.mem_append_left _ (g3.cl p hp this r hr)
        · exact absurd (List.mem_append_right _ hp) np
end
end KP
namespace KP
open PySem PySem.Spec PyProof.Rows L2 EL
open Evl (pss_cut)
theorem perm_nats {a b : List Nat} (h : (a.map fun n : Nat => (n : Int)).Perm (b.map fun n : Nat => (n : Int))) : a.Perm b := by
  have := h.map Int.toNat
  rw [List.map_map, List.map_map] at this
  have e : (Int.toNat ∘ fun n : Nat => (n : Int)) = id := by funext n; simp
  rwa [e, List.map_id, List.map_id] at this
/-- turned about -/
def flipE (es : Edges) : Edges := es.map fun e => (e.2, e.1)
def spTurnedAbout (K : PySem.W.Frag) : Sp := fun vs H Q _ => ∃ (d : Addr) (es : Edges), vs = [.ref d] ∧ Fol K H d es ∧ H d ≠ none ∧ es.length ≤ 300 ∧
  ∀ a H' fs, Same H H' → H a = none → Fol K H' a fs → (∀ s t, (s, t) ∈ fs ↔ (t, s) ∈ es) → fs.length ≤ 90000 → Q (.ref a) H'
/-- where another object is put back -/
theorem fol_off {K : PySem.W.Frag} {H : Hp} {a d : Addr} {es : Edges} {o : Obj} {u x : HO} (f : Fol K H a es) (h : H d = some (.frz o u)) : Fol K (upd H d x) a es := by
  obtain ⟨kvs, ks, h1, h2, h3, h4, h5⟩ := f.ex
  refine ⟨kvs, ks, by rw [upd_ne (fun e => by rw [e, h] at h1; cases h1)]; exact h1, h2, h3, h4, fun s => (h5 s).imp id fun ⟨l, q1, q2⟩ => ⟨l, q1, by rw [upd_ne (fun e => by rw [e, h] at q2; cases q2)]; exact q2⟩⟩
theorem fol_isd {K : PySem.W.Frag} {H : Hp} {d : Addr} {es : Edges} (f : Fol K H d es) : ∃ kvs, H d = some (.dK kvs) := by
  obtain ⟨kvs, _, h, _⟩ := f.ex
  exact ⟨kvs, h⟩
section
variable {P : Program} {w : World} {K : PySem.W.Frag} {mg : Str → Option Value} {base : Heap}
theorem ok_TurnedAbout {f : Addr} {fd : FuncData} {k : Nat} (F : Fun K "turned_about" "turned_about" sTurnedAbout f fd) : FnOk P w K mg base CX0 (k + 1) f fd ["following"] (spTurnedAbout K) := by
  refine F.ok scTurnedAbout (fun vs H Q E h => ?_) (fun cdv A outer s H vs Q E hr h => ?_)
  · obtain ⟨d, es, rfl, _⟩ := h; rfl
  · obtain ⟨d, es, rfl, hF, _, hel, kQ⟩ := h
    have hu := hr.units
    have hu1 : (A.deeper (envOfC "turned_about" (defScope sTurnedAbout) s.heap.objs.size f cdv)).units + 1 < cLine := by omega
    refine ⟨_, (pss_cons (ps_set (i := 1) scTurnedAbout.nd rfl (by first | exact Or.inl rfl | exact Or.inr rfl) pe_dnewK)
      (pss_cons (ps_lock (ps_for PassesOwn.never rfl (pi_keys (pv 0)) (pg_name (i := 2) scTurnedAbout.nd rfl (by first | exact Or.inl rfl | exact Or.inr rfl)) (pss_one (ps_for PassesOwn.never rfl (pi_list (pe_dget hu1 (pv 0) (pv 2) (fun _ _ => rfl))) (pg_name (i := 3) scTurnedAbout.nd rfl (by first | exact Or.inl rfl | exact Or.inr rfl)) (pss_one (ps_grp (pv 1) (pv 3) (pv 2) ⟨by rfl, by rfl, by rfl, by rfl⟩))))))
      (pss_one (ps_ret (pv 1))))), ?_⟩

    refine fun a na => ?_
    have s1 := same_upd (o := .dK []) na
    have G0 : Grp K H (upd H a (.dK [])) a [] := Grp.start na
    generalize h1e : upd H a (.dK []) = H1 at s1 G0 ⊢
    replace h1e := h1e.symm
    obtain ⟨kvs, ks, gd, hks, hk1, hk2, hget⟩ := hF.ex
    have da : d ≠ a := ne_of_none gd na
    refine ⟨d, .dK kvs, s1 _ _ gd, trivial, fun od => ?_⟩
    have lk : kvs.length = ks.length := by rw [← List.length_map (f := fun e : L2.Key × V => e.1), hks, List.length_map]
    -- the entries so far
    have entL : ∀ l : List Nat, (∀ s ∈ l, s ∈ ks) → (l.flatMap fun s => (outs es s).map fun t => ((t, s) : Nat × Nat)).length ≤ l.length * es.length := by
      intro l
      induction l with
      | nil => intro _; simp
      | cons s r ih =>
        intro h
        have := ih fun x hx => h x (List.mem_cons_of_mem _ hx)
        have h2 := outs_len es s
        rw [List.flatMap_cons, List.length_append, List.length_map, List.length_cons, Nat.add_mul]
        omega
    have hb : ks.length * es.length ≤ 90000 := by
      have : ks.length * es.length ≤ 300 * 300 := Nat.mul_le_mul (by omega) hel
      omega
    have e2 : upd H1 d (.frz od (.dK kvs)) = upd (upd H d (.frz od (.dK kvs))) a (.dK []) := by
      rw [h1e]
      funext b
      by_cases ea : b = a
      · subst ea; rw [upd_ne da.symm, upd_same, upd_same]
      · rw [upd_ne ea]
        by_cases ed : b = d
        · subst ed; rw [upd_same, upd_same]
        · rw [upd_ne ed, upd_ne ed, upd_ne ea]
    rw [e2]
    have nb : upd H d (.frz od (.dK kvs)) a = none := by rw [upd_ne da.symm]; exact na
    have sb : ∀ b o, b ≠ d → H b = some o → upd H d (.frz od (.dK kvs)) b = some o := fun b o h e => by rw [upd_ne h]; exact e
    have gb : upd H d (.frz od (.dK kvs)) d = some (.frz od (.dK kvs)) := upd_same
    have hgetb : ∀ s : Nat, (valV kvs (.inl (s : Int)) = none ∧ outs es s = []) ∨ ∃ l, valV kvs (.inl (s : Int)) = some (.ref l) ∧ upd H d (.frz od (.dK kvs)) l = some (.lst ((outs es s).map fun n : Nat => V.int (n : Int))) := fun s => (hget s).imp id fun ⟨l, q1, q2⟩ => ⟨l, q1, sb _ _ (fun e => by rw [e, gd] at q2; cases q2) q2⟩
    have back : ∀ {G : Hp}, Same (upd H d (.frz od (.dK kvs))) G → Same H (upd G d (.dK kvs)) := fun {G} sm b o e => by
      by_cases ed : b = d
      · subst ed; rw [gd] at e; cases e; exact upd_same
      · rw [upd_ne ed]; exact sm _ _ (sb b o ed e)
    generalize upd H d (.frz od (.dK kvs)) = Hb at nb gb hgetb back ⊢
    have G1 : Grp K Hb (upd Hb a (.dK [])) a [] := Grp.start nb
    have gb1 : upd Hb a (.dK []) d = some (.frz od (.dK kvs)) := by rw [upd_ne da]; exact gb
    generalize upd Hb a (.dK []) = H2 at G1 gb1 ⊢
    refine ⟨_, rfl, d, od, rfl, .inl ⟨kvs, gb1, ?_⟩⟩
    refine for_it walk_keys (fun i σ H' => ∃ (y2 y3 : Option V), σ = [some (.ref d), some (.ref a), y2, y3] ∧ Grp K Hb H' a (((ks.take i).flatMap fun s => (outs es s).map fun t => ((t, s) : Nat × Nat)).map edgeD))
      ⟨_, _, rfl, G1⟩ (fun i σ H' _ z => by obtain ⟨_, _, _, g⟩ := z; exact g.same _ _ gb) ?_ ?_
    · rintro i v σ H9 H3 hi ⟨y2, y3, rfl, g⟩ ⟨rfl, k0, v0, hkv, rfl⟩
      obtain ⟨s, hs, rfl⟩ : ∃ s, ks[i]? = some s ∧ k0 = .inl (s : Int) := by
        have : (kvs.map (·.1))[i]? = some k0 := by rw [List.getElem?_map, hkv]; rfl
        rw [hks, List.getElem?_map] at this
        cases e : ks[i]? with
        | none => rw [e] at this; cases this
        | some s => rw [e] at this; exact ⟨s, rfl, (Option.some.inj this).symm⟩
      have hsk := List.mem_of_getElem? hs
      obtain ⟨l, hl, gl⟩ : ∃ l, valV kvs (.inl (s : Int)) = some (.ref l) ∧ Hb l = some (.lst ((outs es s).map fun n : Nat => V.int (n : Int))) := by
        rcases hgetb s with ⟨_, q⟩ | q
        · exact absurd q ((hk1 s).mp hsk)
        · exact q
      have hti : (ks.take i).length ≤ i := by rw [List.length_take]; omega
      refine ⟨_, rfl, _, rfl, d, _, rfl, .inl ⟨kvs, .inl (s : Int), .inr ⟨od, g.same _ _ gb⟩, rfl, hl.symm⟩, ?_⟩
      refine ⟨l, rfl, ⟨_, sqOf (g.same _ _ gl)⟩, ?_⟩
      refine for_it walk_list (fun j σ H' => ∃ (y3 : Option V), σ = [some (.ref d), some (.ref a), some (.int (s : Int)), y3] ∧ Grp K Hb H' a ((((ks.take i).flatMap fun s => (outs es s).map fun t => ((t, s) : Nat × Nat)) ++ ((outs es s).take j).map fun t => ((t, s) : Nat × Nat)).map edgeD))
        ⟨_, rfl, by rw [List.take_zero, List.map_nil, List.append_nil]; exact g⟩ (fun j σ H' _ z => by obtain ⟨_, _, g⟩ := z; exact sqOf (g.same _ _ gl)) ?_ ?_
      · rintro j v σ H9 H4 hj ⟨y3, rfl, g4⟩ ⟨rfl, hv⟩
        obtain ⟨t, ht, rfl⟩ : ∃ p, (outs es s)[j]? = some p ∧ v = .int (p : Int) := by
          rw [List.getElem?_map] at hv
          cases e : (outs es s)[j]? with
          | none => rw [e] at hv; cases hv
          | some b => rw [e] at hv; exact ⟨b, rfl, (Option.some.inj hv).symm⟩
        refine ⟨_, rfl, a, Hb, _, rfl, g4, ?_, _, rfl, .inl (t : Int), rfl, Same.refl _, fun H5 s5 _ => ⟨_, rfl, .int (s : Int), Same.refl _, GrpItem.int _, fun H6 g6 => ?_⟩⟩
        · rw [List.length_map, List.length_append, List.length_map, List.length_take]
          have q1 := entL (ks.take i) fun x hx => List.mem_of_mem_take hx
          have q2 := outs_len es s
          have q3 : (ks.take i).length * es.length ≤ ks.length * es.length := Nat.mul_le_mul_right _ (by rw [List.length_take]; omega)
          omega
        · refine ⟨_, rfl, ?_⟩
          rw [take_snoc ht]
          simp only [List.map_append, List.append_assoc, List.map_cons, List.map_nil] at g6 ⊢
          exact g6
      · rintro σ H4 ⟨y3, rfl, g4⟩
        refine ⟨_, _, rfl, ?_⟩
        rw [List.length_map, List.take_length] at g4
        rw [take_snoc hs, List.flatMap_append]
        simpa using g4
    · rintro σ H3 ⟨y2, y3, rfl, g⟩
      rw [lk, List.take_length] at g
      refine ⟨g.same _ _ gb, ?_⟩
      have ff := g.fol
      refine ⟨_, rfl, kQ a _ _ (back g.same) na (fol_off ff (g.same _ _ gb)) (fun x y => ?_) ?_⟩
      · rw [List.mem_flatMap]
        constructor
        · rintro ⟨s, _, hs⟩
          obtain ⟨t, ht, e⟩ := List.mem_map.mp hs
          cases e
          exact mem_outs.mp ht
        · intro h
          have ho := mem_outs.mpr h
          exact ⟨y, (hk1 y).mpr (fun z => by rw [z] at ho; exact List.not_mem_nil ho), List.mem_map.mpr ⟨x, ho, rfl⟩⟩
      · exact Nat.le_trans (entL ks fun x hx => hx) hb
/-- reached from some starts, and leading to some ends -/
def spUsefulPlaces (K : PySem.W.Frag) : Sp := fun vs H Q _ => ∃ (v u : V) (d : Addr) (ss ts : List Nat) (es : Edges) (n : Nat), vs = [v, .ref d, u] ∧ Dq K H v (.tuple (nats ss)) ∧ Dq K H u (.tuple (nats ts)) ∧ Fol K H d es ∧ ss.length ≤ 1000 ∧ ts.length ≤ 1000 ∧ es.length ≤ 300 ∧ n ≤ 1000 ∧ (∀ s ∈ ss, s < n) ∧ (∀ s ∈ ts, s < n) ∧ (∀ e ∈ es, e.1 < n ∧ e.2 < n) ∧
  ∀ m H' M, Same H H' → H m = none → H' m = some (.dK (oneD M)) → M.Nodup → (∀ p, p ∈ M ↔ GR es ss p ∧ GR (flipE es) ts p) → Q (.ref m) H'
theorem ok_UsefulPlaces {f : Addr} {fd : FuncData} {k : Nat} (F : Fun K "useful_places" "useful_places" sUsefulPlaces f fd) (CReached : Cal P w K mg base k "reached" ["starts", "following"] (spReached K)) (CTurnedAbout : Cal P w K mg base k "turned_about" ["following"] (spTurnedAbout K)) : FnOk P w K mg base CX0 (k + 1) f fd ["starts", "following", "ends"] (spUsefulPlaces K) := by
  refine F.ok scUsefulPlaces (fun vs H Q E h => ?_) (fun cdv A outer s H vs Q E hr h => ?_)
  · obtain ⟨v, u, d, ss, ts, es, n, rfl, _⟩ := h; rfl
  · obtain ⟨v, u, d, ss, ts, es, n, rfl, hv, hu', hF, hsl, htl, hel, hn, hss, hts, hes, kQ⟩ := h
    have hu := hr.units
    have hu1 : (A.deeper (envOfC "useful_places" (defScope sUsefulPlaces) s.heap.objs.size f cdv)).units + 1 < cLine := by omega
    refine ⟨_, (pss_cons (ps_set (i := 3) scUsefulPlaces.nd rfl (by first | exact Or.inl rfl | exact Or.inr rfl) (pe_cal CReached hr (by rfl) pass0 (pa_cons (pv 2) (pa_cons (pe_cal CTurnedAbout hr (by rfl) pass0 (pa_cons (pv 1) pa_nil)) pa_nil))))
      (pss_one (ps_ret (pe_dc (own := [("place", 4)]) (g := (gName 4)) (by rfl) scUsefulPlaces.nd (pi_keys (pe_lockA (pe_cal CReached hr (by rfl) pass0 (pa_cons (pv 0) (pa_cons (pv 1) pa_nil))))) (blkOk_by (own := [("place", 4)]) (N := ["starts", "following", "ends", "leading", "place"]) (sc := defScope sUsefulPlaces) (by decide +kernel)) (fun _ _ _ _ _ => (pg_name (i := 4) scUsefulPlaces.nd rfl (by first | exact Or.inl rfl | exact Or.inr rfl))) (fun _ _ _ _ _ => (pts_one (pt_cmp (pc_din hu1 (pv 4) (pv 3))))) (fun _ _ _ _ _ => (pv 4)) (fun _ _ _ _ _ => pe_bl))))), ?_⟩

    have hd : H d ≠ none := by
      obtain ⟨_, g⟩ := fol_isd hF
      rw [g]; exact fun z => by cases z
    refine ⟨_, rfl, _, rfl, d, es, rfl, hF, hd, hel, fun a H1 fs s1 na hFa hfs hfl => ?_⟩
    refine ⟨u, a, ts, fs, n, rfl, hu'.up s1, hFa, htl, by omega, hn, hts, fun e he => ?_, fun m H2 M s2 nm gm nd hM => ?_⟩
    · have := (hfs e.1 e.2).mp he
      exact (hes _ this).1
    have s12 := s1.trans s2
    refine ⟨_, rfl, _, rfl, v, d, ss, es, n, rfl, hv.up s12, hF.up s12, hsl, by omega, hn, hss, fun e he => (hes e he).2, fun m2 H3 M2 s3 nm2 gm2 nd2 hM2 => ?_⟩
    have gm3 := s3 _ _ gm
    have mm : m ≠ m2 := ne_of_none gm nm2
    refine ⟨m2, .dK (oneD M2), rfl, gm2, trivial, fun od => ?_⟩
    have eM : ∀ p, p ∈ M ↔ GR (flipE es) ts p := fun p => by
      rw [hM p]
      have e1 : ∀ e, e ∈ fs ↔ e ∈ flipE es := fun e => by
        obtain ⟨x, y⟩ := e
        rw [hfs]
        unfold flipE
        rw [List.mem_map]
        constructor
        · intro h; exact ⟨(y, x), h, rfl⟩
        · rintro ⟨⟨b, c⟩, h, e⟩; cases e; exact h
      exact ⟨fun h => h.mono fun e he => (e1 e).mp he, fun h => h.mono fun e he => (e1 e).mpr he⟩
    have s23 : Same H (upd H3 m2 (.frz od (.dK (oneD M2)))) := fun b o e => by
      rw [upd_ne (ne_of_none e (s12.free nm2))]; exact s3 _ _ (s12 _ _ e)
    have gf : upd H3 m2 (.frz od (.dK (oneD M2))) m2 = some (.frz od (.dK (oneD M2))) := upd_same
    have gm4 : upd H3 m2 (.frz od (.dK (oneD M2))) m = some (.dK (oneD M)) := by rw [upd_ne mm]; exact gm3
    generalize upd H3 m2 (.frz od (.dK (oneD M2))) = H4 at s23 gf gm4 ⊢
    refine ⟨m2, od, rfl, .inl ⟨oneD M2, gf, fun D nD => ?_⟩⟩
    have lM2 : M2.length ≤ n := nodup_len n M2 nd2 fun p hp => gr_lt hss (fun e he => (hes e he).2) ((hM2 p).mp hp)
    have nDH : H D = none := s23.free nD
    have hlen : (oneD M2).length = M2.length := List.length_map _
    refine dc_it walk_keys (fun i H' => ∃ N, H' D = some (.dK (oneD N)) ∧ N.Nodup ∧ (∀ p, p ∈ N ↔ p ∈ M2.take i ∧ p ∈ M) ∧ N.length ≤ i ∧ Same H4 (wo D H')) ⟨[], upd_same, List.nodup_nil, fun p => by simp, Nat.le_refl _, by rw [wo_upd, wo_id nD]; exact Same.refl _⟩ (fun i H' _ z => by obtain ⟨_, _, _, _, _, sm⟩ := z; exact wo_sub _ _ (sm _ _ gf)) ?_ ?_
    · rintro i v H9 H5 hi ⟨N, gN, ndN, hN, hNl, sm⟩ ⟨rfl, k0, v0, hkv, rfl⟩
      obtain ⟨p, hp, rfl⟩ : ∃ p, M2[i]? = some p ∧ k0 = .inl (p : Int) := by
        rw [List.getElem?_map] at hkv
        cases e : M2[i]? with
        | none => rw [e] at hkv; cases hkv
        | some b => rw [e] at hkv; cases hkv; exact ⟨b, rfl, rfl⟩
      have tk := take_snoc hp
      refine ⟨rfl, _, rfl, .ref m, rfl, m, _, rfl, DGet.k (k := .inl (p : Int)) (wo_sub _ _ (sm _ _ gm4)), _, rfl, ?_⟩
      rw [oneD_get]
      by_cases hin : p ∈ M
      · rw [if_pos hin]
        have hpN : p ∉ N := fun z => by
          have h1 := ((hN p).mp z).1
          obtain ⟨j, hj⟩ := List.getElem?_of_mem h1
          rw [List.getElem?_take] at hj
          split at hj
          · rename_i hji
            have h3 := (List.getElem?_eq_some_iff.mp hj)
            have h4 := (List.getElem?_eq_some_iff.mp hp)
            obtain ⟨a1, a2⟩ := h3
            obtain ⟨b1, b2⟩ := h4
            exact (List.pairwise_iff_getElem.mp nd2) j i a1 b1 hji (a2.trans b2.symm)
          · cases hj
        refine iteT ⟨_, rfl, oneD N, .inl (p : Int), rfl, gN, lt_sz (by rw [List.length_map]; omega), ?_⟩
        rw [oneD_put hpN]
        refine ⟨N ++ [p], upd_same, ?_, fun r => ?_, by rw [List.length_append]; show N.length + 1 ≤ _; omega, by rw [wo_upd]; exact sm⟩
        · rw [List.nodup_append]
          exact ⟨ndN, by simp, fun x hx y hy e => hpN (by rw [List.mem_singleton.mp hy] at e; exact e ▸ hx)⟩
        · rw [tk, List.mem_append, List.mem_append, hN r]
          constructor
          · rintro (⟨h1, h2⟩ | h)
            · exact ⟨.inl h1, h2⟩
            · rw [List.mem_singleton.mp h]; exact ⟨.inr (List.mem_singleton.mpr rfl), hin⟩
          · rintro ⟨h1 | h1, h2⟩
            · exact .inl ⟨h1, h2⟩
            · exact .inr h1
      · rw [if_neg hin]
        refine iteF ⟨N, gN, ndN, fun r => ?_, by omega, sm⟩
        rw [tk, List.mem_append, hN r]
        constructor
        · rintro ⟨h1, h2⟩; exact ⟨.inl h1, h2⟩
        · rintro ⟨h1 | h1, h2⟩
          · exact ⟨h1, h2⟩
          · rw [List.mem_singleton.mp h1] at h2; exact absurd h2 hin
    · rintro H5 ⟨N, gN, ndN, hN, _, sm⟩
      rw [hlen, List.take_length] at hN
      exact kQ D H5 N (s23.trans (sm.trans wo_sub)) nDH gN ndN fun p => by rw [hN p, hM2 p, eM p]
/-- the states that are useful, ascending -/
def useE (pl : Plan) : Edges := pl.ways.map fun m => (m.s, m.t)
structure UsefulL (pl : Plan) (ns : List Nat) : Prop where
  as : ns.Pairwise (· < ·)
  me : ∀ p, p ∈ ns ↔ GR (useE pl) pl.ins p ∧ GR (flipE (useE pl)) pl.outs p
def spUseful (K : PySem.W.Frag) (C : Addr) : Sp := fun vs H Q _ => ∃ (p : Addr) (pl : Plan) (top many long : Nat), vs = [.ref p] ∧ PacAt K C H p pl ∧ pl.Ok top many long ∧ top ≤ 50 ∧ many ≤ 50 ∧ long ≤ 50 ∧
  ∀ v H' ns, Same H H' → Dq K H' v (.tuple (nats ns)) → UsefulL pl ns → Q v H'
theorem ok_Useful {f C : Addr} {fd : FuncData} {k : Nat} (F : Fun K "useful" "useful" sUseful f fd) (T : PTxt K C) (ntuple : mg "tuple" = none) (nsorted : mg "sorted" = none) (CUsefulPlaces : Cal P w K mg base k "useful_places" ["starts", "following", "ends"] (spUsefulPlaces K)) : FnOk P w K mg base CX0 (k + 1) f fd ["pacer"] (spUseful K C) := by
  refine F.ok scUseful (fun vs H Q E h => ?_) (fun cdv A outer s H vs Q E hr h => ?_)
  · obtain ⟨p, pl, top, many, long, rfl, _⟩ := h; rfl
  · obtain ⟨p, pl, top, many, long, rfl, hP, hO, h1, h2, h3, kQ⟩ := h
    have hu := hr.units
    refine ⟨_, (pss_cons (ps_set (i := 1) scUseful.nd rfl (by first | exact Or.inl rfl | exact Or.inr rfl) pe_dnewK)
      (pss_cons (ps_for PassesOwn.never rfl (pi_tup (pe_fld (pv 0) rfl)) (pg_name (i := 2) scUseful.nd rfl (by first | exact Or.inl rfl | exact Or.inr rfl)) (pss_one (ps_grp (pv 1) (pe_ix (show IxR _ (rIxT K) from ix_tup) (pv 2) pe_int (fun _ _ => rfl)) (pe_ix (show IxR _ (rIxT K) from ix_tup) (pv 2) pe_int (fun _ _ => rfl)) ⟨by rfl, by rfl, by rfl, by rfl⟩)))
      (pss_one (ps_ret (pe_callTy call_tuple_of (by rfl) ntuple (by decide +kernel) (pa_cons (pe_callB (call_sortedDI rfl) (by rfl) nsorted (by decide +kernel) (pa_cons (pe_cal CUsefulPlaces hr (by rfl) pass0 (pa_cons (pe_fld (pv 0) rfl) (pa_cons (pv 1) (pa_cons (pe_fld (pv 0) rfl) pa_nil)))) pa_nil)) pa_nil)))))), ?_⟩

    obtain ⟨dx, vb, vm, ve, e1, e2, e3, e4⟩ := hP.at'
    have hnl := hO.n
    have hw2 := hO.w2
    obtain ⟨ms, hms, hma⟩ : ∃ ms, SqT K H vm ms ∧ DqAll K H ms (pl.ways.map mvD) := by
      cases e3 with
      | tup hs ha => exact ⟨_, hs, ha⟩
    have hml : ms.length = pl.ways.length := by rw [hma.len, List.length_map]
    refine fun a na => ?_
    have G0 : Grp K H (upd H a (.dK [])) a [] := Grp.start na
    have s1 := same_upd (o := .dK []) na
    generalize upd H a (.dK []) = H1 at G0 s1 ⊢
    refine ⟨_, rfl, p, C, dx, _, _, rfl, s1 _ _ e1, T.cl, T.nM, pf_m _ _ _ _, vm, rfl, ⟨ms, ex_t' s1 hms⟩, ?_⟩
    refine for_it walk_tup (fun i σ H' => ∃ y : Option V, σ = [some (.ref p), some (.ref a), y] ∧ Grp K H H' a (((pl.ways.take i).map fun m => (m.s, m.t)).map edgeD)) ⟨_, rfl, G0⟩ (fun i σ H' _ z => by obtain ⟨_, _, g⟩ := z; exact ex_t' g.same hms) ?_ ?_
    · rintro i v σ H9 H2 hi ⟨y, rfl, g⟩ ⟨rfl, hv⟩
      obtain ⟨dd, hd, hdq⟩ := hma.at hv
      obtain ⟨mv, hmv, rfl⟩ := mv_get hd
      obtain ⟨b, rfl, hb⟩ := dq_mv hdq
      have hb2 := ex_t' g.same hb
      have hi2 : i < pl.ways.length := (List.getElem?_eq_some_iff.mp hmv).1
      refine ⟨_, rfl, a, H, _, rfl, g, by rw [List.length_map, List.length_map, List.length_take]; omega, .ref b, rfl, b, _, 0, .int (mv.s : Int), rfl, rfl, hb2, rfl, .inl (mv.s : Int), rfl, Same.refl _, fun H5 s5 _ => ⟨.ref b, rfl, b, _, 3, .int (mv.t : Int), rfl, rfl, ex_t' s5 hb, rfl, .int (mv.t : Int), Same.refl _, GrpItem.int _, fun H6 g6 => ?_⟩⟩
      refine ⟨_, rfl, ?_⟩
      rw [take_snoc hmv]
      simp only [List.map_append, List.map_cons, List.map_nil] at g6 ⊢
      exact g6
    · rintro σ H2 ⟨y, rfl, g⟩
      rw [hml, List.take_length] at g
      have hF := g.fol
      have s2 := g.same
      have b1 := asc_len hO.i
      have b2 := asc_len hO.o
      refine ⟨_, rfl, p, C, dx, _, _, rfl, s2 _ _ e1, T.cl, T.nB, pf_b _ _ _ _, _, rfl, _, rfl, p, C, dx, _, _, rfl, s2 _ _ e1, T.cl, T.nE, pf_e _ _ _ _, .ref vb, .ref ve, a, pl.ins, pl.outs, useE pl, pl.wide, rfl, e2.up s2, e4.up s2, hF, by omega, by omega, by unfold useE; rw [List.length_map]; omega, by omega, hO.i.2, hO.o.2, fun e he => ?_, fun m H3 M s3 nm gm nd hM => ?_⟩
      · obtain ⟨mv, hmv, rfl⟩ := List.mem_map.mp he
        exact ⟨(hO.m mv hmv).1, (hO.m mv hmv).2.1⟩
      have lM : M.length ≤ pl.wide := nodup_len _ M nd fun x hx => gr_lt hO.i.2 (fun e he => by
        obtain ⟨mv, hmv, rfl⟩ := List.mem_map.mp he
        exact (hO.m mv hmv).2.1) ((hM x).mp hx).1
      refine ⟨m, oneD M, M.map fun n : Nat => (n : Int), rfl, .inl gm, by rw [List.map_map, List.map_map]; rfl, by rw [List.length_map]; omega, fun ys l hp hs nl => ?_⟩
      obtain ⟨ns, rfl⟩ : ∃ ns : List Nat, ys = ns.map fun n : Nat => (n : Int) := by
        have : ∀ l : List Int, (∀ z ∈ l, ∃ n : Nat, z = (n : Int)) → ∃ ns : List Nat, l = ns.map fun n : Nat => (n : Int) := by
          intro l
          induction l with
          | nil => exact fun _ => ⟨[], rfl⟩
          | cons z r ih =>
            intro h
            obtain ⟨n, rfl⟩ := h z List.mem_cons_self
            obtain ⟨ns, e⟩ := ih fun y hy => h y (List.mem_cons_of_mem _ hy)
            exact ⟨n :: ns, by rw [e]; rfl⟩
        exact this ys fun z hz => by
          obtain ⟨n, _, e⟩ := List.mem_map.mp (hp.mem_iff.mp hz)
          exact ⟨n, e.symm⟩
      have hp2 : ns.Perm M := perm_nats hp
      have hle : ns.Pairwise (· ≤ ·) := by
        rw [List.pairwise_map] at hs
        exact hs.imp fun h => by omega
      have hlt : ns.Pairwise (· < ·) := by
        have hnd := hp2.nodup_iff.mpr nd
        exact (List.Pairwise.and hle hnd).imp fun ⟨a, b⟩ => Nat.lt_of_le_of_ne a b
      have s4 := same_upd (o := .lst ((ns.map fun n : Nat => (n : Int)).map V.int)) nl
      refine ⟨l, _, rfl, .inl ⟨sqOf upd_same, fun t nt => ?_⟩⟩
      have s5 := same_upd (o := .tup ((ns.map fun n : Nat => (n : Int)).map V.int)) nt
      refine kQ _ _ ns (s2.trans (s3.trans (s4.trans s5))) (.tup (stOf upd_same) ?_) ⟨hlt, fun x => by rw [hp2.mem_iff]; exact hM x⟩
      rw [List.map_map]
      exact nats_dqAll ns
end
end KP
namespace EL
open PySem PySem.Spec PyProof.Rows L2
/-- o.f where K is named (in a comprehension) -/
theorem pe_fldK {X : Cx} {K : PySem.W.Frag} {e : Expr} {ta : TE} {f : Str} {pos : Pos} (he : PE X e ta) (hb : attributeBase e f X.env (eval e X.env) = eval e X.env) (hK : X.K = K := by rfl) : PE X (.Attribute e f pos) (tFld K ta f) := by
  subst hK
  exact pe_fld he hb
theorem kdK {X : Cx} {K : PySem.W.Frag} {e : Expr} {d : PyData} (h : PE X e (tK X.K d)) (hK : X.K = K := by rfl) : PE X e (tK K d) := by
  subst hK
  exact h
end EL
namespace EL
open PySem PySem.Spec PyProof.Rows L2
def kwM1 {α : Type} : List α → List α → List α
  | [s], [z] => [s, z]
  | _, _ => []
theorem kwM1_rel {vs : List V} {us : List Value} {zs : List V} {ws : List Value} (h1 : Vals vs us) (h2 : Vals zs ws) : Vals (kwM1 vs zs) (kwM1 us ws) := by
  cases h1 with
  | nil => exact .nil
  | cons r0 rr0 =>
    cases rr0 with
    | cons _ _ => exact .nil
    | nil =>
    cases h2 with
    | nil => exact .nil
    | cons r rr =>
      cases rr with
      | nil => exact .cons r0 (.cons r .nil)
      | cons _ _ => exact .nil
theorem Fun.kwM1 {K : PySem.W.Frag} {x qual : Str} {st : Stmt} {f : Addr} {fd : FuncData} {r p : Str} (F : Fun K x qual st f fd)
    (h : ∀ (kV doc pm : Value) (an : Option Addr) (cdv ct : Value) (t u : Value), bindArgs (PySem.W.fnOf x qual (defArgs st) (defBody st) (defScope st) .none kV doc pm an cdv ct) ⟨[t], [(p, u)]⟩ = pure [(r, t), (p, u)]) : KBinds K fd [r, p] [p] EL.kwM1 EL.kwM1 := by
  obtain ⟨oc, od, kV, doc, pm, an, cdv, ct, osl, rfl, lk, hcd⟩ := F.ex
  refine ⟨fun s us ws _ hl => ?_, kwM1_rel⟩
  match us, ws, hl with
  | [t], [u], _ => exact .of_eq (h kV doc pm an cdv ct t u)
  | [], _, hl => exact absurd hl (by simp [EL.kwM1])
  | [_], [], hl => exact absurd hl (by simp [EL.kwM1])
  | [_], _ :: _ :: _, hl => exact absurd hl (by simp [EL.kwM1])
  | _ :: _ :: _, _, hl => exact absurd hl (by simp [EL.kwM1])
end EL
/-! Data of tuples alone stands as long as tuples stand; lists of such data that grow. -/
namespace EL
open PySem PySem.Spec PyProof.Rows L2
/-- tuples stand -/
def KpT (H H' : Hp) : Prop := ∀ b xs, (H b = some (.tup xs) → H' b = some (.tup xs)) ∧ ∀ o, H b = some (.frz o (.tup xs)) → H' b = some (.frz o (.tup xs))
theorem KpT.of {H H' : Hp} (s : Same H H') : KpT H H' := fun b xs => ⟨fun h => s _ _ h, fun o h => s _ _ h⟩
theorem KpT.trans {H H1 H2 : Hp} (x : KpT H H1) (y : KpT H1 H2) : KpT H H2 := fun b xs => ⟨fun h => (y b xs).1 ((x b xs).1 h), fun o h => (y b xs).2 o ((x b xs).2 o h)⟩
theorem KpT.lst {H : Hp} {p : Addr} {vs : List V} {o : HO} (h : H p = some (.lst vs)) : KpT H (upd H p o) := fun b xs => ⟨fun e => by rw [upd_ne (fun q => by rw [q, h] at e; cases e)]; exact e, fun o e => by rw [upd_ne (fun q => by rw [q, h] at e; cases e)]; exact e⟩
theorem KpT.dT {H : Hp} {p : Addr} {vs : List (List L2.Key × V)} {o : HO} (h : H p = some (.dT vs)) : KpT H (upd H p o) := fun b xs => ⟨fun e => by rw [upd_ne (fun q => by rw [q, h] at e; cases e)]; exact e, fun o e => by rw [upd_ne (fun q => by rw [q, h] at e; cases e)]; exact e⟩
theorem KpT.dK {H : Hp} {p : Addr} {vs : List (L2.Key × V)} {o : HO} (h : H p = some (.dK vs)) : KpT H (upd H p o) := fun b xs => ⟨fun e => by rw [upd_ne (fun q => by rw [q, h] at e; cases e)]; exact e, fun o e => by rw [upd_ne (fun q => by rw [q, h] at e; cases e)]; exact e⟩
theorem KpT.wo {H : Hp} {p : Addr} {vs : List V} (h : H p = some (.lst vs)) : KpT H (wo p H) := fun b xs => ⟨fun e => by rw [wo_ne (fun q => by rw [q, h] at e; cases e)]; exact e, fun o e => by rw [wo_ne (fun q => by rw [q, h] at e; cases e)]; exact e⟩
theorem sqT_kpt {K : PySem.W.Frag} {H H' : Hp} {b : Addr} {xs : List V} (k : KpT H H') (h : SqT K H b xs) : SqT K H' b xs := by
  rcases h with (h | ⟨o, h⟩) | h
  · exact .inl (.inl ((k b xs).1 h))
  · exact .inl (.inr ⟨o, (k b xs).2 o h⟩)
  · exact .inr h
mutual
theorem dq_kpt {K : PySem.W.Frag} {H H' : Hp} (k : KpT H H') : ∀ (d : PyData) (v : V), Dq K H v d → noLD d = true → Dq K H' v d
  | .none, _, h, _ => by cases h; exact .non
  | .bool b, _, h, _ => by cases h; exact .bl b
  | .int i, _, h, _ => by cases h; exact .int i
  | .str x, _, h, _ => by cases h; exact .str x
  | .list ds, _, h, n => by simp [noLD] at n
  | .tuple ds, _, h, n => by
    cases h with
    | tup hs ha => exact .tup (sqT_kpt k hs) (dqAll_kpt k ds _ ha (by simpa [noLD] using n))
  | .dict _, _, h, n => by simp [noLD] at n
theorem dqAll_kpt {K : PySem.W.Frag} {H H' : Hp} (k : KpT H H') : ∀ (ds : List PyData) (vs : List V), DqAll K H vs ds → noLDs ds = true → DqAll K H' vs ds
  | [], _, h, _ => by cases h; exact .nil
  | d :: ds, _, h, n => by
    cases h with
    | cons h1 h2 =>
      obtain ⟨n1, n2⟩ : noLD d = true ∧ noLDs ds = true := by simpa [noLDs] using n
      exact .cons (dq_kpt k d _ h1 n1) (dqAll_kpt k ds _ h2 n2)
end
theorem noLDs_map {α : Type} {f : α → PyData} (h : ∀ a, noLD (f a) = true) : ∀ l : List α, noLDs (l.map f) = true
  | [] => rfl
  | a :: r => by simp only [List.map_cons, noLDs, h a, noLDs_map h r, Bool.and_self]
theorem noLDs_nats (ns : List Nat) : noLDs (ns.map fun n : Nat => PyData.int (n : Int)) = true := noLDs_map (fun _ => rfl) ns
end EL
namespace KP
open PySem PySem.Spec PyProof.Rows L2 EL
open Evl (pss_cut)
abbrev sLDeck : Stmt := topS 62
theorem scLDeck : FnScope ["_law_script", "_law_cells", "_law_stir", "_law_cell"] ["_law_script"] (defScope sLDeck) := ⟨rfl, rfl, rfl, by decide +kernel, rfl, by decide +kernel, by decide +kernel⟩
abbrev sLDraw : Stmt := topS 63
theorem scLDraw : FnScope ["_law_deck_here", "_law_below", "_law_turn", "_law_figure", "_law_cell"] ["_law_deck_here", "_law_below"] (defScope sLDraw) := ⟨rfl, rfl, rfl, by decide +kernel, rfl, by decide +kernel, by decide +kernel⟩
abbrev sLPick : Stmt := topS 64
theorem scLPick : FnScope ["_law_deck_here", "_law_some"] ["_law_deck_here", "_law_some"] (defScope sLPick) := ⟨rfl, rfl, rfl, by decide +kernel, rfl, by decide +kernel, by decide +kernel⟩
abbrev dkV (q : Addr) (b c : Int) : List (L2.Key × V) := [(.inr "cells", .ref q), (.inr "stir", .int b), (.inr "draws", .int c)]
theorem dk_n1 : ¬ ("cells" : Str) = "stir" := by decide +kernel
theorem dk_n2 : ¬ ("cells" : Str) = "draws" := by decide +kernel
theorem dk_n3 : ¬ ("stir" : Str) = "draws" := by decide +kernel
theorem dk_cells {H : Hp} {a q : Addr} {b c : Int} (h : H a = some (.dK (dkV q b c))) : DGet H a (kV (.inr "cells")) (some (.ref q)) := by
  have := DGet.k (k := .inr "cells") h
  simpa [valV] using this
theorem dk_stir {H : Hp} {a q : Addr} {b c : Int} (h : H a = some (.dK (dkV q b c))) : DGet H a (kV (.inr "stir")) (some (.int b)) := by
  have := DGet.k (k := .inr "stir") h
  simpa [valV, dk_n1] using this
theorem dk_draws {H : Hp} {a q : Addr} {b c : Int} (h : H a = some (.dK (dkV q b c))) : DGet H a (kV (.inr "draws")) (some (.int c)) := by
  have := DGet.k (k := .inr "draws") h
  simpa [valV, dk_n2, dk_n3] using this
theorem dk_put (q : Addr) (b c e : Int) : putK (dkV q b c) (.inr "draws") (.int e) = dkV q b e := by
  simp [putK, dk_n2, dk_n3]
theorem dk_merge (q : Addr) (b c : Int) : mergeK [] (dkV q b c) = dkV q b c := by
  simp [mergeK, putK, dk_n1, dk_n2, dk_n3]
theorem cast1 (c : Nat) : ((c : Int) + 1) = ((c + 1 : Nat) : Int) := rfl
section
variable {P : Program} {w : World} {K : PySem.W.Frag} {mg : Str → Option Value} {base : Heap}
theorem ok_deck {f : Addr} {fd : FuncData} {k : Nat} (F : Fun K "_law_deck" "_law_deck" sLDeck f fd) (nlist : mg "list" = none) (nint : mg "int" = none) : FnOk P w K mg base CX0 (k + 1) f fd ["_law_script"] (spDeck K) := by
  refine F.ok scLDeck (fun vs H Q E h => ?_) (fun cdv A outer s H vs Q E hr h => ?_)
  · obtain ⟨a, ns, rfl, _⟩ := h; rfl
  · obtain ⟨a, ns, rfl, hS, hl, kQ⟩ := h
    refine ⟨_, (pss_cons (ps_par (i := 1) (j := 2) (by rfl) scLDeck.nd rfl rfl (by decide) rfl rfl (pa_cons (pe_callTy call_list_of (by rfl) nlist (by decide +kernel) (pa_cons (pe_slice sl_list (pv 0) po_none (po_some pe_int)) pa_nil)) (pa_cons pe_int pa_nil)) (by rfl))
      (pss_cons (ps_for PassesOwn.never rfl (pi_list (pv 1)) (pg_name (i := 3) scLDeck.nd rfl (by first | exact Or.inl rfl | exact Or.inr rfl)) (pss_one (ps_set (i := 2) scLDeck.nd rfl (by first | exact Or.inl rfl | exact Or.inr rfl) (pe_op op_mod (pe_callTy call_int1 (by rfl) nint (by decide +kernel) (pa_cons (pe_op op_add (pe_op op_add (pe_op op_mul (pv 2) pe_int) (pe_op op_mod (pe_callTy call_int1 (by rfl) nint (by decide +kernel) (pa_cons (pv 3) pa_nil)) pe_int)) pe_int) pa_nil)) pe_int))))
      (pss_one (ps_ret (pe_disp (pps_cons pe_str (pe_revL (pv 1)) (pps_cons pe_str (pv 2) (pps_cons pe_str pe_int pps_nil))) rfl rfl (by simp) (by decide)))))), ?_⟩
    refine ⟨.ref a, rfl, 63, rfl, a, ns.map V.int, rfl, hS, fun p np => ?_⟩
    have s1 : Same H (upd H p (.lst (cutV (ns.map V.int) none (some 63)))) := same_upd np
    refine ⟨p, cutV (ns.map V.int) none (some 63), rfl, .inl (.inl (.inl upd_same)), fun l nl => ?_⟩
    have s2 := s1.trans (same_upd (o := .lst (cutV (ns.map V.int) none (some 63))) nl)
    obtain ⟨ms, e1, e2⟩ : ∃ ms : List Int, cutV (ns.map V.int) none (some 63) = ms.map V.int ∧ ms.length ≤ 63 := ⟨cutI ns 63, cutI_map ns, cutI_len _ _ hl⟩
    generalize hG : upd (upd H p (.lst (cutV (ns.map V.int) none (some 63)))) l (.lst (cutV (ns.map V.int) none (some 63))) = G at s2 ⊢
    have hGl : G l = some (.lst (ms.map V.int)) := by rw [← hG, upd_same, e1]
    refine ⟨.ref l, _, rfl, .ref l, rfl, l, rfl, ⟨_, .inl (.inl hGl)⟩, for_list (K := K) (a := l) (xs := ms.map V.int) (fun i σ H' => ∃ (b : Int) (y : Option V), σ = [some (.ref a), some (.ref l), some (.int b), y] ∧ 0 ≤ b ∧ b < 2147483648 ∧ H' = G)
      ⟨_, none, rfl, by decide, by decide, rfl⟩ (fun i σ H' _ ⟨_, _, _, _, _, e⟩ => by rw [e]; exact .inl (.inl hGl)) ?_ ?_⟩
    · rintro i x σ H' hi ⟨b, y, rfl, h0, h1, rfl⟩
      obtain ⟨z, hz, rfl⟩ := get_map_int hi
      refine ⟨_, rfl, b, 39373, rfl, rfl, .inl ⟨by omega, by omega⟩, _, rfl, .inl ⟨_, rfl, _, _, rfl, rfl, (by show (0:Int) < _; decide), ?_⟩⟩
      refine ⟨_, _, rfl, rfl, _, _, rfl, rfl, .inl ⟨_, rfl, _, _, rfl, rfl, (by show (0:Int) < _; decide), ?_⟩⟩
      exact ⟨_, _, rfl, Int.emod_nonneg _ (by decide), Int.lt_trans (Int.emod_lt_of_pos _ (by decide)) (by decide), rfl⟩
    · rintro σ H' ⟨b, y, rfl, h0, h1, rfl⟩
      refine fun d nd => ?_
      have s3 : Same H' (upd H' d (.dK [])) := same_upd nd
      have g3 : upd H' d (.dK []) d = some (.dK []) := upd_same
      generalize upd H' d (.dK []) = G1 at s3 g3 ⊢
      refine ⟨.ref l, rfl, l, _, rfl, .inl (.inl (s3 _ _ hGl)), fun r nr => ?_⟩
      have s4 : Same G1 (upd G1 r (.lst (ms.map V.int).reverse)) := same_upd nr
      have g4 : upd G1 r (.lst (ms.map V.int).reverse) r = some (.lst (ms.reverse.map V.int)) := by rw [upd_same, List.map_reverse]
      generalize upd G1 r (.lst (ms.map V.int).reverse) = G2 at s4 g4 ⊢
      have g3' := s4 _ _ g3
      refine ⟨_, rfl, g3', dkV r b 0, rfl, by show 3 ≤ 15; decide, ?_⟩
      rw [dk_merge]
      have nd0 : H d = none := s2.free nd
      have sF : Same H (upd G2 d (.dK (dkV r b 0))) := fun x o e => by rw [upd_ne (ne_of_none e nd0)]; exact s4 _ _ (s3 _ _ (s2 _ _ e))
      have tr : r ≠ d := fun e => by rw [e, g3'] at g4; cases g4
      exact kQ d r _ sF ⟨0, Nat.le_refl _, tr.symm, ⟨b, h0, h1, upd_same⟩, ⟨ms.reverse, by rw [List.length_reverse]; exact e2, by rw [upd_ne tr]; exact g4⟩⟩ nd0 ((s2.trans s3).free nr)
theorem ok_draw {f : Addr} {fd : FuncData} {k : Nat} (F : Fun K "_law_draw" "_law_draw" sLDraw f fd) (nint : mg "int" = none) : FnOk P w K mg base CX0 (k + 1) f fd ["_law_deck_here", "_law_below"] spDraw := by
  refine F.ok scLDraw (fun vs H Q E h => ?_) (fun cdv A outer s H vs Q E hr h => ?_)
  · obtain ⟨a, q, m, n, rfl, _⟩ := h; rfl
  · obtain ⟨a, q, m, n, rfl, ⟨c, hc, DD⟩, hm, hn0, hn1, kQ⟩ := h
    have hu : _ := hr.units
    have hu1 : (A.deeper (envOfC "_law_draw" (defScope sLDraw) s.heap.objs.size f cdv)).units + 1 < cLine := by omega
    refine ⟨_, (pss_cons (ps_dput hu1 (pv 0) pe_str (pe_op op_add (pe_dget hu1 (pv 0) pe_str (fun _ _ => rfl)) pe_int) rfl)
      (pss_cons (ps_par (i := 2) (j := 3) (by rfl) scLDraw.nd rfl rfl (by decide) rfl rfl (pa_cons (pe_dget hu1 (pv 0) pe_str (fun _ _ => rfl)) (pa_cons (pe_dget hu1 (pv 0) pe_str (fun _ _ => rfl)) pa_nil)) (by rfl))
      (pss_cut (ps_if (pt_cmpR (op_neN hr.units0) (pe_dget hu1 (pv 0) pe_str (fun _ _ => rfl)) (pe_lst pa_nil) (nomark _)) (pss_cons (ps_set (i := 4) scLDraw.nd rfl (by first | exact Or.inl rfl | exact Or.inr rfl) (pe_bm0 PySem.F.plainAttrs_list PySem.F.slot_list_pop PySem.F.type_list_pop mt_pop (pe_dget hu1 (pv 0) pe_str (fun _ _ => rfl))))
      (pss_cons (ps_if (pt_cmpR op_ge (pv 4) (pe_op op_pow pe_int pe_int) (nomark _)) (pss_cons (ps_expr (pe_bm PySem.F.plainAttrs_list PySem.F.slot_list_append PySem.F.type_list_append mt_append (pe_dget hu1 (pv 0) pe_str (fun _ _ => rfl)) (pa_cons (pe_op op_fdiv (pv 4) (pv 1)) pa_nil)))
      (pss_one (ps_ret (pe_op op_mod (pe_callTy call_int1 (by rfl) nint (by decide +kernel) (pa_cons (pv 4) pa_nil)) (pv 1))))) pss_nil)
      (pss_one (ps_set (i := 3) scLDraw.nd rfl (by first | exact Or.inl rfl | exact Or.inr rfl) (pe_op op_add (pv 3) (pe_op op_mod (pe_callTy call_int1 (by rfl) nint (by decide +kernel) (pa_cons (pv 4) pa_nil)) pe_int)))))) pss_nil)
      (pss_cons (ps_set (i := 3) scLDraw.nd rfl (by first | exact Or.inl rfl | exact Or.inr rfl) (pe_op op_mod (pe_op op_mul (pe_callTy call_int1 (by rfl) nint (by decide +kernel) (pa_cons (pe_op op_add (pe_op op_add (pe_op op_mod (pv 3) pe_int) (pe_op op_mul (pe_op op_mul pe_int (pv 2)) (pv 2))) pe_int) pa_nil)) pe_int) pe_int))
      (pss_cons (ps_set (i := 3) scLDraw.nd rfl (by first | exact Or.inl rfl | exact Or.inr rfl) (pe_op op_mod (pe_callTy call_int1 (by rfl) nint (by decide +kernel) (pa_cons (pe_op op_add (pe_op op_add (pe_op op_mul (pv 3) (pv 3)) (pe_op op_mul pe_int (pv 2))) pe_int) pa_nil)) pe_int))
      (pss_one (ps_ret (pe_op op_mod (pe_op op_fdiv (pe_op op_mod (pe_callTy call_int1 (by rfl) nint (by decide +kernel) (pa_cons (pe_op op_mul (pv 3) pe_int) pa_nil)) pe_int) pe_int) (pv 1))))))))), ?_⟩
    obtain ⟨b, hb0, hb1, hA⟩ := DD.top
    obtain ⟨ns, hns, hQ⟩ := DD.que
    refine ⟨_, rfl, a, _, rfl, dk_draws hA, _, _, rfl, rfl, .ref a, rfl, a, _, rfl, DPut.k (k := .inr "draws") hA (lt_sz (by show 3 ≤ 1000000; decide)), ?_⟩
    rw [dk_put, cast1]
    generalize hG : upd H a (.dK (dkV q b ((c + 1 : Nat) : Int))) = G
    have hGa : G a = some (.dK (dkV q b ((c + 1 : Nat) : Int))) := by rw [← hG]; exact upd_same
    have hGq : G q = some (.lst (ns.map V.int)) := by rw [← hG, upd_ne DD.ne.symm]; exact hQ
    have oG : EL.Off a q H G := fun x o h1 h2 h => by rw [← hG, upd_ne h1]; exact h
    have dkG : Dk a q (c + 1) G := ⟨DD.ne, ⟨b, hb0, hb1, hGa⟩, ⟨ns, hns, hGq⟩⟩
    refine ⟨_, rfl, a, _, rfl, dk_draws hGa, _, rfl, a, _, rfl, dk_stir hGa, _, _, rfl, ?_⟩
    refine ⟨fun σ H' => ∃ (z : Int) (y : Option V), σ = [some (.ref a), some (.int n), some (.int ((c + 1 : Nat) : Int)), some (.int z), y] ∧ EL.Off a q H H' ∧ Dk a q (c + 1) H', ?_, ?_⟩
    · refine ⟨_, rfl, a, _, rfl, dk_cells hGa, by show 0 ≤ sizeLine; decide, fun l nl => ?_⟩
      generalize hG2 : L2.upd G l (.lst []) = G2
      have s2 : Same G G2 := by rw [← hG2]; exact same_upd nl
      have dk2 := dkG.same s2
      have o2 : EL.Off a q H G2 := oG.trans (.of_same s2)
      have hl2 : G2 l = some (.lst []) := by rw [← hG2]; exact upd_same
      have hq2 := s2 _ _ hGq
      have ha2 := s2 _ _ hGa
      refine ⟨q, l, _, rfl, rfl, sqOf hq2, sqOf hl2, _, rfl, ?_⟩
      by_cases hz : ns = []
      · rw [decide_eq_true (by rw [hz]; rfl)]
        exact iteF ⟨_, none, rfl, o2, dk2⟩
      · rw [decide_eq_false (by simpa using hz)]
        refine iteT ?_
        obtain ⟨y, hy⟩ := last_int hz
        refine ⟨_, rfl, a, _, rfl, dk_cells ha2, .inl ⟨rfl, _, sqOf hq2⟩, q, _, .int y, rfl, rfl, hq2, hy, ?_⟩
        generalize hG3 : L2.upd G2 q (.lst (ns.map V.int).dropLast) = G3
        have o3 : EL.Off a q H G3 := o2.trans fun x o h1 h2 h => by rw [← hG3, upd_ne h2]; exact h
        have ha3 : G3 a = some (.dK (dkV q b ((c + 1 : Nat) : Int))) := by rw [← hG3, upd_ne DD.ne]; exact ha2
        have hq3 : G3 q = some (.lst (ns.dropLast.map V.int)) := by rw [← hG3, upd_same, List.map_dropLast]
        have hl3 : ns.dropLast.length ≤ 62 := by rw [List.length_dropLast]; omega
        have dk3 : Dk a q (c + 1) G3 := ⟨DD.ne, ⟨b, hb0, hb1, ha3⟩, ⟨_, by omega, hq3⟩⟩
        refine ⟨_, rfl, 10, 18, rfl, rfl, ⟨by decide, by decide, by decide⟩, y, _, rfl, rfl, _, rfl, ite2 (fun _ => ?_) (fun _ => ?_)⟩
        · refine ⟨_, rfl, a, _, rfl, dk_cells ha3, .inl ⟨rfl, _, sqOf hq3⟩, _, rfl, _, rfl, y, n, rfl, rfl, ⟨by omega, by omega⟩, q, _, _, rfl, rfl, hq3, (by rw [List.length_map]; exact lt_sz (by omega)), ?_⟩
          generalize hG4 : L2.upd G3 q (.lst (ns.dropLast.map V.int ++ [V.int (y / n)])) = G4
          have o4 : EL.Off a q H G4 := o3.trans fun x o h1 h2 h => by rw [← hG4, upd_ne h2]; exact h
          have ha4 : G4 a = some (.dK (dkV q b ((c + 1 : Nat) : Int))) := by rw [← hG4, upd_ne DD.ne]; exact ha3
          have hq4 : G4 q = some (.lst ((ns.dropLast ++ [y / n]).map V.int)) := by rw [← hG4, upd_same, List.map_append]; rfl
          have dk4 : Dk a q (c + 1) G4 := ⟨DD.ne, ⟨b, hb0, hb1, ha4⟩, ⟨_, by rw [List.length_append]; show _ + 1 ≤ 63; omega, hq4⟩⟩
          refine ⟨_, rfl, .inl ⟨_, rfl, _, rfl, _, _, rfl, rfl, hn0, ?_⟩⟩
          exact kQ _ _ (Int.emod_nonneg _ (by omega)) (Int.emod_lt_of_pos _ hn0) o4 ⟨c + 1, by omega, dk4⟩
        · refine ⟨_, rfl, _, rfl, .inl ⟨_, rfl, _, _, rfl, rfl, (by show (0:Int) < _; decide), _, _, rfl, rfl, ?_⟩⟩
          exact ⟨_, some (.int y), rfl, o3, dk3⟩
    · rintro σ H' ⟨z, y, rfl, o5, D5⟩
      have hc3 : ((c + 1 : Nat) : Int) < 1000000001 := by omega
      have hc4 : (0 : Int) ≤ ((c + 1 : Nat) : Int) := by omega
      generalize ((c + 1 : Nat) : Int) = t at hc3 hc4 ⊢
      refine ⟨_, rfl, _, _, rfl, rfl, (by show (0:Int) < _; decide), _, rfl, _, _, rfl, rfl, .inr ⟨by omega, by omega⟩, _, rfl, _, _, rfl, rfl, .inr ⟨by omega, by omega⟩, _, _, rfl, rfl, _, _, rfl, rfl, ?_⟩
      refine .inl ⟨_, rfl, _, _, rfl, rfl, .inr ⟨by omega, by omega⟩, _, _, rfl, rfl, (by show (0:Int) < _; decide), ?_⟩
      refine ⟨_, rfl, _, rfl, _, _, rfl, rfl, .inl ⟨by omega, by omega⟩, _, rfl, _, _, rfl, rfl, .inl ⟨by omega, by omega⟩, _, _, rfl, rfl, _, _, rfl, rfl, ?_⟩
      refine .inl ⟨_, rfl, _, _, rfl, rfl, (by show (0:Int) < _; decide), ?_⟩
      refine ⟨_, rfl, _, _, rfl, rfl, .inr ⟨by omega, by omega⟩, .inl ⟨_, rfl, _, _, rfl, rfl, (by show (0:Int) < _; decide), _, _, rfl, rfl, ⟨by omega, by omega⟩, _, rfl, _, _, rfl, rfl, hn0, ?_⟩⟩
      exact kQ _ _ (Int.emod_nonneg _ (by omega)) (Int.emod_lt_of_pos _ hn0) o5 ⟨c + 1, by omega, D5⟩
theorem ok_pick {f : Addr} {fd : FuncData} {k : Nat} (F : Fun K "_law_pick" "_law_pick" sLPick f fd) (nlen : mg "len" = none) (C : Cal P w K mg base (k + 1) "_law_draw" ["_law_deck_here", "_law_below"] spDraw) :
    FnOk P w K mg base CX0 (k + 2) f fd ["_law_deck_here", "_law_some"] (spPick K) := by
  refine F.ok scLPick (fun vs H Q E h => ?_) (fun cdv A outer s H vs Q E hr h => ?_)
  · obtain ⟨a, q, m, y, rfl, _⟩ := h; rfl
  · obtain ⟨a, q, m, y, rfl, hD, hm, h⟩ := h
    refine ⟨_, pss_one (ps_ret (pe_ix ix_seq (pv 1) (pe_cal C hr (by rfl) pass0 (pa_cons (pv 0) (pa_cons (pe_callB call_len (by rfl) nlen boot_len (pa_cons (pv 1) pa_nil)) pa_nil))) (fun _ _ => rfl))), ?_⟩
    refine ⟨y, rfl, .ref a, rfl, y, rfl, ?_⟩
    rcases h with ⟨l, xs, rfl, hS, hne, hlen, kQ⟩ | ⟨z, rfl, hne, hlen, kQ⟩
    · have hS' : SqL K H l xs := ex_l' hid_sub hS
      have hp : 0 < xs.length := List.length_pos_iff.mpr hne
      refine ⟨_, _, rfl, .inl ⟨_, hS', rfl⟩, a, q, m, _, rfl, hD, hm, by omega, by omega, fun j H' h0 h1 o D' => ?_⟩
      obtain ⟨i, rfl⟩ := Int.eq_ofNat_of_zero_le h0
      have hi : i < xs.length := by omega
      refine .inl ⟨l, xs, (i : Int), xs[i], rfl, rfl, ex_l' hid_sub (ex_l' o.hid hS), atI_nat (List.getElem?_eq_getElem hi), ?_⟩
      exact kQ i _ H' (List.getElem?_eq_getElem hi) o D'
    · refine ⟨_, _, rfl, ⟨len_sz hlen, rfl⟩, a, q, m, _, rfl, hD, hm, by omega, by omega, fun j H' h0 h1 o D' => ?_⟩
      obtain ⟨i, rfl⟩ := Int.eq_ofNat_of_zero_le h0
      have hi : i < z.cps.toList.length := by
        have e : z.cps.toList.length = z.length := by rw [Array.length_toList]; rfl
        omega
      refine .inr (.inr ⟨z, (i : Int), z.cps.toList[i], rfl, rfl, len_sz hlen, atI_nat (List.getElem?_eq_getElem hi), ?_⟩)
      exact kQ i _ H' (List.getElem?_eq_getElem hi) o D'

end
end KP
/-! own binary operators: x + y, x | y of two instances of one class, the answer an object. -/
namespace EL
open PySem PySem.Spec PyProof.Rows L2
section
variable {X : Cx} {k : Nat} {C f : Addr} {fd : FuncData} {ps : List Str} {sp : Sp} {E : XK}
def rOwnB (C : Addr) (sp : Sp) (E : XK) : R2 := fun x y H Q => ∃ a b dx dy fs gs, x = .ref a ∧ y = .ref b ∧ H a = some (.ins C dx fs) ∧ H b = some (.ins C dy gs) ∧ sp [.ref a, .ref b] H (fun v H' => ∃ r : Addr, v = .ref r ∧ Q (.ref r) H') E
theorem run_ownB {A : Around} {pins : List (Addr × Obj)} {s : Shared} {σ : L2.St} {H : Hp} {a b : Addr} {Q : VK} (hA : A.frames = X.A.frames) (hr : Room k A) (F : FnOk X.prog X.w X.K X.mg X.base CX0 k f fd ps sp) (hb : Binds X.K fd ps []) (hx : Passes CX0 X E) (I : Inv X pins σ H s)
    (hsp : sp [.ref a, .ref b] H (fun v H' => ∃ r : Addr, v = .ref r ∧ Q (.ref r) H') E) :
    wpAny (model X.prog X.w) A (call (.ref f) [.ref a, .ref b]) (PySem.W.CmpBack (EP X pins σ Q)) X.xe s := by
  have e0 : Env0 X.prog X.w X.K X.mg X.base A X.stack s H := by
    have e := I.env0
    exact ⟨by rw [hA]; exact e.frames, e.mod, e.bs, e.bsz, e.funs, e.frf, e.hok, e.bare⟩
  have hl := F.len _ _ _ _ hsp
  have r2 : Vals [V.ref a, V.ref b] [Value.ref a, Value.ref b] := .cons rfl (.cons rfl .nil)
  refine wpAny_call (codeAny_mono (F.run A X.stack s H ⟨[.ref a, .ref b], []⟩ [.ref a, .ref b] [.ref a, .ref b] _ E hr e0 (by
    have := hb s [.ref a, .ref b] I.kIn (by simpa using hl)
    simpa using this) r2 hsp) fun r s' hq => ?_)
  cases r with
  | error e => exact hx pins σ H s e s' I hq
  | ok fl =>
    cases fl with
    | ret w =>
      obtain ⟨z, H', I', rz, r, ez, q⟩ := I.after hq
      subst ez
      cases rz
      exact ⟨.ref r, H', I', rfl, q⟩
    | next => exact False.elim hq
    | brk => exact False.elim hq
    | cont => exact False.elim hq
/-- what an operator wants to know of the class -/
structure BinOwn (K : PySem.W.Frag) (C f : Addr) (op : Operator) : Prop where
  sf : PySem.W.selfFirst K C = true
  at_ : PySem.W.findIn K (.ref C) (PySem.dunder op.info.snd) = some (some (.ref f))
  fn : PySem.W.isFn K (.ref f) = true
theorem op_ownB {op : Operator} (F : FnOk X.prog X.w X.K X.mg X.base CX0 k f fd ps sp) (hr : Room k X.A) (N : BinOwn X.K C f op) (hb : Binds X.K fd ps []) (hx : Passes CX0 X E) :
    OpR X (binaryOp op) (rOwnB C sp E) := by
  intro pins s σ H x y v u Q I rx ry hq
  obtain ⟨a, b, dx, dy, fs, gs, rfl, rfl, ha, hb', hsp⟩ := hq
  cases rx
  cases ry
  obtain ⟨mA, J, _⟩ := ins_get I.hok ha
  obtain ⟨mB, J', _⟩ := ins_get I.hok hb'
  obtain ⟨od, J, _⟩ := J.look
  obtain ⟨od', J', _⟩ := J'.look
  obtain ⟨m, hF⟩ := I.fr
  exact PySem.W.binop_K (op := op) hF I.ok.mod.kin J J'.type N.sf N.at_ N.fn (run_ownB rfl hr F hb hx I hsp)
end
end EL
/-! [e for a in xs for b in ys]: both walks by what holds between turns. -/
namespace EL
open PySem PySem.Spec PyProof.Rows L2
#print L2.Walk
theorem it_gen {J : It} {n : Nat} {G : Hp → Prop} {Y : Nat → Hp → V → Hp → Prop} (w : Walk J n G Y) {H0 : Hp} {Qd : Hp → Prop} {B : V → Hp → (Hp → Prop) → Prop} (Pv : Nat → Hp → Prop) (h0 : Pv 0 H0) (hG : ∀ i H, i ≤ n → Pv i H → G H)
    (hs : ∀ i x H H', i < n → Pv i H → Y i H x H' → B x H' (Pv (i + 1))) (hd : ∀ H, Pv n H → Qd H) :
    ∃ W : Nat → Nat → Hp → Prop, (∃ m, W 0 m H0) ∧ ∀ i m H, W i m H → (J.stop i H ∧ Qd H) ∨ (J.go i H ∧ ∃ Nx : Hp → Prop, (∀ H', Nx H' → ∃ m', m' < m ∧ W (i + 1) m' H') ∧ ∀ x H', J.yld i H x H' → B x H' Nx) := by
  refine ⟨fun i m H => i ≤ n ∧ m = n - i ∧ Pv i H, ⟨n, Nat.zero_le _, rfl, h0⟩, fun i m H ⟨hi, hm, hp⟩ => ?_⟩
  by_cases e : i = n
  · subst e; exact .inl ⟨w.stops H (hG _ _ hi hp), hd H hp⟩
  · refine .inr ⟨w.goes i H (by omega) (hG _ _ hi hp), Pv (i + 1), fun H' h => ⟨n - (i + 1), by omega, by omega, rfl, h⟩, fun x H' y => hs i x H H' (by omega) hp (w.yields i H x H' (by omega) (hG _ _ hi hp) y)⟩
end EL
/-! f-strings by a name of their own, so that a comprehension's element may be one. -/
namespace EL
open PySem PySem.Spec PyProof.Rows L2
def tJd (ts : List TE) : TE := fun σ H Q => tJs ts Str.empty σ H fun out H1 => Q (V.str out) H1
theorem pe_joinedD {X : Cx} {v1 v2 : Expr} {rest : List Expr} {ts : List TE} {pos : Pos} (h : PJ X (v1 :: v2 :: rest) ts) : PE X (.JoinedStr (v1 :: v2 :: rest) pos) (tJd ts) := pe_joined h
end EL
/-! enumerate(tuple). -/
namespace EL
open PySem PySem.Spec PyProof.Rows L2
/-- the tuple at a, each item in a new pair with its number -/
def IteT (K : PySem.W.Frag) (a : Addr) : It :=
  ⟨fun i G => ∃ (ys : List V) (y : V), SqT K G a ys ∧ ys[i]? = some y,
   fun i G v G' => ∃ pr y, v = .ref pr ∧ G pr = none ∧ G' = upd G pr (.tup [.int (i : Nat), y]) ∧ ∀ ys, SqT K G a ys → ys[i]? = some y,
   fun i G => ∃ ys : List V, SqT K G a ys ∧ ys.length = i⟩
theorem tup_ne_iter {h : Heap} {a it : Addr} {i : Nat} {items : Array Value} (x : h.IsTupleIter it a i) (y : h.IsTuple a items) : a ≠ it := by
  obtain ⟨o, ho, _, hd⟩ := x
  obtain ⟨u, hu, _, _, hd'⟩ := y
  intro z
  rw [z, ho] at hu
  cases hu
  rw [hd] at hd'
  cases hd'
theorem turn_enumT {P : Program} {w : World} {K : PySem.W.Frag} {elts : List Expr} {kk : Nat} {tpos : Pos} (a en it : Addr) :
    Turn P w K (.Tuple elts kk tpos) (IteT K a) [en, it] en (fun i h => (∃ last, IsEnum h en it ((i : Nat) : Int) last) ∧ h.IsTupleIter it a i ∧ en ≠ it) where
  mem := by simp
  obj := fun i h sx b hb => by
    obtain ⟨⟨last, hE⟩, ⟨o, ho, hc, hd⟩, _⟩ := sx
    rcases (show b = en ∨ b = it by simpa using hb) with z | z
    · rw [z]; exact ⟨_, hE, fun v q => nomatch q⟩
    · rw [z]; exact ⟨o, ho, fun v q => by rw [hd] at q; cases q⟩
  keep := fun i h h' sx k => let ⟨⟨last, hE⟩, hI, hN⟩ := sx; ⟨⟨last, k en (by simp) _ hE⟩, hI.at fun o q => k it (by simp) o q, hN⟩
  item := by
    intro X hP hw hK hc i pins s σ H E I hf sx hg
    subst hP hw hK
    obtain ⟨⟨last, hE⟩, hI, hN⟩ := sx
    obtain ⟨ys, y, hq, hy⟩ := hg
    obtain ⟨its, rv, p, hz⟩ := I.tuple hq
    obtain ⟨u, hu, ru⟩ := rv.get hy
    have isT : s.heap.IsTuple a its.toArray := p
    have ltE : en < s.heap.objs.size := Heap.lt_size hE
    have ltI : it < s.heap.objs.size := by obtain ⟨_, q, _⟩ := hI; exact Heap.lt_size q
    have nai := tup_ne_iter hI isT
    have nea : en ≠ a := fun z => by
      obtain ⟨o, ho, _, _, hd⟩ := isT
      rw [← z, hE] at ho; cases ho; cases hd
    have ilt : i < its.toArray.size := by
      have := (List.getElem?_eq_some_iff.mp hu).1
      simpa using this
    refine wpAny_pyNext_enum_itemD (Draws.tuple (show X.A.in1.handled = none from I.ok.hd hc) it a nai its.toArray) hE ⟨hI, isT⟩ ilt hN (by simp [hN, nea]) fun x h1 tk hx out st1 tup1 sz1 kp => ?_
    have hx2 : x = u := by
      have : its.toArray[i]? = some x := hx
      rw [show its.toArray[i]? = some u by simpa using hu] at this
      exact (Option.some.inj this).symm
    subst hx2
    refine ⟨_, rfl, wpAny_letOwnedTupleGo_enum (s := { s with heap := h1, toks := tk + 1 }) out fun h2 hE2 same2 => ?_⟩
    have tup2 : h2.get? s.heap.objs.size = some { cls := .type "tuple", data := .seq #[.int i tk, x] } := (same2.2 _ (Nat.ne_of_gt ltE)).trans tup1
    have okN : ObjOk X.prog X.w (upd H s.heap.objs.size (.tup [.int (i : Nat), y])) h2 s.heap.objs.size (.tup [.int (i : Nat), y]) :=
      ⟨by show 2 ≤ sizeLine; decide, [.int i tk, x], .cons ⟨_, rfl⟩ (.cons ru .nil), ⟨_, tup2, rfl, _, rfl⟩⟩
    have I2 : Inv X pins σ (upd H s.heap.objs.size (.tup [.int (i : Nat), y])) { s with heap := h2, toks := tk + 1 } :=
      I.turnedNew (ch := [en, it]) (fun b ob hb q => (same2.2 b (fun z => hb (by simp [z]))).trans (kp b ob (fun z => hb (by simp [z])) (fun z => hb (by simp [z])) q)) hf (Nat.le_refl _) okN
    refine ⟨.ref s.heap.objs.size, _, I2, rfl, ⟨_, y, rfl, I.hok.fresh (Nat.le_refl _), rfl, fun zs hy2 => by rw [I.tuple_inj hy2 hq]; exact hy⟩, ⟨⟨x, ?_⟩, st1.1.at fun o q => (same2.2 it (Ne.symm hN)).trans q, hN⟩, fun b hb => ?_⟩
    · rw [show ((i + 1 : Nat) : Int) = (i : Int) + 1 by omega]; exact hE2
    · have : b < s.heap.objs.size := by
        rcases (show b = en ∨ b = it by simpa using hb) with z | z
        · rw [z]; exact ltE
        · rw [z]; exact ltI
      rw [upd_ne (Nat.ne_of_lt this)]
      exact (hf b hb).1
  done := by
    intro X hP hw hK hc i pins s σ H E I hf sx hg
    subst hP hw hK
    obtain ⟨⟨last, hE⟩, hI, hN⟩ := sx
    obtain ⟨ys, hq, hy⟩ := hg
    obtain ⟨its, rv, p, hz⟩ := I.tuple hq
    have isT : s.heap.IsTuple a its.toArray := p
    obtain ⟨f0, f1, f2, f3, f4, f5⟩ := hf it (by simp)
    have hl := rv.length
    have nai := tup_ne_iter hI isT
    have en0 : i = its.toArray.size := by
      have e1 : its.length = ys.length := hl.symm
      simp only [List.size_toArray]; omega
    subst en0
    exact wpAny_pyNext_enum_endD (Draws.tuple (show X.A.in1.handled = none from I.ok.hd hc) it a nai its.toArray) hE ⟨hI, isT⟩ fun h1 eb => ⟨rfl, I.turned (t' := s.toks) (fun b o hb q => eb b o hb q) f0 f1 f3 f4 f5⟩
  self := fun A i s Q E sx h => let ⟨⟨_, hE⟩, _⟩ := sx; wpAny_pyIter_enum hE h
theorem walk_enumT {K : PySem.W.Frag} {a : Addr} {ys : List V} : Walk (IteT K a) ys.length (fun G => SqT K G a ys) (YPair (fun i => some (.int (i : Nat))) (fun i => ys[i]?)) := by
  refine ⟨fun i G hi q => ⟨ys, ys[i], q, List.getElem?_eq_getElem hi⟩, fun _ q => ⟨ys, q, rfl⟩, fun i G v G' hi q x => ?_⟩
  obtain ⟨pr, y, h1, h2, h3, h4⟩ := x
  exact ⟨pr, .int (i : Nat), y, h1, h2, h3, rfl, h4 ys q⟩
theorem meets_enum_tup (a : Addr) (items : Array Value) (n : Nat) (dct : Option Addr) (sl : Array (Option Value)) :
    Meets (Builtin.«enumerate.__new__» ⟨[.type "enumerate", .ref a], []⟩) (fun _ R s => s.heap.get? a = some { cls := .type "tuple", dict := dct, data := .seq items n, slots := sl } ∧
      R (.ok (.ret (.ref (s.heap.push { cls := .type "tuple_iterator", data := .fields #[.ref a, .int 0 0] }).objs.size)))
        { s with heap := (s.heap.push { cls := .type "tuple_iterator", data := .fields #[.ref a, .int 0 0] }).push { cls := .type "enumerate", data := .fields #[.none, .bool false, .ref s.heap.objs.size, rawInt 0, .none, .none] } }) :=
  .of_wp fun prog w A R s h => by
    obtain ⟨hp, g, d, tk, os⟩ := s; obtain ⟨hl, h⟩ := h
    have sub1 := sub_enumerate
    have isT : Heap.IsTuple (Shared.heap ⟨hp, g, d, tk, os⟩) a items := ⟨_, hl, rfl, n, rfl⟩
    wp_walk using wpAny_loadPart' hl
    refine wpAny_stack_any fun st => wpAny_pure ?_
    split
    · rename_i c _ _ _ _ _
      cases (c == Value.type "enumerate")
      · (wp_walk using wpAny_loadPart' hl, wpAny_pyIter_tuple isT); exact ⟨_, rfl, h⟩
      · (wp_walk using wpAny_loadPart' hl, wpAny_pyIter_tuple isT); exact ⟨_, rfl, h⟩
    · (wp_walk using wpAny_loadPart' hl, wpAny_pyIter_tuple isT); exact ⟨_, rfl, h⟩
theorem call_enum_tup {prog : Program} {w : World} {A : Around} {E : Value → Shared → Prop} {s : Shared} {a : Addr} {items : Array Value} {Q : Value → Shared → Prop} (hT : s.heap.IsTuple a items)
    (h : ∀ h1, IsEnum h1 (s.heap.objs.size + 1) s.heap.objs.size 0 .none → h1.IsTupleIter s.heap.objs.size a 0 → (∀ b o, s.heap.get? b = some o → h1.get? b = some o) → Q (.ref (s.heap.objs.size + 1)) { s with heap := h1 }) :
    wpAny (model prog w) A (call (.type "enumerate") [.ref a]) Q E s := by
  obtain ⟨⟨c, dct, dt, sl⟩, hl, hc, n, hd⟩ := hT
  replace hc : c = .type "tuple" := hc
  replace hd : dt = .seq items n := hd
  subst hc hd
  refine callType_new F.called_enumerate (by decide) (F.typeCall_enumerate_1 _) (F.newCall_enumerate_1 _) (fun obj => F.args_object_init_2 obj _) F.entry_enumerate_new (meets_enum_tup a items n dct sl) ⟨hl, ?_⟩
  have sz : (s.heap.push { cls := .type "tuple_iterator", data := .fields #[.ref a, .int 0 0] }).objs.size = s.heap.objs.size + 1 := Heap.size_push ..
  show _ ∧ _
  rw [sz]
  have hE : IsEnum ((s.heap.push { cls := .type "tuple_iterator", data := .fields #[.ref a, .int 0 0] }).push { cls := .type "enumerate", data := .fields #[.none, .bool false, .ref s.heap.objs.size, rawInt 0, .none, .none] }) (s.heap.objs.size + 1) s.heap.objs.size 0 .none := by
    have := Heap.get?_push_size (s.heap.push { cls := .type "tuple_iterator", data := .fields #[.ref a, .int 0 0] }) (o := { cls := .type "enumerate", data := .fields #[.none, .bool false, .ref s.heap.objs.size, rawInt 0, .none, .none] }) rfl
    rw [sz] at this; exact this
  exact ⟨⟨_, hE, rfl⟩, h _ hE ⟨_, Heap.get?_push_of_some _ (Heap.get?_push_size _ rfl), rfl, rfl⟩ fun b o x => Heap.get?_push_of_some _ (Heap.get?_push_of_some _ x)⟩
def iEnumT (K : PySem.W.Frag) (ta : TA) : TI := fun σ H R => ta σ H fun vs H1 => ∃ a ys, vs = [.ref a] ∧ SqT K H1 a ys ∧ R (IteT K a) H1
theorem pi_enumT {X : Cx} {e : Expr} {ta : TA} {p pos tpos : Pos} {elts : List Expr} {kk : Nat} (hg : Gl X "enumerate") (hm : X.mg "enumerate" = none) (ha : PA X [e] ta) (hs : starEach [e] X.env = [(false, eval e X.env)] := by rfl) :
    PI X (.Tuple elts kk tpos) (.Call (.Name "enumerate" p) [e] [] pos) (iEnumT X.K ta) := by
  refine ⟨fun pins s σ H R I h => ?_⟩
  refine Call_ (ld_blt I hg hm boot_enumerate (PyProof.Rows.callWith_type1 (thn (ha.run pos pins s σ H _ I h) fun us s1 ⟨vs, G1, I1, r1, a, ys, ex, hq, q⟩ => ?_) hs rfl))
  subst ex
  cases r1 with
  | cons r rr =>
    cases rr
    cases r
    obtain ⟨its, rv, p', hz⟩ := I1.tuple hq
    refine call_enum_tup (show s1.heap.IsTuple a its.toArray from p') fun h1 hE hI kp => wpAny_pyIter_enum hE ?_
    have I2 : Inv X pins σ G1 { s1 with heap := h1 } := I1.kept (t' := s1.toks) kp
    refine ⟨s1.heap.objs.size + 1, [s1.heap.objs.size + 1, s1.heap.objs.size], _, _, G1, rfl, I2, turn_enumT a (s1.heap.objs.size + 1) s1.heap.objs.size, ⟨⟨.none, hE⟩, hI, Nat.succ_ne_self _⟩, fun b hb => ?_, q⟩
    have le1 : s1.heap.objs.size ≤ b := by
      rcases (show b = s1.heap.objs.size + 1 ∨ b = s1.heap.objs.size by simpa using hb) with z | z <;> rw [z] <;> omega
    exact I1.fpOk le1 (I1.hok.fresh le1)
end EL
namespace KP
open PySem PySem.Spec PyProof.Rows L2 EL
open Evl (pss_cut)
abbrev sGainOf : Stmt := topS 35
theorem scGainOf : FnScope ["move"] ["move"] (defScope sGainOf) := ⟨rfl, rfl, rfl, by decide +kernel, rfl, by decide +kernel, by decide +kernel⟩
abbrev sUsefulMoves : Stmt := topS 36
theorem scUsefulMoves : FnScope ["pacer", "leaving", "index", "move", "state"] ["pacer"] (defScope sUsefulMoves) := ⟨rfl, rfl, rfl, by decide +kernel, rfl, by decide +kernel, by decide +kernel⟩
def Mv.gain (m : Mv) : Int := (m.l.length : Int) - (m.r.length : Int)
def spGain (K : PySem.W.Frag) : Sp := fun vs H Q _ => ∃ (v : V) (m : Mv), vs = [v] ∧ Dq K H v (mvD m) ∧ m.l.length ≤ 1000 ∧ m.r.length ≤ 1000 ∧ Q (.int m.gain) H
abbrev lvD (e : Nat × Int × Nat) : PyData := .tuple [.int (e.1 : Int), .int e.2.1, .int (e.2.2 : Int)]
/-- the moves, up to some index, that leave a useful state for a useful one -/
def leavF (pl : Plan) (us : List Nat) (s i : Nat) : Option (Nat × Int × Nat) := match pl.ways[i]? with
  | some m => if m.s = s ∧ s ∈ us ∧ m.t ∈ us then some (i, m.gain, m.t) else none
  | none => none
def leavN (pl : Plan) (us : List Nat) (s k : Nat) : List (Nat × Int × Nat) := (List.range k).filterMap (leavF pl us s)
theorem leavN_succ (pl : Plan) (us : List Nat) (s k : Nat) : leavN pl us s (k + 1) = leavN pl us s k ++ (leavF pl us s k).toList := by
  unfold leavN
  rw [List.range_succ, List.filterMap_append]
  cases h : leavF pl us s k with
  | none => simp [h]
  | some v => simp [h]
def leavL (pl : Plan) (us : List Nat) (s : Nat) : List (Nat × Int × Nat) := leavN pl us s pl.ways.length
theorem mem_leav {pl : Plan} {us : List Nat} {s : Nat} {e : Nat × Int × Nat} : e ∈ leavL pl us s ↔ ∃ m, pl.ways[e.1]? = some m ∧ m.s = s ∧ s ∈ us ∧ m.t ∈ us ∧ e.2.1 = m.gain ∧ e.2.2 = m.t := by
  unfold leavL leavN
  rw [List.mem_filterMap]
  constructor
  · rintro ⟨i, hi, h⟩
    unfold leavF at h
    split at h
    · rename_i m hm
      split at h
      · rename_i q; cases h; exact ⟨m, hm, q.1, q.2.1, q.2.2, rfl, rfl⟩
      · cases h
    · cases h
  · rintro ⟨m, hm, h1, h2, h3, h4, h5⟩
    refine ⟨e.1, List.mem_range.mpr (List.getElem?_eq_some_iff.mp hm).1, ?_⟩
    unfold leavF
    rw [hm]
    dsimp only
    rw [if_pos ⟨h1, h2, h3⟩, ← h4, ← h5]
abbrev leavV (us : List Nat) (ad : Nat → Addr) : List (L2.Key × V) := us.map fun (s : Nat) => ((.inl (s : Int) : L2.Key), V.ref (ad s))
theorem leav_get (us : List Nat) (ad : Nat → Addr) (t : Nat) : valV (leavV us ad) (.inl (t : Int)) = if t ∈ us then some (.ref (ad t)) else none := by
  induction us with
  | nil => simp [leavV, valV]
  | cons s r ih =>
    by_cases h : s = t
    · subst h
      simp [leavV, valV]
    · have h2 : ¬ ((s : Int) = (t : Int)) := fun z => h (by omega)
      have h3 : ¬ t = s := fun z => h z.symm
      simp only [leavV, valV] at ih ⊢
      rw [List.map_cons, List.find?_cons_of_neg (by simp [h2])]
      rw [ih]
      simp [h3]
theorem leav_get_pos {us : List Nat} {ad : Nat → Addr} {t : Nat} (h : t ∈ us) : valV (leavV us ad) (.inl (t : Int)) = some (.ref (ad t)) := by rw [leav_get, if_pos h]
structure LeavAt (K : PySem.W.Frag) (H : Hp) (d : Addr) (pl : Plan) (us : List Nat) : Prop where
  at' : ∃ ad : Nat → Addr, H d = some (.dK (leavV us ad)) ∧ ∀ s ∈ us, ∃ vs, H (ad s) = some (.lst vs) ∧ DqAll K H vs ((leavL pl us s).map lvD)
theorem LeavAt.up {K : PySem.W.Frag} {H H' : Hp} {d : Addr} {pl : Plan} {us : List Nat} (h : LeavAt K H d pl us) (s : Same H H') : LeavAt K H' d pl us := by
  obtain ⟨ad, h1, h2⟩ := h.at'
  exact ⟨ad, s _ _ h1, fun t ht => by obtain ⟨vs, h3, h4⟩ := h2 t ht; exact ⟨vs, s _ _ h3, h4.up s⟩⟩
theorem asc_nodup {ns : List Nat} (h : ns.Pairwise (· < ·)) : ns.Nodup := h.imp fun h => by omega
theorem take_notin {ns : List Nat} {i s : Nat} (h : ns.Nodup) (e : ns[i]? = some s) : s ∉ ns.take i := by
  intro hm
  obtain ⟨j, hj, e2⟩ := List.mem_take_iff_getElem.mp hm
  have hi := (List.getElem?_eq_some_iff.mp e).1
  have e3 := (List.getElem?_eq_some_iff.mp e).2
  have := (List.getElem_inj (h₀ := by omega) (h₁ := hi) h).mp (e2.trans e3.symm)
  omega
theorem take_more {α : Type} {l : List α} {i : Nat} {x : α} (h : l[i]? = some x) : l.take (i + 1) = l.take i ++ [x] := by
  rw [List.take_add_one, h]; rfl
theorem mvs_noLDs : ∀ ms : List Mv, noLDs (ms.map mvD) = true
  | [] => rfl
  | m :: r => by rw [List.map_cons, noLDs, mvs_noLDs r]; rfl
theorem lv_noLD : ∀ es : List (Nat × Int × Nat), noLDs (es.map lvD) = true
  | [] => rfl
  | e :: r => by rw [List.map_cons, noLDs, lv_noLD r]; rfl
theorem useful_lt {pl : Plan} {us : List Nat} {a b c : Nat} (hO : pl.Ok a b c) (U : UsefulL pl us) : ∀ s ∈ us, s < pl.wide := fun s hs => by
  have h := ((U.me s).mp hs).1
  cases h with
  | base h => exact hO.i.2 s h
  | step _ h =>
    obtain ⟨m, hm, e⟩ := List.mem_map.mp h
    have := (hO.m m hm).2.1
    cases e
    exact this
def spUsefulMoves (K : PySem.W.Frag) (C : Addr) : Sp := fun vs H Q _ => ∃ (p : Addr) (pl : Plan) (top many long : Nat), vs = [.ref p] ∧ PacAt K C H p pl ∧ pl.Ok top many long ∧ top ≤ 50 ∧ many ≤ 50 ∧ long ≤ 50 ∧
  ∀ d H' us, Same H H' → H d = none → UsefulL pl us → LeavAt K H' d pl us → Q (.ref d) H'
section
variable {P : Program} {w : World} {K : PySem.W.Frag} {mg : Str → Option Value} {base : Heap}
theorem ok_GainOf {f : Addr} {fd : FuncData} {k : Nat} (F : Fun K "gain_of" "gain_of" sGainOf f fd) (nlen : mg "len" = none) : FnOk P w K mg base CX0 (k + 1) f fd ["move"] (spGain K) := by
  refine F.ok scGainOf (fun vs H Q E h => ?_) (fun cdv A outer s H vs Q E hr h => ?_)
  · obtain ⟨v, m, rfl, _⟩ := h; rfl
  · obtain ⟨v, m, rfl, hd, h1, h2, kQ⟩ := h
    refine ⟨_, (pss_one (ps_ret (pe_op op_sub (pe_callB (show CallR _ _ (rLenK K) from call_len) (by rfl) nlen (by decide +kernel) (pa_cons (pe_ix (show IxR _ (rIxT K) from ix_tup) (pv 0) pe_int (fun _ _ => rfl)) pa_nil)) (pe_callB (show CallR _ _ (rLenK K) from call_len) (by rfl) nlen (by decide +kernel) (pa_cons (pe_ix (show IxR _ (rIxT K) from ix_tup) (pv 0) pe_int (fun _ _ => rfl)) pa_nil))))), ?_⟩
    obtain ⟨e, rfl, hab⟩ := dq_mv hd
    have z1 : (⟨m.l.toArray⟩ : Str).length = m.l.length := by rw [str_len]
    have z2 : (⟨m.r.toArray⟩ : Str).length = m.r.length := by rw [str_len]
    refine ⟨_, rfl, e, _, 1, _, rfl, rfl, hab, atI_nat (j := 1) rfl, _, _, rfl, ⟨len_sz (by omega), rfl⟩, _, rfl, e, _, 2, _, rfl, rfl, hab, atI_nat (j := 2) rfl, _, _, rfl, ⟨len_sz (by omega), rfl⟩, _, _, rfl, rfl, ?_⟩
    rw [z1, z2]
    exact kQ
theorem ok_UsefulMoves {f C : Addr} {fd : FuncData} {k : Nat} (F : Fun K "useful_moves" "useful_moves" sUsefulMoves f fd) (T : PTxt K C) (nenumerate : mg "enumerate" = none) (CUseful : Cal P w K mg base k "useful" ["pacer"] (spUseful K C)) (CGainOf : Cal P w K mg base k "gain_of" ["move"] (spGain K)) : FnOk P w K mg base CX0 (k + 1) f fd ["pacer"] (spUsefulMoves K C) := by
  refine F.ok scUsefulMoves (fun vs H Q E h => ?_) (fun cdv A outer s H vs Q E hr h => ?_)
  · obtain ⟨p, pl, top, many, long, rfl, _⟩ := h; rfl
  · obtain ⟨p, pl, top, many, long, rfl, hP, hO, t1, t2, t3, kQ⟩ := h
    have hu := hr.units
    have hu1 : (A.deeper (envOfC "useful_moves" (defScope sUsefulMoves) s.heap.objs.size f cdv)).units + 1 < cLine := by omega
    refine ⟨_, (pss_cons (ps_setDc (i := 1) (own := [("state", 4)]) (g := (gName 4)) (by rfl) scUsefulMoves.nd rfl rfl (swd_true rfl rfl rfl (by decide +kernel)) (pi_tup (pe_cal CUseful hr (by rfl) pass0 (pa_cons (pv 0) pa_nil))) (blkOk_by (own := [("state", 4)]) (N := ["pacer", "leaving", "index", "move", "state"]) (sc := defScope sUsefulMoves) (by decide +kernel)) (fun _ _ _ _ _ => (pg_name (i := 4) scUsefulMoves.nd rfl (by first | exact Or.inl rfl | exact Or.inr rfl))) (fun _ _ _ _ _ => pts_nil) (fun _ _ _ _ _ => (pv 4)) (fun _ _ _ _ _ => (pe_lst pa_nil)))
      (pss_cons (ps_for PassesOwn.never rfl (pi_enumT (by rfl) nenumerate (pa_cons (pe_fld (pv 0) rfl) pa_nil)) (pg_tup (by rfl) (pgs_cons (pg_name (i := 2) scUsefulMoves.nd rfl (by first | exact Or.inl rfl | exact Or.inr rfl)) (pgs_cons (pg_name (i := 3) scUsefulMoves.nd rfl (by first | exact Or.inl rfl | exact Or.inr rfl)) pgs_nil))) (pss_one (ps_if (PW.pt (pw_and (pt_cmp (pc_din hu1 (pe_ix (show IxR _ (rIxT K) from ix_tup) (pv 3) pe_int (fun _ _ => rfl)) (pv 1))) (pw_and1 (pt_cmp (pc_din hu1 (pe_ix (show IxR _ (rIxT K) from ix_tup) (pv 3) pe_int (fun _ _ => rfl)) (pv 1)))))) (pss_one (ps_expr (pe_bm PySem.F.plainAttrs_list PySem.F.slot_list_append PySem.F.type_list_append mt_append (pe_dget hu1 (pv 1) (pe_ix (show IxR _ (rIxT K) from ix_tup) (pv 3) pe_int (fun _ _ => rfl)) (fun _ _ => rfl)) (pa_cons (pe_tup (pa_cons (pv 2) (pa_cons (pe_cal CGainOf hr (by rfl) pass0 (pa_cons (pv 3) pa_nil)) (pa_cons (pe_ix (show IxR _ (rIxT K) from ix_tup) (pv 3) pe_int (fun _ _ => rfl)) pa_nil)))) pa_nil)))) pss_nil)))
      (pss_one (ps_ret (pv 1))))), ?_⟩
    refine ⟨_, rfl, p, pl, top, many, long, rfl, hP, hO, t1, t2, t3, fun v H1 us s1 dv U => ?_⟩
    obtain ⟨a, xs, rfl, hxs, hxa⟩ : ∃ a xs, v = .ref a ∧ SqT K H1 a xs ∧ DqAll K H1 xs (nats us) := by
      cases dv with | tup hs ha => exact ⟨_, _, rfl, hs, ha⟩
    obtain rfl := dqAll_nats hxa
    have nd := asc_nodup U.as
    have ul : us.length ≤ 50 := by
      have := useful_lt hO U
      have := asc_len (n := pl.wide) ⟨U.as, this⟩
      have := hO.w2
      omega
    refine ⟨a, rfl, ⟨_, hxs⟩, fun D nD => ?_⟩
    refine dc_it walk_tup (fun i H' => ∃ ad : Nat → Addr, H' D = some (.dK (leavV (us.take i) ad)) ∧ (∀ s ∈ us.take i, H' (ad s) = some (.lst []) ∧ H1 (ad s) = none) ∧ (∀ s ∈ us.take i, ∀ t ∈ us.take i, ad s = ad t → s = t) ∧ Same H1 H') ⟨fun _ => 0, by rw [upd_same]; rfl, fun _ h => by simp at h, fun _ h => by simp at h, same_upd nD⟩ (fun i H' _ z => by obtain ⟨_, _, _, _, sm⟩ := z; exact ex_t' sm hxs) ?_ ?_
    · rintro i v H9 H2 hi ⟨ad, gD, hl, inj, sm⟩ ⟨rfl, hv⟩
      obtain ⟨s0, hs0, rfl⟩ : ∃ b, us[i]? = some b ∧ v = .int (b : Int) := by
        rw [List.getElem?_map] at hv
        cases e : us[i]? with
        | none => rw [e] at hv; cases hv
        | some b => rw [e] at hv; exact ⟨b, rfl, (Option.some.inj hv).symm⟩
      have hni := take_notin nd hs0
      refine ⟨rfl, ?_⟩
      dsimp only [tYes]
      refine iteT ⟨_, rfl, by show 0 ≤ sizeLine; decide, fun l nl => ?_⟩
      have lD : l ≠ D := fun e => by rw [e, gD] at nl; cases nl
      refine ⟨_, .inl (s0 : Int), rfl, by rw [upd_ne lD.symm]; exact gD, lt_sz (by rw [List.length_map, List.length_take]; omega), ?_⟩
      have tk := take_more hs0
      refine ⟨fun t => if t = s0 then l else ad t, ?_, ?_, ?_, fun b o e => by rw [upd_ne (ne_of_none e nD), upd_ne (ne_of_none (sm _ _ e) nl)]; exact sm _ _ e⟩
      · rw [upd_same, putK_new _ (by rw [leav_get, if_neg hni]), tk]
        simp only [leavV, List.map_append, List.map_cons, List.map_nil, if_true]
        congr 3
        refine List.map_congr_left fun t ht => ?_
        rw [if_neg (fun (e : t = s0) => hni (e ▸ ht))]
      · intro t ht
        rw [tk] at ht
        rcases List.mem_append.mp ht with z | z
        · have : t ≠ s0 := fun e => hni (e ▸ z)
          simp only [this, if_false]
          obtain ⟨q1, q2⟩ := hl t z
          exact ⟨by rw [upd_ne (fun e => by rw [e, gD] at q1; cases q1), upd_ne (ne_of_none q1 nl)]; exact q1, q2⟩
        · rw [List.mem_singleton.mp z]
          simp only [if_true]
          exact ⟨by rw [upd_ne lD]; exact upd_same, sm.free nl⟩
      · intro t ht u hu
        rw [tk] at ht hu
        have old : ∀ x ∈ us.take i, ad x ≠ l := fun x hx e => by
          have := (hl x hx).1; rw [e] at this; rw [this] at nl; cases nl
        show (if t = s0 then l else ad t) = (if u = s0 then l else ad u) → t = u
        rcases List.mem_append.mp ht with z | z <;> rcases List.mem_append.mp hu with y | y
        · rw [if_neg (fun (e : t = s0) => hni (e ▸ z)), if_neg (fun (e : u = s0) => hni (e ▸ y))]; exact inj t z u y
        · rw [List.mem_singleton.mp y, if_pos rfl, if_neg (fun (e : t = s0) => hni (e ▸ z))]; exact fun e => absurd e (old t z)
        · rw [List.mem_singleton.mp z, if_pos rfl, if_neg (fun (e : u = s0) => hni (e ▸ y))]; exact fun e => absurd e.symm (old u y)
        · rw [List.mem_singleton.mp z, List.mem_singleton.mp y]; exact fun _ => rfl
    rintro H2 ⟨ad, gD, hl, inj, s2⟩
    rw [List.length_map, List.take_length] at gD hl inj
    obtain ⟨dx, vb, vm, ve, e1, e2, e3, e4⟩ := (hP.up (s1.trans s2)).at'
    obtain ⟨ms, hms, hma⟩ : ∃ ms, SqT K H2 vm ms ∧ DqAll K H2 ms (pl.ways.map mvD) := by
      cases e3 with
      | tup hs ha => exact ⟨_, hs, ha⟩
    have hml : ms.length = pl.ways.length := by rw [hma.len, List.length_map]
    have hn := hO.n
    refine ⟨_, rfl, p, C, dx, _, _, rfl, e1, T.cl, T.nM, pf_m _ _ _ _, vm, ms, rfl, hms, ?_⟩
    have inv0 : ∀ s ∈ us, ∃ vs, H2 (ad s) = some (.lst vs) ∧ DqAll K H2 vs ((leavN pl us s 0).map lvD) := fun s hs => ⟨[], (hl s hs).1, .nil⟩
    have adD : ∀ s ∈ us, ad s ≠ D := fun s hs e => by
      have := (hl s hs).1; rw [e, gD] at this; cases this
    have nH : ∀ s ∈ us, H (ad s) = none := fun s hs => s1.free (hl s hs).2
    have nDH : H D = none := s1.free nD
    refine for_it walk_enumT (fun i σ H' => ∃ y2 y3 : Option V, σ = [some (.ref p), some (.ref D), y2, y3, none] ∧ H' D = some (.dK (leavV us ad)) ∧ (∀ s ∈ us, ∃ vs, H' (ad s) = some (.lst vs) ∧ vs.length ≤ i ∧ DqAll K H' vs ((leavN pl us s i).map lvD)) ∧ Same H H' ∧ SqT K H' vm ms ∧ DqAll K H' ms (pl.ways.map mvD))
      ⟨none, none, rfl, gD, fun s hs => by obtain ⟨vs, q1, q2⟩ := inv0 s hs; exact ⟨[], (hl s hs).1, Nat.le_refl _, .nil⟩, s1.trans s2, hms, hma⟩ (fun i H' σ _ z => by obtain ⟨_, _, _, _, _, _, z, _⟩ := z; exact z) ?_ ?_
    · rintro i v σ H9 H3 hi ⟨y2, y3, rfl, gD, hL, sH, hms, hma⟩ ⟨pr, iv, mv', rfl, npr, rfl, hiv, hmv'⟩
      cases hiv
      have s3 : Same H9 (upd H9 pr (.tup [.int (i : Nat), mv'])) := same_upd npr
      have g3 : upd H9 pr (.tup [.int (i : Nat), mv']) pr = some (.tup [.int (i : Nat), mv']) := upd_same
      generalize upd H9 pr (.tup [.int (i : Nat), mv']) = H4 at s3 g3 ⊢
      obtain ⟨d, hd, hdq⟩ := hma.at hmv'
      obtain ⟨mv, hmv, rfl⟩ := mv_get hd
      obtain ⟨e, rfl, hab⟩ := dq_mv (hdq.up s3)
      obtain ⟨m1, m2, m3, m4, -, -⟩ := hO.m mv (List.mem_of_getElem? hmv)
      have hi2 : i < pl.ways.length := (List.getElem?_eq_some_iff.mp hmv).1
      refine ⟨pr, _, rfl, stOf g3, rfl, _, _, rfl, _, _, rfl, rfl, ?_⟩
      have gD4 := s3 _ _ gD
      have keep : ∀ s ∈ us, leavF pl us s i = none → ∃ vs, H4 (ad s) = some (.lst vs) ∧ vs.length ≤ i + 1 ∧ DqAll K H4 vs ((leavN pl us s (i + 1)).map lvD) := fun s hs hf => by
        obtain ⟨vs, q1, q2, q3⟩ := hL s hs
        exact ⟨vs, s3 _ _ q1, by omega, by rw [leavN_succ, hf]; simpa using q3.up s3⟩
      refine ⟨.ref e, rfl, e, _, 0, _, rfl, rfl, hab, atI_nat (j := 0) rfl, .ref D, rfl, D, _, rfl, DGet.k (k := .inl (mv.s : Int)) gD4, _, rfl, ?_⟩
      rw [leav_get]
      by_cases hs : mv.s ∈ us
      · rw [if_pos hs]
        refine iteT ⟨.ref e, rfl, e, _, 3, _, rfl, rfl, hab, atI_nat (j := 3) rfl, .ref D, rfl, D, _, rfl, DGet.k (k := .inl (mv.t : Int)) gD4, _, rfl, ?_⟩
        rw [leav_get]
        by_cases ht : mv.t ∈ us
        · rw [if_pos ht]
          refine iteT ?_
          obtain ⟨vs, q1, q2, q3⟩ := hL mv.s hs
          have q1' := s3 _ _ q1
          have gg : DGet H4 D (kV (.inl (mv.s : Int))) (some (.ref (ad mv.s))) := by rw [← leav_get_pos (ad := ad) hs]; exact DGet.k gD4
          refine ⟨.ref D, rfl, .ref e, rfl, e, _, 0, _, rfl, rfl, hab, atI_nat (j := 0) rfl, D, .ref (ad mv.s), rfl, gg, .inl ⟨rfl, vs, sqOf q1'⟩, ?_⟩
          refine ⟨_, rfl, .ref e, rfl, .ref e, mv, rfl, (hdq.up s3), by omega, by omega, .ref e, rfl, e, _, 3, _, rfl, rfl, hab, atI_nat (j := 3) rfl, by show 3 ≤ sizeLine; decide, fun tp ntp => ?_⟩
          have s4 : Same H4 (upd H4 tp (.tup [.int (i : Int), .int mv.gain, .int (mv.t : Int)])) := same_upd ntp
          have g4 : upd H4 tp (.tup [.int (i : Int), .int mv.gain, .int (mv.t : Int)]) tp = some (.tup [.int (i : Int), .int mv.gain, .int (mv.t : Int)]) := upd_same
          generalize upd H4 tp (.tup [.int (i : Int), .int mv.gain, .int (mv.t : Int)]) = H5 at s4 g4 ⊢
          have q5 := s4 _ _ q1'
          refine ⟨ad mv.s, vs, _, rfl, rfl, q5, lt_sz (by omega), ?_⟩
          have kp : KpT H5 (upd H5 (ad mv.s) (.lst (vs ++ [.ref tp]))) := KpT.lst q5
          have s34 := s3.trans s4
          have fe : leavF pl us mv.s i = some (i, mv.gain, mv.t) := by unfold leavF; rw [hmv]; dsimp only; rw [if_pos ⟨rfl, hs, ht⟩]
          refine ⟨_, _, rfl, by rw [upd_ne (adD mv.s hs).symm]; exact s4 _ _ gD4, fun s hs' => ?_, fun b o x => by rw [upd_ne (ne_of_none x (nH mv.s hs))]; exact s34 _ _ (sH _ _ x), sqT_kpt kp (ex_t' s34 hms), dqAll_kpt kp _ _ (hma.up s34) (mvs_noLDs _)⟩
          by_cases hss : s = mv.s
          · subst hss
            refine ⟨_, upd_same, by rw [List.length_append]; show _ + 1 ≤ _; omega, ?_⟩
            rw [leavN_succ, fe, Option.toList_some, List.map_append]
            exact (dqAll_kpt kp _ _ (q3.up s34) (lv_noLD _)).app (.cons (dq_kpt kp _ _ (.tup (stOf g4) (.cons (.int _) (.cons (.int _) (.cons (.int _) .nil)))) (by rfl)) .nil)
          · obtain ⟨ws, w1, w2, w3⟩ := hL s hs'
            have fn : leavF pl us s i = none := by unfold leavF; rw [hmv]; dsimp only; rw [if_neg fun z => hss z.1.symm]
            refine ⟨ws, by rw [upd_ne (fun e => hss (inj s hs' _ hs e))]; exact s34 _ _ w1, by omega, ?_⟩
            rw [leavN_succ, fn]
            simpa using dqAll_kpt kp _ _ (w3.up s34) (lv_noLD _)
        · rw [if_neg ht]
          refine iteF ⟨_, _, rfl, gD4, fun s hs' => keep s hs' ?_, sH.trans s3, ex_t' s3 hms, hma.up s3⟩
          unfold leavF; rw [hmv]; dsimp only; rw [if_neg fun z => ht z.2.2]
      · rw [if_neg hs]
        refine iteF (iteF ⟨_, _, rfl, gD4, fun s hs' => keep s hs' ?_, sH.trans s3, ex_t' s3 hms, hma.up s3⟩)
        unfold leavF; rw [hmv]; dsimp only; rw [if_neg fun (z : mv.s = s ∧ s ∈ us ∧ mv.t ∈ us) => hs (z.1 ▸ z.2.1)]
    · rintro σ H3 ⟨y2, y3, rfl, gD, hL, sH, -, -⟩
      refine ⟨_, rfl, kQ D H3 us sH nDH U ⟨ad, gD, fun s hs => ?_⟩⟩
      obtain ⟨vs, q1, q2, q3⟩ := hL s hs
      exact ⟨vs, q1, by unfold leavL; rw [← hml]; exact q3⟩
end
end KP
/-! max(list of ints, default=int) -/
namespace EL
open PySem PySem.Spec PyProof.Rows L2
theorem foldMax_ok : ∀ (ys : List Int) (y : Int), let m := ys.foldl (fun a z => if PySem.W.DatumOrd.lt a z = true then z else a) y; (m = y ∨ m ∈ ys) ∧ y ≤ m ∧ ∀ z ∈ ys, z ≤ m
  | [], y => ⟨.inl rfl, Int.le_refl _, fun _ h => nomatch h⟩
  | z :: r, y => by
    have h := foldMax_ok r (if PySem.W.DatumOrd.lt y z = true then z else y)
    dsimp only at h ⊢
    rw [List.foldl_cons]
    have e : (PySem.W.DatumOrd.lt y z = true) = (y < z) := by show (decide (y < z) = true) = _; rw [decide_eq_true_eq]
    simp only [e] at h ⊢
    obtain ⟨h1, h2, h3⟩ := h
    by_cases q : y < z
    · rw [if_pos q] at h1 h2 h3 ⊢
      refine ⟨.inr ?_, by omega, fun x hx => ?_⟩
      · rcases h1 with h1 | h1
        · rw [h1]; exact List.mem_cons_self
        · exact List.mem_cons_of_mem _ h1
      · rcases List.mem_cons.mp hx with rfl | hx
        · exact h2
        · exact h3 x hx
    · rw [if_neg q] at h1 h2 h3 ⊢
      refine ⟨?_, h2, fun x hx => ?_⟩
      · rcases h1 with h1 | h1
        · exact .inl h1
        · exact .inr (List.mem_cons_of_mem _ h1)
      · rcases List.mem_cons.mp hx with rfl | hx
        · omega
        · exact h3 x hx
theorem holdAll_ints {h : Heap} : ∀ {vs : List Value} {ns : List Int}, IntsAre vs ns → PySem.W.HoldAll h vs ns
  | _, _, .nil => ⟨_, .nil⟩
  | _, _, .cons n t r => by
    obtain ⟨as, q⟩ := holdAll_ints r
    exact ⟨_, .cons (.int n t) q⟩
def rMaxDf (K : PySem.W.Frag) : List V → List V → Hp → VK → Prop := fun xs zs H Q => ∃ (a : Addr) (ns : List Int) (d : Int), xs = [V.ref a] ∧ zs = [V.int d] ∧ SqL K H a (ns.map V.int) ∧ ∀ m : Int, (ns = [] → m = d) → (ns ≠ [] → m ∈ ns ∧ ∀ y ∈ ns, y ≤ m) → Q (.int m) H
theorem call_maxDf {X : Cx} (hc : X.calm = true) (hu : X.A.units + 1 < cLine) : CallRK X (.builtin "max") ["default"] (rMaxDf X.K) := by
  intro pins s σ H xs zs us ws Q I r r2 h
  obtain ⟨a, ns, d, rfl, rfl, hs, q⟩ := h
  obtain ⟨its, rv, hl, _⟩ := I.list hs
  rw [Vals.ref1 r]
  obtain ⟨u, rfl, t, rfl⟩ := vals1 r2
  have hi := holdAll_ints (h := s.heap) rv.ints
  refine PySem.W.max_list_datum_default (α := Int) (xs := ns) (I.ok.hd hc) hl.isList hi (by show X.A.units + 1 + 0 < cLine; omega) (fun e h' tk k => ?_) fun y ys i v h' tk e hv hd k => ?_
  · exact ⟨.int d, H, I.kept k, ⟨_, rfl⟩, q d (fun _ => rfl) (fun n => absurd e n)⟩
  · subst e
    have z := foldMax_ok ys y
    obtain ⟨as, ra⟩ := hd
    have : ∃ t, v = .int (PySem.W.maxOf y ys) t := by
      cases ra; exact ⟨_, rfl⟩
    obtain ⟨t2, rfl⟩ := this
    refine ⟨.int _, H, I.kept k, ⟨_, rfl⟩, q _ (fun e => nomatch e) fun _ => ⟨?_, fun x hx => ?_⟩⟩
    · rcases z.1 with e | e
      · exact List.mem_cons.mpr (.inl e)
      · exact List.mem_cons_of_mem _ e
    · rcases List.mem_cons.mp hx with rfl | hx
      · exact z.2.1
      · exact z.2.2 x hx
end EL
namespace KP
open PySem PySem.Spec PyProof.Rows L2 EL
open Evl (pss_cut)
abbrev sFarthest : Stmt := topS 37
theorem scFarthest : FnScope ["leaving", "gains", "state", "_", "gain"] ["leaving"] (defScope sFarthest) := ⟨rfl, rfl, rfl, by decide +kernel, rfl, by decide +kernel, by decide +kernel⟩
def gainsL (pl : Plan) (us : List Nat) (s : Nat) : List Int := (leavL pl us s).map fun e => if e.2.1 < 0 then -e.2.1 else e.2.1
/-- some gain is as great as that -/
def GEx (pl : Plan) (us : List Nat) (G : Int) : Prop := G = 0 ∨ ∃ s ∈ us, ∃ e ∈ leavL pl us s, G = e.2.1 ∨ G = -e.2.1
def spFarthest (K : PySem.W.Frag) : Sp := fun vs H Q _ => ∃ (d : Addr) (pl : Plan) (us : List Nat) (top many long : Nat), vs = [.ref d] ∧ LeavAt K H d pl us ∧ pl.Ok top many long ∧ top ≤ 50 ∧ many ≤ 50 ∧ long ≤ 50 ∧ us.length ≤ 50 ∧
  ∀ H' (G : Int), Same H H' → 0 ≤ G → G ≤ long → (∀ s ∈ us, ∀ e ∈ leavL pl us s, e.2.1 ≤ G ∧ -G ≤ e.2.1) → GEx pl us G → Q (.int (((us.length : Int) - 1) * G)) H'
theorem leavN_len (pl : Plan) (us : List Nat) (s : Nat) : ∀ k, (leavN pl us s k).length ≤ k
  | 0 => Nat.le_refl _
  | k + 1 => by
    have := leavN_len pl us s k
    rw [leavN_succ, List.length_append]
    cases leavF pl us s k <;> simp <;> omega
theorem leavL_len (pl : Plan) (us : List Nat) (s : Nat) : (leavL pl us s).length ≤ pl.ways.length := leavN_len pl us s _
theorem gain_le {pl : Plan} {us : List Nat} {a b c : Nat} (hO : pl.Ok a b c) {s : Nat} {e : Nat × Int × Nat} (h : e ∈ leavL pl us s) : e.2.1 ≤ c ∧ -(c : Int) ≤ e.2.1 := by
  obtain ⟨m, hm, _, _, _, h5, _⟩ := mem_leav.mp h
  obtain ⟨m1, m2, m3, m4, -, -⟩ := hO.m m (List.mem_of_getElem? hm)
  rw [h5]; unfold Mv.gain; omega
theorem gl_len (pl : Plan) (us : List Nat) (s : Nat) : (gainsL pl us s).length = (leavL pl us s).length := by unfold gainsL; rw [List.length_map]
theorem gains_len (pl : Plan) (us : List Nat) : ∀ l : List Nat, (l.flatMap (gainsL pl us)).length ≤ l.length * pl.ways.length
  | [] => by simp
  | s :: r => by
    have ih := gains_len pl us r
    rw [List.flatMap_cons, List.length_append, List.length_cons, Nat.succ_mul, gl_len]
    have := leavL_len pl us s
    omega
theorem dq_lv {K : PySem.W.Frag} {H : Hp} {v : V} {e : Nat × Int × Nat} (h : Dq K H v (lvD e)) : ∃ a, v = .ref a ∧ SqT K H a [.int (e.1 : Int), .int e.2.1, .int (e.2.2 : Int)] := by
  cases h with
  | tup hs ha =>
    cases ha with
    | cons h1 r => cases r with
      | cons h2 r => cases r with
        | cons h3 r =>
          cases r; cases h1; cases h2; cases h3
          exact ⟨_, rfl, hs⟩
section
variable {P : Program} {w : World} {K : PySem.W.Frag} {mg : Str → Option Value} {base : Heap}
theorem ok_Farthest {f : Addr} {fd : FuncData} {k : Nat} (F : Fun K "farthest" "farthest" sFarthest f fd) (nlen : mg "len" = none) (nmax : mg "max" = none) (nabs : mg "abs" = none) : FnOk P w K mg base CX0 (k + 1) f fd ["leaving"] (spFarthest K) := by
  refine F.ok scFarthest (fun vs H Q E h => ?_) (fun cdv A outer s H vs Q E hr h => ?_)
  · obtain ⟨d, pl, us, top, many, long, rfl, _⟩ := h; rfl
  · obtain ⟨d, pl, us, top, many, long, rfl, hL, hO, t1, t2, t3, ul, kQ⟩ := h
    have hu := hr.units
    have hu1 : (A.deeper (envOfC "farthest" (defScope sFarthest) s.heap.objs.size f cdv)).units + 1 < cLine := by omega
    refine ⟨_, (pss_cons (ps_lock (ps_setLc2 (i := 1) (own := [("state", 2), ("_", 3), ("gain", 4)]) (vs1 := [3, 4]) (g := (gName 2)) (g1 := (gTup K 3 (gCons (gName 3) (gCons (gName 4) (gCons (gName 3) gNil))))) (by rfl) scFarthest.nd rfl rfl (sw_true rfl rfl rfl (by decide +kernel)) (pi_keys (pv 0)) (blkOk_by (own := [("state", 2), ("_", 3), ("gain", 4)]) (N := ["leaving", "gains", "state", "_", "gain"]) (sc := defScope sFarthest) (by decide +kernel)) (by decide) (fun _ _ _ _ _ => (pg_name (i := 2) scFarthest.nd rfl (by first | exact Or.inl rfl | exact Or.inr rfl))) (fun _ _ _ _ _ => pts_nil) (fun _ _ _ _ _ => (show PI _ _ _ (iList K (tDGet (tVar 0) (tVar 2))) from pi_list (pe_dget hu1 (pv 0) (pv 2) (fun _ _ => rfl)))) (fun _ _ _ _ _ => (pg_tup (by rfl) (pgs_cons (pg_name (i := 3) scFarthest.nd rfl (by first | exact Or.inl rfl | exact Or.inr rfl)) (pgs_cons (pg_name (i := 4) scFarthest.nd rfl (by first | exact Or.inl rfl | exact Or.inr rfl)) (pgs_cons (pg_name (i := 3) scFarthest.nd rfl (by first | exact Or.inl rfl | exact Or.inr rfl)) pgs_nil))))) (fun _ _ _ _ _ => pts_nil) (fun _ _ _ _ _ => (pe_callB call_abs (by rfl) nabs (by decide +kernel) (pa_cons (pv 4) pa_nil)))))
      (pss_one (ps_ret (pe_op op_mul (pe_op op_sub (pe_callB call_lenD (by rfl) nlen (by decide +kernel) (pa_cons (pv 0) pa_nil)) pe_int) (pe_callBK (call_maxDf rfl hu1) (by rfl) nmax (by decide +kernel) (pa_cons (pv 1) pa_nil) (pk_cons pe_int pk_nil)))))), ?_⟩
    obtain ⟨ad, gd, hl⟩ := hL.at'
    have nw := hO.n
    have e0 : (leavV us ad).length = us.length := by unfold leavV; rw [List.length_map]
    refine ⟨d, _, gd, trivial, fun od => ⟨_, rfl, d, od, rfl, .inl ⟨_, upd_same, ?_⟩⟩⟩
    have sb : ∀ b o, b ≠ d → H b = some o → upd H d (.frz od (.dK (leavV us ad))) b = some o := fun b o h e => by rw [upd_ne h]; exact e
    have gb : upd H d (.frz od (.dK (leavV us ad))) d = some (.frz od (.dK (leavV us ad))) := upd_same
    have hlb : ∀ s ∈ us, ∃ vs, upd H d (.frz od (.dK (leavV us ad))) (ad s) = some (.lst vs) ∧ DqAll K (upd H d (.frz od (.dK (leavV us ad)))) vs ((leavL pl us s).map lvD) := fun s hs => by
      obtain ⟨vs, q1, q2⟩ := hl s hs
      have ne : ad s ≠ d := fun e => by rw [e, gd] at q1; cases q1
      exact ⟨vs, sb _ _ ne q1, dqAll_kpt (KpT.dK gd) _ _ q2 (lv_noLD _)⟩
    have back : ∀ {G : Hp}, Same (upd H d (.frz od (.dK (leavV us ad)))) G → Same H (upd G d (.dK (leavV us ad))) := fun {G} sm b o e => by
      by_cases ed : b = d
      · subst ed; rw [gd] at e; cases e; exact upd_same
      · rw [upd_ne ed]; exact sm _ _ (sb b o ed e)
    generalize upd H d (.frz od (.dK (leavV us ad))) = Hb at gb hlb back ⊢
    intro D nD
    have hmul : us.length * pl.ways.length ≤ 2500 := Nat.mul_le_mul ul (by omega : pl.ways.length ≤ 50)
    have pre : ∀ l : List Nat, l.length ≤ us.length → (l.flatMap (gainsL pl us)).length ≤ 2500 := fun l hl => by
      have h1 := gains_len pl us l
      have h2 := Nat.mul_le_mul_right pl.ways.length hl
      omega
    refine it_gen (walk_keys (d := d) (o := od) (kvs := leavV us ad)) (fun i H' => H' D = some (.lst (((us.take i).flatMap (gainsL pl us)).map V.int)) ∧ Same Hb H') ⟨upd_same, same_upd nD⟩ (fun i H' _ z => z.2 _ _ gb) ?_ ?_
    · rintro i v H9 H2 hi ⟨gD, sm⟩ ⟨rfl, k0, v0, hkv, rfl⟩
      obtain ⟨s0, hs0, rfl⟩ : ∃ b, us[i]? = some b ∧ k0 = .inl (b : Int) := by
        rw [leavV, List.getElem?_map] at hkv
        cases e : us[i]? with
        | none => rw [e] at hkv; cases hkv
        | some b => rw [e] at hkv; cases hkv; exact ⟨b, rfl, rfl⟩
      have hs := List.mem_of_getElem? hs0
      obtain ⟨ls, q1, q2⟩ := hlb s0 hs
      refine ⟨rfl, ?_⟩
      dsimp only [tYes]
      refine iteT ⟨_, rfl, _, rfl, d, .ref (ad s0), rfl, .inl ⟨_, .inl (s0 : Int), .inr ⟨od, sm _ _ gb⟩, rfl, (leav_get_pos hs).symm⟩, ad s0, rfl, ⟨_, sqOf (sm _ _ q1)⟩, ?_⟩
      have ll : ls.length = (leavL pl us s0).length := by rw [q2.len, List.length_map]
      refine it_gen (walk_list (K := K) (a := ad s0) (xs := ls)) (fun j H' => H' D = some (.lst (((us.take i).flatMap (gainsL pl us) ++ (gainsL pl us s0).take j).map V.int)) ∧ Same Hb H') ⟨by rw [List.take_zero, List.append_nil]; exact gD, sm⟩ (fun j H' _ z => sqOf (z.2 _ _ q1)) ?_ ?_
      · rintro j v H8 H3 hj ⟨gD3, sm3⟩ ⟨rfl, hv⟩
        obtain ⟨dd, hdd, hdq⟩ := q2.at hv
        obtain ⟨e, he, rfl⟩ : ∃ e, (leavL pl us s0)[j]? = some e ∧ dd = lvD e := by
          rw [List.getElem?_map] at hdd
          cases q : (leavL pl us s0)[j]? with
          | none => rw [q] at hdd; cases hdd
          | some b => rw [q] at hdd; exact ⟨b, rfl, (Option.some.inj hdd).symm⟩
        obtain ⟨a, rfl, hs3⟩ := dq_lv (hdq.up sm3)
        refine ⟨a, _, rfl, hs3, rfl, _, _, rfl, _, _, rfl, _, _, rfl, rfl, rfl, ?_⟩
        dsimp only [tYes]
        refine iteT ⟨_, rfl, _, rfl, _, gD3, ?_, ?_, ?_⟩
        · have p1 := pre (us.take i) (by rw [List.length_take]; omega)
          have p2 := leavL_len pl us s0
          have p3 := gl_len pl us s0
          rw [List.length_map, List.length_append, List.length_take]
          exact lt_sz (by omega)
        · have hg : (gainsL pl us s0)[j]? = some (if e.2.1 < 0 then -e.2.1 else e.2.1) := by unfold gainsL; rw [List.getElem?_map, he]; rfl
          simp only [upd_same, take_more hg, List.map_append, List.map_cons, List.map_nil, List.append_assoc]
        · exact fun b o x => by rw [upd_ne (ne_of_none x nD)]; exact sm3 _ _ x
      · rintro H3 ⟨gD3, sm3⟩
        have p3 : (gainsL pl us s0).length = ls.length := by rw [gl_len, ll]
        rw [← p3, List.take_length] at gD3
        exact ⟨by rw [take_more hs0, List.flatMap_append]; simpa using gD3, sm3⟩
    rintro H2 ⟨gD, sm⟩
    rw [e0, List.take_length] at gD
    refine ⟨sm _ _ gb, _, rfl, ?_⟩
    have sH := back sm
    have Dd : D ≠ d := fun e => by rw [e, gb] at nD; cases nD
    have gD2 : upd H2 d (.dK (leavV us ad)) D = some (.lst ((us.flatMap (gainsL pl us)).map V.int)) := by rw [upd_ne Dd]; exact gD
    have gd2 : upd H2 d (.dK (leavV us ad)) d = some (.dK (leavV us ad)) := upd_same
    generalize upd H2 d (.dK (leavV us ad)) = H3 at sH gD2 gd2 ⊢
    have key : ∀ m : Int, (us.flatMap (gainsL pl us) = [] → m = 0) → (us.flatMap (gainsL pl us) ≠ [] → m ∈ us.flatMap (gainsL pl us) ∧ ∀ y ∈ us.flatMap (gainsL pl us), y ≤ m) → Q (.int (((us.length : Int) - 1) * m)) H3 := fun m k0 k1 => by
      have all : ∀ s ∈ us, ∀ e ∈ leavL pl us s, (if e.2.1 < 0 then -e.2.1 else e.2.1) ∈ us.flatMap (gainsL pl us) := fun s hs e he => List.mem_flatMap.mpr ⟨s, hs, List.mem_map.mpr ⟨e, he, rfl⟩⟩
      by_cases e : us.flatMap (gainsL pl us) = []
      · have hm := k0 e
        subst hm
        refine kQ H3 0 sH (Int.le_refl _) (by omega) (fun s hs e' he => ?_) (.inl rfl)
        have := all s hs e' he
        rw [e] at this; cases this
      · obtain ⟨q1, q2⟩ := k1 e
        obtain ⟨s, hs, hq⟩ := List.mem_flatMap.mp q1
        obtain ⟨e', he, rfl⟩ := List.mem_map.mp hq
        have g := gain_le hO he
        refine kQ H3 _ sH (by split <;> omega) (by split <;> omega) (fun s2 hs2 e2 he2 => ?_) (.inr ⟨s, hs, e', he, by split; exact .inr rfl; exact .inl rfl⟩)
        have := q2 _ (all s2 hs2 e2 he2)
        split at this <;> split at this <;> (split <;> omega)
    refine ⟨d, _, rfl, gd2, _, _, rfl, rfl, _, rfl, D, _, 0, rfl, rfl, sqOf gD2, fun m k0 k1 => ⟨_, _, rfl, rfl, .inl ⟨?_, ?_⟩, ?_⟩⟩
    · have := e0; omega
    · have := e0; omega
    · rw [e0]; exact key m k0 k1
end
end KP
/-! dict comprehensions whose keys are tuples. -/
namespace EL
open PySem PySem.Spec PyProof.Rows L2
theorem dictSetT {X : Cx} {pins : List (Addr × Obj)} {σ : L2.St} {H : Hp} {s : Shared} {E : Value → Shared → Prop} {dc b : Addr} {ts : List (List L2.Key × V)} {k : List L2.Key} {z : V} {r : Value} {Q : Unit → Shared → Prop} (hu : X.A.units < cLine) (J : Inv X pins σ H s) (at' : H dc = some (.dT ts)) (room : ts.length < sizeLine)
    (hb : H b = some (.tup (k.map kV))) (rz : RelV z r) (next : ∀ s', Inv X pins σ (L2.upd H dc (.dT (putK ts k z))) s' → Q () s') : wpAny (model X.prog X.w) X.A (dictSet dc (.ref b) r) Q E s := by
  obtain ⟨zz, hd, xs, rel, dd⟩ := dt_of J.hok at'
  have fit : xs.length ≤ sizeLine := by rw [← Paired.length rel]; exact zz
  have grow : (putK ts k z).length ≤ sizeLine := Nat.le_trans (length_putK ts k z) room
  refine wpAny_dictSet_heap (hsz := fit) hu (key_of J.hok hb) dd fun h4 dd' same => next _ ?_
  obtain ⟨q4, es, ep, hq, y2, y3, y4, _, y5⟩ := dd'
  refine d_write J (by rw [at']; exact True.intro) same ⟨q4, hq⟩ ⟨grow, hd, _, (rel.put k hb rz).keeps fun c ys ec => ?_, q4, es, ep, hq, y2, y3, y4, y5⟩
  rw [upd_ne (ne_of ec at' (fun z => nomatch z))]
  exact ec
def tDcU (wi : TI) (g : TG) (tt : TT) (tk tv : TE) (bs : List Nat) : TE := fun σ H Q => wi σ H fun J H1 => ∀ dc, H1 dc = none → ∃ Wk : Nat → Nat → Hp → Prop, (∃ m, Wk 0 m (L2.upd H1 dc (.dT []))) ∧
  ∀ i m H, Wk i m H → (J.stop i H ∧ Q (.ref dc) H) ∨ (J.go i H ∧ ∃ Go : Hp → Prop, (∀ H', Go H' → ∃ m', m' < m ∧ Wk (i + 1) m' H') ∧
    ∀ x H', J.yld i H x H' → g x (wipe σ bs) H' fun τ H2 => wipe τ bs = wipe σ bs ∧ tt τ H2 fun c H3 => if c = true then tk τ H3 fun y H4 => tv τ H4 fun z H5 =>
      ∃ ts k b, y = .ref b ∧ H5 b = some (.tup (k.map kV)) ∧ H5 dc = some (.dT ts) ∧ ts.length < sizeLine ∧ Go (L2.upd H5 dc (.dT (putK ts k z))) else Go H3)
section
variable {X : Cx} {kx vx tg src : Expr} {ifs : List Expr} {scope : Scope} {own : List (Str × Nat)} {wi : TI} {g : TG} {tt : TT} {tk tv : TE}
/-- what the block's parts must do, whatever the block's own table -/
structure BlkParts (X : Cx) (scope : Scope) (tg kx vx : Expr) (ifs : List Expr) (g : TG) (tt : TT) (tk tv : TE) : Prop where
  g : ∀ (s : Shared) (H : Hp) (C : Addr) (cl : List (Str × Addr)) (fp : List Addr), PG (X.blk s H scope (compEnvC scope cl C X.env) fp) tg g
  t : ∀ (s : Shared) (H : Hp) (C : Addr) (cl : List (Str × Addr)) (fp : List Addr), PTs (X.blk s H scope (compEnvC scope cl C X.env) fp) ifs tt
  k : ∀ (s : Shared) (H : Hp) (C : Addr) (cl : List (Str × Addr)) (fp : List Addr), PE (X.blk s H scope (compEnvC scope cl C X.env) fp) kx tk
  v : ∀ (s : Shared) (H : Hp) (C : Addr) (cl : List (Str × Addr)) (fp : List Addr), PE (X.blk s H scope (compEnvC scope cl C X.env) fp) vx tv
theorem dcU_core {pins : List (Addr × Obj)} {s : Shared} {σ : L2.St} {H : Hp} {Q : VK} {pos pos' : Pos} {use : Option (Value → Sem Unit)} {Qf : Value → Shared → Prop} (hu : X.A.units < cLine)
    (calm : X.calm = true) (nd : X.N.Nodup) (I : Inv X pins σ H s) (pi : PI X tg src wi) (ok : BlkOk X.N X.env.scope scope own) (B : BlkParts X scope tg kx vx ifs g tt tk tv) (fold : ∀ x, foldedSetIterable src X.env x = pure x)
    (h : tDcU wi g tt tk tv (own.map (·.2)) σ H Q)
    (out : ∀ dc C s' m H', Inv X pins σ H' s' → Q (.ref dc) H' → s'.heap.Ns C m → FpOk X pins H' C → compPost (model X.prog X.w) X.A X.xe use Qf (.ref dc) C (.ok .next) s') :
    wpAny (model X.prog X.w) X.A (comprehension (.DictComp kx vx [⟨tg, src, ifs, 0⟩] scope pos) scope X.env pos' newDict false (eval src X.env) use) Qf X.xe s := by
  have free : ∀ y ∈ scope.names, y.2 = .free → ∃ c, X.env.cells.lookup y.1 = some c := fun y hy e => (ok.free y hy e).elim (fun z => I.ok.has _ (.inl z)) fun z => I.ok.has _ (.inr z)
  refine wpAny_comprehension_free (use := use) rfl fold (closure_ok free) ok.kind (fun y hy e => by rw [ok.uniq y hy, e]) ?_
  refine thn (pi.run pins s σ H _ I h) fun _ s1 h1 => thn h1 fun _ s2 h2 => ?_
  obtain ⟨it, fp, tn, J, G0, rfl, I2, T, st2, f2, q⟩ := h2
  refine wpAny_newObj_type (newEnv_comp ?_)
  generalize hdc : s2.heap.objs.size = dc
  have ndc : G0 dc = none := I2.hok.fresh (Nat.le_of_eq hdc)
  obtain ⟨Wk, ⟨m0, w0⟩, turn⟩ := q dc ndc
  generalize es3 : ({ s2 with heap := s2.heap.push { cls := .type "dict", data := .dict #[] } } : Shared) = s3
  have eh3 : s3.heap = s2.heap.push { cls := .type "dict", data := .dict #[] } := by rw [← es3]
  have kept3 : ∀ b o, s2.heap.get? b = some o → s3.heap.get? b = some o := fun b o e => by rw [eh3]; exact Heap.get?_push_of_some _ e
  have I3 : Inv X pins σ (L2.upd G0 dc (.dT [])) s3 := by
    rw [← es3]
    exact I2.laid (t' := s2.toks) (fun b o e => Heap.get?_push_of_some _ e) (Nat.le_of_eq hdc) (by rw [← hdc]; exact dt_empty s2.heap I2.big)
  have fpOld : ∀ b ∈ fp, b < s2.heap.objs.size := fun b hb => (T.obj _ _ st2 b hb).elim fun o e => Heap.lt_size e.1
  have f3 : ∀ b ∈ fp, FpOk X pins (L2.upd G0 dc (.dT [])) b ∧ b < s3.heap.objs.size := fun b hb => by
    have lt := fpOld b hb
    have ne : b ≠ dc := by rw [← hdc]; exact Nat.ne_of_lt lt
    refine ⟨⟨by rw [upd_ne ne]; exact (f2 b hb).1, (f2 b hb).2⟩, ?_⟩
    rw [eh3, Heap.size_push]
    exact Nat.lt_succ_of_lt lt
  have st3 : tn 0 s3.heap := T.keep _ _ _ st2 fun b _ o e => kept3 b o e
  have I4 := block_start I3 ok nd f3
  have pg := B.g s3 (L2.upd G0 dc (.dT [])) s3.heap.objs.size (cellsFrom (s3.heap.objs.size + 1) scope.names (cloFrom X.env.cells scope.names [])) fp
  have pt := B.t s3 (L2.upd G0 dc (.dT [])) s3.heap.objs.size (cellsFrom (s3.heap.objs.size + 1) scope.names (cloFrom X.env.cells scope.names [])) fp
  have pk := B.k s3 (L2.upd G0 dc (.dT [])) s3.heap.objs.size (cellsFrom (s3.heap.objs.size + 1) scope.names (cloFrom X.env.cells scope.names [])) fp
  have pv := B.v s3 (L2.upd G0 dc (.dT [])) s3.heap.objs.size (cellsFrom (s3.heap.objs.size + 1) scope.names (cloFrom X.env.cells scope.names [])) fp
  show codeAny _ _ (.compStart (.DictComp kx vx [⟨tg, src, ifs, 0⟩] scope pos) 0 (.ref it) (.ref dc) (compEnvC scope (cellsFrom (s3.heap.objs.size + 1) scope.names (cloFrom X.env.cells scope.names [])) s3.heap.objs.size X.env)) (compPost (model X.prog X.w) X.A X.xe use Qf (.ref dc) s3.heap.objs.size) { s3 with heap := pushCells (s3.heap.push { cls := .type "dict", data := .dict #[] }) scope.names }
  have fpNone : ∀ b ∈ fp, (L2.upd G0 dc (.dT [])) b = none := fun b hb => (f3 b hb).1.1
  generalize ece : compEnvC scope (cellsFrom (s3.heap.objs.size + 1) scope.names (cloFrom X.env.cells scope.names [])) s3.heap.objs.size X.env = ce at I4 pg pt pk pv ⊢
  have cl : ce.locals = s3.heap.objs.size := by subst ece; rfl
  generalize L2.upd G0 dc (.dT []) = G3 at I3 I4 pg pt pk pv w0 fpNone f3
  generalize es4 : ({ s3 with heap := pushCells (s3.heap.push { cls := .type "dict", data := .dict #[] }) scope.names } : Shared) = s4 at I4 ⊢
  have st4 : tn 0 s4.heap := T.keep _ _ _ st3 fun b _ o e => by rw [← es4]; exact pushCells_keeps _ _ _ _ (Heap.get?_push_of_some _ e)
  let Y := X.blk s3 G3 scope ce fp
  have foot : ∀ {τ : L2.St} {G : Hp} {s' : Shared}, Inv (X.blk s3 G3 scope ce fp) [] τ G s' → (∀ b ∈ fp, G b = none) → ∀ b ∈ fp, FpOk (X.blk s3 G3 scope ce fp) [] G b := fun K0 none' b hb =>
    ⟨none' b hb, (K0.ok.exf b hb).1, K0.ok.exfs b hb, .inl hb, fun x c e => (K0.ok.exf b hb).2 x c e, fun p hp => by rcases List.mem_append.mp hp with z | z <;> cases z⟩
  have loop : codeAny (model X.prog X.w) X.A (.compLoop (.DictComp kx vx [⟨tg, src, ifs, 0⟩] scope pos) 0 (.ref it) (.ref dc) ce) (compPost (model X.prog X.w) X.A X.xe use Qf (.ref dc) s3.heap.objs.size) s4 := by
    refine compLoop_anyD (fun n s' => ∃ i G, Inv (X.blk s3 G3 scope ce fp) [] (wipe σ (own.map (·.2))) G s' ∧ tn i s'.heap ∧ (∀ b ∈ fp, G b = none) ∧ Wk i n G) ?_ m0 ⟨0, G3, I4, st4, fpNone, w0⟩
    rintro n s5 ⟨i, G5, I5, st5, n5, w5⟩
    rcases turn i n G5 w5 with ⟨stop, fin⟩ | ⟨go, Go, less, step⟩
    · refine thnF (T.done (X.blk s3 G3 scope ce fp) rfl rfl rfl calm i [] s5 _ G5 (fun _ _ => False) I5 (foot I5 n5) st5 stop) fun r s6 hr => ?_
      obtain ⟨rfl, I6⟩ := hr
      have nC : G5 s3.heap.objs.size = none := by
        have z : G5 ce.locals = none := I6.free
        rw [cl] at z
        exact z
      obtain ⟨m, ns, _⟩ := I6.loc
      have ns : s6.heap.Ns ce.locals m := ns
      rw [cl] at ns
      refine out dc s3.heap.objs.size s6 m G5 ?_ fin ns (I3.fpOk (Nat.le_refl _) nC)
      exact I3.call' (ch := fp) I6.os I6.base I6.hok I6.bare fun b hb => ⟨(f3 b hb).1.2.2.2.1, (f3 b hb).1.2.1, (f3 b hb).1.2.2.2.2.1, (f3 b hb).1.2.2.2.2.2⟩
    · refine thnF (T.item (X.blk s3 G3 scope ce fp) rfl rfl rfl calm i [] s5 _ G5 (fun _ _ => False) I5 (foot I5 n5) st5 go) fun r s6 h6 => ?_
      obtain ⟨u, rfl, h6⟩ := h6
      refine thnF h6 fun _ s7 h7 => ?_
      obtain ⟨x, G7, I7, r7, y7, st7, n7⟩ := h7
      refine thnF (pg.run _ s7 _ G7 x u _ (I7.pinned (foot I7 n7) (T.obj _ _ st7)) r7 (step x G7 y7)) fun _ s8 h8 => ?_
      obtain ⟨τ, G8, I8, hw, q8⟩ := h8
      have back : ∀ {s' : Shared} {G : Hp}, Inv (X.blk s3 G3 scope ce fp) ([] ++ pinsAt fp s7.heap) τ G s' → Go G → ∃ m, m < n ∧ ∃ i G, Inv (X.blk s3 G3 scope ce fp) [] (wipe σ (own.map (·.2))) G s' ∧ tn i s'.heap ∧ (∀ b ∈ fp, G b = none) ∧ Wk i m G := by
        intro s' G K1 gg
        obtain ⟨m', hm, w'⟩ := less G gg
        have held : ∀ b ∈ fp, ∀ o, s7.heap.get? b = some o → s'.heap.get? b = some o ∧ G b = none := fun b hb o e => by
          have z := K1.pin (b, o) (List.mem_append_right _ (List.mem_append_right _ (mem_pinsAt hb e)))
          exact ⟨z.1, z.2.1⟩
        have ln : (wipe σ (own.map (·.2))).length = τ.length := by rw [← hw, wipe_length]
        refine ⟨m', hm, i + 1, G, (K1.unpinned (pins := [])).weak ln (fun j v e => ?_), T.keep _ _ _ st7 fun b hb o e => (held b hb o e).1, fun b hb => ?_, w'⟩
        · rw [← hw] at e; exact (wipe_some e).1
        · exact (T.obj _ _ st7 b hb).elim fun o e => (held b hb o e.1).2
      refine thnF (pt.run _ s8 τ G8 _ I8 q8) fun c s9 h9 => ?_
      obtain ⟨G9, I9, q9⟩ := h9
      cases c with
      | false => rw [if_neg Bool.false_ne_true] at q9 ⊢; exact back I9 q9
      | true =>
        rw [if_pos rfl] at q9 ⊢
        refine thnF (pk.run _ s9 τ G9 _ I9 q9) fun a s10 h10 => ?_
        obtain ⟨yk, GA, IA, ra, qa⟩ := h10
        refine thnF (pv.run _ s10 τ GA _ IA qa) fun a2 s11 h11 => ?_
        obtain ⟨yv, GB, IB, rb, ts, k, b, rfl, hb, hdT, lts, nx⟩ := h11
        cases ra
        exact dictSetT (X := X.blk s3 G3 scope ce fp) hu IB hdT lts hb rb fun s12 I12 => back I12 nx
  exact codeAny_compStart_dict loop (T.self X.A 0 _ _ _ st4 loop)
/-- y = {(..): v for ..} -/
theorem ps_setDcU {i : Nat} {y : Str} {py spos pos : Pos} (hc : X.calm = true) (hu : X.A.units < cLine) (hN : X.N.Nodup) (hy : X.N[i]? = some y) (hyl : X.env.scope.names.lookup y = some .local)
    (hsw : swapsWith (.DictComp kx vx [⟨tg, src, ifs, 0⟩] scope pos) (some (.Name y py)) spos.line X.env = pure true) (pi : PI X tg src wi) (ok : BlkOk X.N X.env.scope scope own) (B : BlkParts X scope tg kx vx ifs g tt tk tv)
    (hs : ∀ x, foldedSetIterable src X.env x = pure x := by intro _; rfl) :
    PS X (.Assign [.Name y py] (.DictComp kx vx [⟨tg, src, ifs, 0⟩] scope pos) spos) (tAsg (tDcU wi g tt tk tv (own.map (·.2))) (gName i)) := by
  refine ⟨fun pins s σ H D I q0 => ?_⟩
  have q : tDcU wi g tt tk tv (own.map (·.2)) σ H (fun v H1 => gName i v σ H1 D.nx) := q0
  rw [exec_Assign_Name_used _ _ _ _ hsw]
  refine wpAny_bind (wpAny_standAt (wpAny_bind (wpAny_bind ?_)))
  refine wpAny_mono (dcU_core (use := some (assign (.Name y py) X.env)) (Qf := fun _ s' => SP X pins D .next s') hu hc hN I pi ok B hs q fun L C s' m H' J1 q1 hn f => ?_) (fun _ s' hq => wpAny_pure (wpAny_pure hq)) fun _ _ z => z
  show wpAny _ _ (assign (.Name y py) X.env (.ref L)) _ _ _
  refine wpAny_assign_Name (store_ok2 (v := V.ref L) J1 hN hy (.inl hyl) rfl (fun s2 J2 hst => ?_) (.inr hyl))
  obtain ⟨a, sb, ha⟩ := hst
  obtain ⟨f0, f1, f2, f3, f4, f5⟩ := f
  have far : C ≠ a := ha.elim (fun z => z ▸ f1) fun z e => f4 y a z e.symm
  exact ⟨m, hn.sameBut sb far, fun h3 sb3 => ⟨_, _, J2.turned (t' := s2.toks) (fun b o hb e => (sb3.2 b hb).trans e) f0 f1 f3 f4 f5, q1⟩⟩
end
end EL
namespace KP
open PySem PySem.Spec PyProof.Rows L2 EL
open Evl (pss_cut)
abbrev sPlacesMet1 : Stmt := topS 38
theorem scPlacesMet1 : FnScope ["pacer", "leaving", "bound", "came", "waiting", "at", "state", "lead", "index", "gain", "further", "place", "begin"] ["pacer"] (defScope sPlacesMet1) := ⟨rfl, rfl, rfl, by decide +kernel, rfl, by decide +kernel, by decide +kernel⟩
abbrev P2 := Nat × Int
abbrev k2 (p : P2) : List L2.Key := [.inl (p.1 : Int), .inl p.2]
abbrev v2 (p : P2) : List V := [.int (p.1 : Int), .int p.2]
theorem k2_inj {p q : P2} (h : k2 p = k2 q) : p = q := by
  injection h with h1 h2
  injection h1 with h1
  injection h2 with h2 _
  injection h2 with h2
  exact Prod.ext (by omega) h2
/-- a place, and how it was come to: from which, by which move -/
abbrev Ent := P2 × Option (P2 × Nat)
def ValAt (H : Hp) (v : V) : Option (P2 × Nat) → Prop
  | none => v = .non
  | some (p, ix) => ∃ T Tp, v = .ref T ∧ H T = some (.tup [.ref Tp, .int (ix : Int)]) ∧ H Tp = some (.tup (v2 p))
theorem ValAt.keep {H H' : Hp} {v : V} (k : ∀ T xs, H T = some (.tup xs) → H' T = some (.tup xs)) : ∀ {o : Option (P2 × Nat)}, ValAt H v o → ValAt H' v o
  | none, h => h
  | some (p, ix), ⟨T, Tp, h1, h2, h3⟩ => ⟨T, Tp, h1, k _ _ h2, k _ _ h3⟩
def cameV (M : List Ent) (vs : List V) : List (List L2.Key × V) := List.zipWith (fun e v => (k2 e.1, v)) M vs
theorem cameV_len {M : List Ent} {vs : List V} (h : vs.length = M.length) : (cameV M vs).length = M.length := by unfold cameV; rw [List.length_zipWith, h]; omega
theorem cameV_snoc {M : List Ent} {vs : List V} (h : vs.length = M.length) (e : Ent) (v : V) : cameV (M ++ [e]) (vs ++ [v]) = cameV M vs ++ [(k2 e.1, v)] := by
  unfold cameV; rw [List.zipWith_append h.symm]; rfl
theorem came_none : ∀ {M : List Ent} {vs : List V} {p : P2}, p ∉ M.map Prod.fst → valV (cameV M vs) (k2 p) = none
  | [], _, _, _ => rfl
  | e :: M, [], _, _ => rfl
  | e :: M, v :: vs, p, h => by
    rw [List.map_cons, List.mem_cons, not_or] at h
    have ne : ¬ (k2 e.1 = k2 p) := fun z => h.1 (k2_inj z).symm
    have ih := came_none (vs := vs) h.2
    unfold valV cameV at ih ⊢
    rw [List.zipWith_cons_cons, List.find?_cons_of_neg (by simpa using ne)]
    exact ih
theorem came_some : ∀ {M : List Ent} {vs : List V} {j : Nat} {e : Ent} {v : V}, (M.map Prod.fst).Nodup → M[j]? = some e → vs[j]? = some v → valV (cameV M vs) (k2 e.1) = some v
  | [], _, _, _, _, _, h, _ => by simp at h
  | e0 :: M, [], _, _, _, _, _, h => by simp at h
  | e0 :: M, v0 :: vs, 0, e, v, _, h, h2 => by
    simp at h h2; subst h; subst h2
    simp [valV, cameV]
  | e0 :: M, v0 :: vs, j + 1, e, v, nd, h, h2 => by
    have h : M[j]? = some e := by simpa using h
    have h2 : vs[j]? = some v := by simpa using h2
    rw [List.map_cons, List.nodup_cons] at nd
    have ne : ¬ (k2 e0.1 = k2 e.1) := fun z => nd.1 (by rw [k2_inj z]; exact List.mem_map.mpr ⟨e, List.mem_of_getElem? h, rfl⟩)
    have ih := came_some nd.2 h h2
    unfold valV cameV at ih ⊢
    rw [List.zipWith_cons_cons, List.find?_cons_of_neg (by simpa using ne)]
    exact ih
theorem came_isSome : ∀ {M : List Ent} {vs : List V} {p : P2}, vs.length = M.length → p ∈ M.map Prod.fst → (valV (cameV M vs) (k2 p)).isSome = true
  | [], _, _, _, h => by simp at h
  | e :: M, [], _, h, _ => by simp at h
  | e :: M, v :: vs, p, hl, h => by
    by_cases q : k2 e.1 = k2 p
    · unfold valV cameV
      rw [List.zipWith_cons_cons, List.find?_cons_of_pos (by simpa using q)]
      rfl
    · have hp : p ∈ M.map Prod.fst := by
        rcases List.mem_cons.mp (by simpa only [List.map_cons] using h) with z | z
        · exact absurd (by rw [z]) q
        · exact z
      have ih := came_isSome (vs := vs) (by simpa using hl) hp
      unfold valV cameV at ih ⊢
      rw [List.zipWith_cons_cons, List.find?_cons_of_neg (by simpa using q)]
      exact ih
structure CameAt (H : Hp) (d : Addr) (M : List Ent) : Prop where
  at' : ∃ vs : List V, vs.length = M.length ∧ H d = some (.dT (cameV M vs)) ∧ ∀ (j : Nat) (e : Ent) (v : V), M[j]? = some e → vs[j]? = some v → ValAt H v e.2
theorem CameAt.keep {H H' : Hp} {d : Addr} {M : List Ent} (h : CameAt H d M) (e : ∀ x, H d = some x → H' d = some x) (k : ∀ T xs, H T = some (.tup xs) → H' T = some (.tup xs)) : CameAt H' d M := by
  obtain ⟨vs, h1, h2, h3⟩ := h.at'
  exact ⟨vs, h1, e _ h2, fun j e v q1 q2 => (h3 j e v q1 q2).keep k⟩
theorem CameAt.in {H : Hp} {d T : Addr} {M : List Ent} {p : P2} (h : CameAt H d M) (hT : H T = some (.tup (v2 p))) : ∃ o, DGet H d (.ref T) o ∧ o.isSome = decide (p ∈ M.map Prod.fst) := by
  obtain ⟨vs, h1, h2, h3⟩ := h.at'
  refine ⟨_, DGet.t (k := k2 p) h2 hT, ?_⟩
  by_cases q : p ∈ M.map Prod.fst
  · rw [decide_eq_true q]
    exact came_isSome h1 q
  · rw [decide_eq_false q, came_none q]; rfl
/-- the places that were come to, those before `at` gone on from -/
structure Srch (pl : Plan) (us : List Nat) (M : List Ent) : Prop where
  nd : (M.map Prod.fst).Nodup
  base : ∀ b ∈ pl.ins, b ∈ us → (b, 0) ∈ M.map Prod.fst
  un : ∀ e ∈ M, e.1.1 ∈ us
  rt : ∀ e ∈ M, e.2 = none → e.1.2 = 0 ∧ e.1.1 ∈ pl.ins
  en : ∀ j e p ix, M[j]? = some e → e.2 = some (p, ix) → p ∈ (M.take j).map Prod.fst ∧ ∃ m, pl.ways[ix]? = some m ∧ m.s = p.1 ∧ m.t = e.1.1 ∧ e.1.2 = p.2 + m.gain
def ShutAt (pl : Plan) (us : List Nat) (M : List Ent) (k : Nat) : Prop := ∀ j e, j < k → M[j]? = some e → ∀ x ∈ leavL pl us e.1.1, (x.2.2, e.1.2 + x.2.1) ∈ M.map Prod.fst
def InB (B : Int) (M : List Ent) : Prop := ∀ e ∈ M, e.1.2 ≤ B ∧ -B ≤ e.1.2
theorem srch_len {pl : Plan} {us : List Nat} {M : List Ent} {B : Nat} {n : Nat} (S : Srch pl us M) (hB : InB B M) (hu : ∀ s ∈ us, s < n) : M.length ≤ n * (2 * B + 1) := by
  have := EL.nodup_len (n * (2 * B + 1)) (M.map fun e : Ent => e.1.1 * (2 * B + 1) + (e.1.2 + (B : Int)).toNat) ?_ ?_
  · rwa [List.length_map] at this
  · have nd := S.nd
    unfold List.Nodup at nd ⊢
    rw [List.pairwise_map] at nd ⊢
    refine List.Pairwise.imp_of_mem (fun {a b} ha hb ne e => ne ?_) nd
    obtain ⟨a1, a2⟩ := hB a ha
    obtain ⟨b1, b2⟩ := hB b hb
    have x1 : (a.1.2 + (B : Int)).toNat < 2 * B + 1 := by omega
    have x2 : (b.1.2 + (B : Int)).toNat < 2 * B + 1 := by omega
    have e1 : (a.1.2 + (B : Int)).toNat = (b.1.2 + (B : Int)).toNat := by
      have := congrArg (fun z : Nat => z % (2 * B + 1)) e
      simp only [Nat.mul_add_mod_self_right] at this
      rwa [Nat.mod_eq_of_lt x1, Nat.mod_eq_of_lt x2] at this
    have e2 : a.1.1 = b.1.1 := Nat.eq_of_mul_eq_mul_right (show 0 < 2 * B + 1 by omega) (by omega)
    exact Prod.ext e2 (by omega)
  · intro x hx
    obtain ⟨e, he, rfl⟩ := List.mem_map.mp hx
    have h1 := hu _ (S.un e he)
    obtain ⟨a1, a2⟩ := hB e he
    have : e.1.1 * (2 * B + 1) + (2 * B + 1) ≤ n * (2 * B + 1) := by
      rw [← Nat.succ_mul]; exact Nat.mul_le_mul_right _ h1
    omega
theorem srch_snoc {pl : Plan} {us : List Nat} {M : List Ent} {q p : P2} {ix : Nat} (S : Srch pl us M) (hq : q ∉ M.map Prod.fst) (hu : q.1 ∈ us) (hp : p ∈ M.map Prod.fst) (hm : ∃ m, pl.ways[ix]? = some m ∧ m.s = p.1 ∧ m.t = q.1 ∧ q.2 = p.2 + m.gain) : Srch pl us (M ++ [(q, some (p, ix))]) := by
  refine ⟨?_, fun b h1 h2 => ?_, fun e he => ?_, fun e he h => ?_, fun j e p' ix' he h => ?_⟩
  · rw [List.map_append, List.nodup_append]
    refine ⟨S.nd, by simp, fun a ha b hb => ?_⟩
    rw [List.map_cons, List.map_nil, List.mem_singleton] at hb
    intro e
    rw [e, hb] at ha
    exact hq ha
  · rw [List.map_append]; exact List.mem_append_left _ (S.base b h1 h2)
  · rcases List.mem_append.mp he with h | h
    · exact S.un e h
    · rw [List.mem_singleton.mp h]; exact hu
  · rcases List.mem_append.mp he with h' | h'
    · exact S.rt e h' h
    · rw [List.mem_singleton.mp h'] at h; cases h
  · rcases Nat.lt_or_ge j M.length with lt | ge
    · rw [List.getElem?_append_left lt] at he
      rw [List.take_append_of_le_length (Nat.le_of_lt lt)]
      exact S.en j e p' ix' he h
    · rw [List.getElem?_append_right ge] at he
      have : j - M.length = 0 := by
        have := (List.getElem?_eq_some_iff.mp he).1
        simp at this; omega
      rw [this] at he
      simp at he
      subst he
      cases h
      obtain rfl : j = M.length := by omega
      rw [List.take_left]
      exact ⟨hp, hm⟩

structure WaitAt (H : Hp) (L : Addr) (M : List Ent) : Prop where
  at' : ∃ ts : List Addr, H L = some (.lst (ts.map V.ref)) ∧ ts.length = M.length ∧ ∀ (j : Nat) (e : Ent) (T : Addr), M[j]? = some e → ts[j]? = some T → H T = some (.tup (v2 e.1))
theorem WaitAt.keep {H H' : Hp} {L : Addr} {M : List Ent} (h : WaitAt H L M) (e : ∀ x, H L = some x → H' L = some x) (k : ∀ T xs, H T = some (.tup xs) → H' T = some (.tup xs)) : WaitAt H' L M := by
  obtain ⟨ts, h1, h2, h3⟩ := h.at'
  exact ⟨ts, e _ h1, h2, fun j e T q1 q2 => k _ _ (h3 j e T q1 q2)⟩
theorem wait_keys {H : Hp} : ∀ {M : List Ent} {vs : List V} {bs : List Addr}, vs.length = M.length → IsKeys H (cameV M vs) bs → bs.length = M.length ∧ ∀ (j : Nat) (e : Ent) (T : Addr), M[j]? = some e → bs[j]? = some T → H T = some (.tup (v2 e.1))
  | [], vs, bs, _, h => by
    have h : Paired _ [] bs := h
    cases h
    exact ⟨rfl, fun j e T q => by simp at q⟩
  | e :: M, [], _, h, _ => by simp at h
  | e :: M, v :: vs, bs, hl, h => by
    unfold IsKeys cameV at h
    rw [List.zipWith_cons_cons] at h
    cases h with
    | cons h1 h2 =>
      obtain ⟨z1, z2⟩ := wait_keys (M := M) (vs := vs) (by simpa using hl) h2
      refine ⟨by simp [z1], fun j e' T q1 q2 => ?_⟩
      cases j with
      | zero => simp at q1 q2; subst q1; subst q2; exact h1
      | succ j => exact z2 j e' T (by simpa using q1) (by simpa using q2)
def begM (pl : Plan) (us : List Nat) (i : Nat) : List Ent := ((pl.ins.take i).filter fun b => decide (b ∈ us)).map fun b => (((b, 0) : P2), none)
theorem begM_succ {pl : Plan} {us : List Nat} {i b : Nat} (h : pl.ins[i]? = some b) : begM pl us (i + 1) = begM pl us i ++ (if b ∈ us then [(((b, 0) : P2), none)] else []) := by
  unfold begM
  rw [take_more h, List.filter_append, List.map_append]
  by_cases q : b ∈ us
  · simp [q]
  · simp [q]
theorem begM_not {pl : Plan} {us : List Nat} {i b : Nat} (nd : pl.ins.Nodup) (h : pl.ins[i]? = some b) : ((b, 0) : P2) ∉ (begM pl us i).map Prod.fst := by
  unfold begM
  rw [List.map_map, List.mem_map]
  rintro ⟨x, hx, e⟩
  have : x = b := congrArg Prod.fst e
  subst this
  exact take_notin nd h (List.mem_filter.mp hx).1
theorem begM_srch {pl : Plan} {us : List Nat} (nd : pl.ins.Nodup) : Srch pl us (begM pl us pl.ins.length) := by
  have fst : ∀ p : P2, p ∈ (begM pl us pl.ins.length).map Prod.fst ↔ ∃ b, b ∈ pl.ins ∧ b ∈ us ∧ p = (b, 0) := fun p => by
    unfold begM
    rw [List.take_length, List.map_map, List.mem_map]
    constructor
    · rintro ⟨b, hb, rfl⟩
      obtain ⟨h1, h2⟩ := List.mem_filter.mp hb
      exact ⟨b, h1, by simpa using h2, rfl⟩
    · rintro ⟨b, h1, h2, rfl⟩
      exact ⟨b, List.mem_filter.mpr ⟨h1, by simpa using h2⟩, rfl⟩
  refine ⟨?_, fun b h1 h2 => (fst _).mpr ⟨b, h1, h2, rfl⟩, fun e he => ?_, fun e he _ => ?_, fun j e p ix he h => ?_⟩
  · unfold begM
    rw [List.take_length, List.map_map]
    unfold List.Nodup at nd ⊢
    rw [List.pairwise_map]
    exact (List.Pairwise.sublist List.filter_sublist nd).imp fun h e => h (congrArg Prod.fst e)
  · obtain ⟨b, _, h2, e2⟩ := (fst e.1).mp (List.mem_map.mpr ⟨e, he, rfl⟩)
    rw [e2]; exact h2
  · obtain ⟨b, h1, _, e2⟩ := (fst e.1).mp (List.mem_map.mpr ⟨e, he, rfl⟩)
    rw [e2]; exact ⟨rfl, h1⟩
  · have hm := List.mem_of_getElem? he
    unfold begM at hm
    obtain ⟨b, _, rfl⟩ := List.mem_map.mp hm
    cases h
theorem begM_inb {pl : Plan} {us : List Nat} {B : Int} (h : 0 ≤ B) (i : Nat) : InB B (begM pl us i) := fun e he => by
  unfold begM at he
  obtain ⟨b, _, rfl⟩ := List.mem_map.mp he
  exact ⟨h, by show -B ≤ 0; omega⟩
def farB (us : List Nat) (G : Int) : Int := ((us.length : Int) - 1) * G
structure FarAt (pl : Plan) (us : List Nat) (G : Int) (M : List Ent) (q : P2) : Prop where
  la : ∃ M0 e, M = M0 ++ [e] ∧ e.1 = q ∧ InB (farB us G) M0
  fa : ¬ (q.2 ≤ farB us G ∧ -(farB us G) ≤ q.2)
/-- the search, turn by turn -/
inductive RunN (pl : Plan) (us : List Nat) : Nat → List Ent → Nat → Nat → Prop
  | st : RunN pl us 0 (begM pl us pl.ins.length) 0 0
  | old {n k j : Nat} {M : List Ent} {e : Ent} {x : Nat × Int × Nat} : RunN pl us n M k j → M[k]? = some e → (leavL pl us e.1.1)[j]? = some x → (x.2.2, e.1.2 + x.2.1) ∈ M.map Prod.fst → RunN pl us (n + 1) M k (j + 1)
  | new {n k j : Nat} {M : List Ent} {e : Ent} {x : Nat × Int × Nat} : RunN pl us n M k j → M[k]? = some e → (leavL pl us e.1.1)[j]? = some x → (x.2.2, e.1.2 + x.2.1) ∉ M.map Prod.fst → RunN pl us (n + 1) (M ++ [((x.2.2, e.1.2 + x.2.1), some (e.1, x.1))]) k (j + 1)
  | nx {n k j : Nat} {M : List Ent} {e : Ent} : RunN pl us n M k j → M[k]? = some e → j = (leavL pl us e.1.1).length → RunN pl us (n + 1) M (k + 1) 0
def spMetL (K : PySem.W.Frag) (C : Addr) : Sp := fun vs H Q _ => ∃ (p : Addr) (pl : Plan) (top many long : Nat), vs = [.ref p] ∧ PacAt K C H p pl ∧ pl.Ok top many long ∧ top ≤ 10 ∧ many ≤ 50 ∧ long ≤ 50 ∧
  ∀ (r d : Addr) H' us M (G : Int) (fv : V), Same H H' → H' r = some (.tup [.ref d, fv]) → H d = none → UsefulL pl us → 0 ≤ G → G ≤ 50 → (∀ s ∈ us, ∀ e ∈ leavL pl us s, e.2.1 ≤ G ∧ -G ≤ e.2.1) → GEx pl us G → CameAt H' d M → Srch pl us M → M.length ≤ 20000 →
    ((fv = .non ∧ ShutAt pl us M M.length ∧ InB (farB us G) M ∧ ∃ n k, RunN pl us n M k 0 ∧ M[k]? = none) ∨ ∃ T q, fv = .ref T ∧ H' T = some (.tup (v2 q)) ∧ FarAt pl us G M q ∧ ∃ n k j, RunN pl us n M k j) → Q (.ref r) H'
section
variable {P : Program} {w : World} {K : PySem.W.Frag} {mg : Str → Option Value} {base : Heap}
theorem ok_PlacesMetL {f C : Addr} {fd : FuncData} {k : Nat} (F : Fun K "places_met" "places_met" sPlacesMet1 f fd) (T : PTxt K C) (nlen : mg "len" = none) (nabs : mg "abs" = none) (nlist : mg "list" = none) (CUsefulMoves : Cal P w K mg base k "useful_moves" ["pacer"] (spUsefulMoves K C)) (CFarthest : Cal P w K mg base k "farthest" ["leaving"] (spFarthest K)) : FnOk P w K mg base CX0 (k + 1) f fd ["pacer"] (spMetL K C) := by
  refine F.ok scPlacesMet1 (fun vs H Q E h => ?_) (fun cdv A outer s H vs Q E hr h => ?_)
  · obtain ⟨p, pl, top, many, long, rfl, _⟩ := h; rfl
  · obtain ⟨p, pl, top, many, long, rfl, hP, hO, t1, t2, t3, kQ⟩ := h
    have hu := hr.units
    have hu1 : (A.deeper (envOfC "places_met" (defScope sPlacesMet1) s.heap.objs.size f cdv)).units + 1 < cLine := by omega
    refine ⟨_, (pss_cons (ps_set (i := 1) scPlacesMet1.nd rfl (by first | exact Or.inl rfl | exact Or.inr rfl) (pe_cal CUsefulMoves hr (by rfl) pass0 (pa_cons (pv 0) pa_nil)))
      (pss_cons (ps_set (i := 2) scPlacesMet1.nd rfl (by first | exact Or.inl rfl | exact Or.inr rfl) (pe_cal CFarthest hr (by rfl) pass0 (pa_cons (pv 1) pa_nil)))
      (pss_cons (ps_setDcU (i := 3) (own := [("begin", 12)]) (g := (gName 12)) (by rfl) (Nat.lt_of_succ_lt hu1) scPlacesMet1.nd rfl rfl (swd_true rfl rfl rfl (by decide +kernel)) (pi_tup (pe_fld (pv 0) rfl)) (blkOk_by (own := [("begin", 12)]) (N := ["pacer", "leaving", "bound", "came", "waiting", "at", "state", "lead", "index", "gain", "further", "place", "begin"]) (sc := defScope sPlacesMet1) (by decide +kernel)) ⟨(fun _ _ _ _ _ => (pg_name (i := 12) scPlacesMet1.nd rfl (by first | exact Or.inl rfl | exact Or.inr rfl))), (fun _ _ _ _ _ => (pts_one (pt_cmp (pc_din hu1 (pv 12) (pv 1))))), (fun _ _ _ _ _ => (pe_tup (pa_cons (pv 12) (pa_cons pe_int pa_nil)))), (fun _ _ _ _ _ => pe_non)⟩)
      (pss_cons (ps_set (i := 4) scPlacesMet1.nd rfl (by first | exact Or.inl rfl | exact Or.inr rfl) (pe_callTy (call_list_dT rfl) (by rfl) nlist (by decide +kernel) (pa_cons (pv 3) pa_nil)))
      (pss_cons (ps_set (i := 5) scPlacesMet1.nd rfl (by first | exact Or.inl rfl | exact Or.inr rfl) pe_int)
      (pss_cons (ps_while PassesOwn.never (pt_cmpR op_lt (pv 5) (pe_callB (show CallR _ _ (rLenK K) from call_len) (by rfl) nlen (by decide +kernel) (pa_cons (pv 4) pa_nil)) (nomark _)) (pss_cons (ps_asg (pe_ix (show IxR _ (rIxL K) from ix_list) (pv 4) (pv 5) (fun _ _ => rfl)) (pg_tup (by rfl) (pgs_cons (pg_name (i := 6) scPlacesMet1.nd rfl (by first | exact Or.inl rfl | exact Or.inr rfl)) (pgs_cons (pg_name (i := 7) scPlacesMet1.nd rfl (by first | exact Or.inl rfl | exact Or.inr rfl)) pgs_nil))))
      (pss_cons (ps_for PassesOwn.never rfl (pi_list (pe_dget hu1 (pv 1) (pv 6) (fun _ _ => rfl))) (pg_tup (by rfl) (pgs_cons (pg_name (i := 8) scPlacesMet1.nd rfl (by first | exact Or.inl rfl | exact Or.inr rfl)) (pgs_cons (pg_name (i := 9) scPlacesMet1.nd rfl (by first | exact Or.inl rfl | exact Or.inr rfl)) (pgs_cons (pg_name (i := 10) scPlacesMet1.nd rfl (by first | exact Or.inl rfl | exact Or.inr rfl)) pgs_nil)))) (pss_cons (ps_set (i := 11) scPlacesMet1.nd rfl (by first | exact Or.inl rfl | exact Or.inr rfl) (pe_tup (pa_cons (pv 10) (pa_cons (pe_op op_add (pv 7) (pv 9)) pa_nil))))
      (pss_one (ps_if (pt_cmp (pc_dnotin hu1 (pv 11) (pv 3))) (pss_cons (ps_dput hu1 (pv 3) (pv 11) (pe_tup (pa_cons (pe_ix (show IxR _ (rIxL K) from ix_list) (pv 4) (pv 5) (fun _ _ => rfl)) (pa_cons (pv 8) pa_nil))) rfl)
      (pss_cons (ps_expr (pe_bm PySem.F.plainAttrs_list PySem.F.slot_list_append PySem.F.type_list_append mt_append (pv 4) (pa_cons (pv 11) pa_nil)))
      (pss_one (ps_if (pt_cmpR op_gt (pe_callB call_abs (by rfl) nabs (by decide +kernel) (pa_cons (pe_op op_add (pv 7) (pv 9)) pa_nil)) (pv 2) (nomark _)) (pss_one (ps_ret (pe_tup (pa_cons (pv 3) (pa_cons (pv 11) pa_nil))))) pss_nil)))) pss_nil))))
      (pss_one (ps_aug (i := 5) scPlacesMet1.nd rfl (by first | exact Or.inl rfl | exact Or.inr rfl) pe_int ip_add)))))
      (pss_one (ps_ret (pe_tup (pa_cons (pv 3) (pa_cons pe_non pa_nil))))))))))), ?_⟩
    have two : 2 ≤ sizeLine := by decide
    have hn := hO.n
    refine ⟨_, rfl, p, pl, top, many, long, rfl, hP, hO, by omega, t2, t3, fun dl H1 us s1 ndl U LA => ?_⟩
    have ul : us.length ≤ 10 := by
      have := asc_len (n := pl.wide) ⟨U.as, useful_lt hO U⟩
      have := hO.w2
      omega
    refine ⟨_, rfl, dl, pl, us, top, many, long, rfl, LA, hO, (by omega : top ≤ 50), t2, t3, (by omega : us.length ≤ 50), fun H2 G s2 g0 g1 hG gx => ?_⟩
    have LA2 := LA.up s2
    obtain ⟨ad, gl, hl⟩ := LA2.at'
    obtain ⟨dx, vb, vm, ve, e1, e2, e3, e4⟩ := (hP.up (s1.trans s2)).at'
    obtain ⟨is, his, hia⟩ : ∃ is, SqT K H2 vb is ∧ DqAll K H2 is (nats pl.ins) := by
      cases e2 with
      | tup hs ha => exact ⟨_, hs, ha⟩
    obtain rfl := dqAll_nats hia
    refine ⟨_, rfl, p, C, dx, _, _, rfl, e1, T.cl, T.nB, pf_b _ _ _ _, vb, rfl, ⟨_, his⟩, fun dc ndc => ?_⟩
    have ndi := asc_nodup hO.i.1
    have lI : pl.ins.length ≤ 50 := by
      have := asc_len hO.i
      have := hO.w2
      omega
    have n1 : H1 dc = none := s2.free ndc
    refine it_gen (walk_tup (K := K) (a := vb) (xs := pl.ins.map fun n : Nat => V.int (n : Int))) (fun i H' => CameAt H' dc (begM pl us i) ∧ (∀ x o, H2 x = some o → H' x = some o)) ⟨⟨[], rfl, upd_same, fun j e v q => by simp [begM] at q⟩, same_upd ndc⟩ (fun i H' _ z => ex_t' z.2 his) ?_ ?_
    · rintro i v H9 H3 hi ⟨cA, sm⟩ ⟨rfl, hv⟩
      obtain ⟨b, hb, rfl⟩ : ∃ b, pl.ins[i]? = some b ∧ v = .int (b : Int) := by
        rw [List.getElem?_map] at hv
        cases e : pl.ins[i]? with
        | none => rw [e] at hv; cases hv
        | some b => rw [e] at hv; exact ⟨b, rfl, (Option.some.inj hv).symm⟩
      refine ⟨rfl, _, rfl, _, rfl, dl, _, rfl, DGet.k (k := .inl (b : Int)) (sm _ _ gl), ?_⟩
      rw [leav_get]
      have hsucc := begM_succ (us := us) hb
      by_cases q : b ∈ us
      · rw [if_pos q] at hsucc ⊢
        refine ⟨_, rfl, iteT ⟨_, rfl, two, fun tp ntp => ?_⟩⟩
        have s4 : Same H3 (upd H3 tp (.tup [.int (b : Int), .int 0])) := same_upd ntp
        have g4 : upd H3 tp (.tup [.int (b : Int), .int 0]) tp = some (.tup (v2 (b, 0))) := upd_same
        generalize upd H3 tp (.tup [.int (b : Int), .int 0]) = H4 at s4 g4 ⊢
        obtain ⟨vs, v1, v2', v3⟩ := cA.at'
        have gd := s4 _ _ v2'
        have hno := came_none (vs := vs) (begM_not (us := us) ndi hb)
        have bl : (begM pl us i).length ≤ i := by
          unfold begM
          rw [List.length_map]
          exact Nat.le_trans (List.length_filter_le _ _) (by rw [List.length_take]; omega)
        rw [List.length_map] at hi
        refine ⟨_, k2 (b, 0), tp, rfl, g4, gd, lt_sz (by rw [cameV_len v1]; omega), ⟨vs ++ [.non], ?_, ?_, ?_⟩, ?_⟩
        · rw [hsucc, List.length_append, List.length_append, v1]; rfl
        · rw [upd_same, putK_new _ hno, hsucc, cameV_snoc v1]
        · intro j e v q1 q2
          rw [hsucc] at q1
          rcases Nat.lt_or_ge j (begM pl us i).length with lt | ge
          · rw [List.getElem?_append_left lt] at q1
            rw [List.getElem?_append_left (by rw [v1]; exact lt)] at q2
            refine (v3 j e v q1 q2).keep fun T' xs h => ?_
            have h4 := s4 _ _ h
            rw [upd_ne (ne_of h4 gd (fun z => nomatch z))]; exact h4
          · rw [List.getElem?_append_right ge] at q1
            have j0 : j - (begM pl us i).length = 0 := by
              have := (List.getElem?_eq_some_iff.mp q1).1
              simp at this; omega
            rw [j0] at q1
            rw [List.getElem?_append_right (by rw [v1]; exact ge), v1, j0] at q2
            simp at q1 q2
            subst q1; subst q2
            rfl
        · exact fun x o h => by rw [upd_ne (ne_of_none h ndc)]; exact s4 _ _ (sm _ _ h)
      · rw [if_neg q] at hsucc ⊢
        rw [List.append_nil] at hsucc
        exact ⟨_, rfl, iteF ⟨by rw [hsucc]; exact cA, sm⟩⟩
    rintro H3 ⟨cA, sm3⟩
    rw [List.length_map] at cA
    have S0 := begM_srch (us := us) ndi
    have inb0 : InB (farB us G) (begM pl us pl.ins.length) := by
      cases us with
      | nil => intro e he; have := S0.un e he; cases this
      | cons u r => exact begM_inb (by unfold farB; rw [List.length_cons]; exact Int.mul_nonneg (by omega) g0) _
    have bB : farB us G ≤ 500 := by
      unfold farB
      rcases Nat.eq_zero_or_pos us.length with z | z
      · rw [z]; show (((0 : Nat) : Int) - 1) * G ≤ 500; omega
      · exact Int.mul_le_mul (show (us.length : Int) - 1 ≤ 10 by omega) (show G ≤ 50 by omega) g0 (by decide)
    have lenM : ∀ {M : List Ent}, Srch pl us M → InB (farB us G) M → M.length ≤ 10010 := fun {M} S B => by
      have := srch_len (B := 500) S (fun e he => by obtain ⟨z1, z2⟩ := B e he; exact ⟨by omega, by omega⟩) (useful_lt hO U)
      have w2 := hO.w2
      have := Nat.mul_le_mul_right (2 * 500 + 1) (show pl.wide ≤ 10 by omega)
      omega
    have len0 := lenM S0 inb0
    have RS : RunN pl us 0 (begM pl us pl.ins.length) 0 0 := .st
    generalize begM pl us pl.ins.length = M0 at cA S0 inb0 len0 RS
    obtain ⟨vs0, c1, c2, c3⟩ := cA.at'
    refine ⟨_, rfl, dc, _, rfl, .inl c2, fun L bs nL hk => ?_⟩
    obtain ⟨k1, k3⟩ := wait_keys c1 hk
    have ndcL : dc ≠ L := ne_of_none c2 nL
    have sm3 : Same H2 H3 := sm3
    have n2 : H2 L = none := sm3.free nL
    have cA4 : CameAt (upd H3 L (.lst (bs.map V.ref))) dc M0 := cA.keep (fun x e => by rw [upd_ne ndcL]; exact e) (fun T xs e => by rw [upd_ne (ne_of_none e nL)]; exact e)
    have wA4 : WaitAt (upd H3 L (.lst (bs.map V.ref))) L M0 := ⟨bs, upd_same, k1, fun j e T q1 q2 => by have := k3 j e T q1 q2; rw [upd_ne (ne_of_none this nL)]; exact this⟩
    have sm4 : Same H2 (upd H3 L (.lst (bs.map V.ref))) := fun x o e => by rw [upd_ne (ne_of_none e n2)]; exact sm3 _ _ e
    generalize upd H3 L (.lst (bs.map V.ref)) = H4 at cA4 wA4 sm4 ⊢
    refine ⟨fun m σ H' => ∃ (M : List Ent) (at' : Nat) (y6 y7 y8 y9 y10 y11 y12 : Option V), σ = [some (.ref p), some (.ref dl), some (.int (farB us G)), some (.ref dc), some (.ref L), some (.int (at' : Int)), y6, y7, y8, y9, y10, y11, y12] ∧ Same H2 H' ∧ CameAt H' dc M ∧ WaitAt H' L M ∧ Srch pl us M ∧ InB (farB us G) M ∧ ShutAt pl us M at' ∧ (∃ n, RunN pl us n M at' 0) ∧ at' ≤ M.length ∧ m = 10011 - at', ⟨_, M0, 0, _, _, _, _, _, _, _, rfl, sm4, cA4, wA4, S0, inb0, fun j e hj => absurd hj (Nat.not_lt_zero _), ⟨0, RS⟩, Nat.zero_le _, rfl⟩, ?_⟩
    rintro m σ H5 ⟨M, at', y6, y7, y8, y9, y10, y11, y12, rfl, sm5, cA5, wA5, S5, B5, Sh5, ⟨nn, R5⟩, hat, hm⟩
    have lM := lenM S5 B5
    obtain ⟨ts, w1, w2, w3⟩ := wA5.at'
    refine ⟨_, rfl, _, rfl, .ref L, _, rfl, .inl ⟨_, sqOf w1, rfl⟩, ?_⟩
    refine ⟨_, _, rfl, rfl, _, rfl, ?_⟩
    have hb : decide ((at' : Int) < (((ts.map V.ref).length : Nat) : Int)) = decide (at' < M.length) := by rw [List.length_map, w2]; simp
    dsimp only
    rw [hb]
    by_cases hlt : at' < M.length
    case neg =>
      rw [decide_eq_false hlt]
      obtain rfl : at' = M.length := by omega
      refine ⟨_, rfl, two, fun r nr => ?_⟩
      refine kQ r dc _ us M G .non ((s1.trans s2).trans (sm5.trans (same_upd nr))) upd_same ((s1.trans s2).free ndc) U g0 (by omega) hG gx (cA5.keep (fun x e => by rw [upd_ne (ne_of_none e nr)]; exact e) fun T xs e => by rw [upd_ne (ne_of_none e nr)]; exact e) S5 (by omega) (.inl ⟨rfl, Sh5, B5, _, _, R5, List.getElem?_eq_none (Nat.le_refl _)⟩)
    case pos =>
      rw [decide_eq_true hlt]
      obtain ⟨e0, he0⟩ : ∃ e, M[at']? = some e := ⟨_, List.getElem?_eq_getElem hlt⟩
      obtain ⟨T0, hT0⟩ : ∃ T, ts[at']? = some T := ⟨_, List.getElem?_eq_getElem (by omega)⟩
      have gT0 := w3 at' e0 T0 he0 hT0
      have u0 := S5.un e0 (List.mem_of_getElem? he0)
      obtain ⟨ls, q1, q2⟩ := hl e0.1.1 u0
      have ll : ls.length = (leavL pl us e0.1.1).length := by rw [q2.len, List.length_map]
      refine ⟨fun σ' H' => ∃ m' < m, ∃ (M : List Ent) (at' : Nat) (y6 y7 y8 y9 y10 y11 y12 : Option V), σ' = [some (.ref p), some (.ref dl), some (.int (farB us G)), some (.ref dc), some (.ref L), some (.int (at' : Int)), y6, y7, y8, y9, y10, y11, y12] ∧ Same H2 H' ∧ CameAt H' dc M ∧ WaitAt H' L M ∧ Srch pl us M ∧ InB (farB us G) M ∧ ShutAt pl us M at' ∧ (∃ n, RunN pl us n M at' 0) ∧ at' ≤ M.length ∧ m' = 10011 - at', fun σ' H' hN => by obtain ⟨m', h1, h2⟩ := hN; exact ⟨m', h1, h2⟩, ?_⟩
      refine ⟨.ref L, rfl, .int (at' : Int), rfl, L, _, (at' : Int), _, rfl, rfl, sqOf w1, atI_nat (j := at') (by rw [List.getElem?_map, hT0]; rfl), ?_⟩
      refine ⟨T0, _, rfl, stOf gT0, rfl, _, _, rfl, _, _, rfl, rfl, ?_⟩
      refine ⟨.ref dl, rfl, .int (e0.1.1 : Int), rfl, dl, .ref (ad e0.1.1), rfl, ?_, ad e0.1.1, rfl, ⟨_, sqOf (sm5 _ _ q1)⟩, ?_⟩
      · rw [← leav_get_pos (ad := ad) u0]
        exact DGet.k (k := .inl (e0.1.1 : Int)) (sm5 _ _ gl)
      refine for_it walk_list (fun j σ H' => ∃ (M' : List Ent) (y8 y9 y10 y11 y12 : Option V), σ = [some (.ref p), some (.ref dl), some (.int (farB us G)), some (.ref dc), some (.ref L), some (.int (at' : Int)), some (.int (e0.1.1 : Int)), some (.int e0.1.2), y8, y9, y10, y11, y12] ∧ Same H2 H' ∧ CameAt H' dc M' ∧ WaitAt H' L M' ∧ Srch pl us M' ∧ InB (farB us G) M' ∧ (∃ N, M' = M ++ N) ∧ (∃ n, RunN pl us n M' at' j) ∧ (∀ x ∈ (leavL pl us e0.1.1).take j, (x.2.2, e0.1.2 + x.2.1) ∈ M'.map Prod.fst))
        ⟨M, _, _, _, _, _, rfl, sm5, cA5, wA5, S5, B5, ⟨[], (List.append_nil _).symm⟩, ⟨nn, R5⟩, fun x hx => by rw [List.take_zero] at hx; cases hx⟩ (fun j σ H' _ z => by obtain ⟨_, _, _, _, _, _, _, sm, _⟩ := z; exact sqOf (sm _ _ q1)) ?_ ?_
      · rintro j v σ H9 H6 hj ⟨M', y8, y9, y10, y11, y12, rfl, sm6, cA6, wA6, S6, B6, ⟨N, rfl⟩, ⟨nn6, R6⟩, al⟩ ⟨rfl, hv⟩
        obtain ⟨dd, hdd, hdq⟩ := q2.at hv
        obtain ⟨e, he, rfl⟩ : ∃ e, (leavL pl us e0.1.1)[j]? = some e ∧ dd = lvD e := by
          rw [List.getElem?_map] at hdd
          cases q : (leavL pl us e0.1.1)[j]? with
          | none => rw [q] at hdd; cases hdd
          | some b => rw [q] at hdd; exact ⟨b, rfl, (Option.some.inj hdd).symm⟩
        obtain ⟨a, rfl, hs3⟩ := dq_lv (hdq.up sm6)
        have tkj := take_more he
        have he0' : (M ++ N)[at']? = some e0 := by rw [List.getElem?_append_left hlt]; exact he0
        refine ⟨a, _, rfl, hs3, rfl, _, _, rfl, _, _, rfl, _, _, rfl, rfl, ?_⟩
        refine ⟨_, rfl, _, rfl, _, rfl, _, _, rfl, rfl, two, fun tp ntp => ?_⟩
        have s7 : Same H6 (upd H6 tp (.tup [.int (e.2.2 : Int), .int (e0.1.2 + e.2.1)])) := same_upd ntp
        have g7 : upd H6 tp (.tup [.int (e.2.2 : Int), .int (e0.1.2 + e.2.1)]) tp = some (.tup (v2 (e.2.2, e0.1.2 + e.2.1))) := upd_same
        generalize upd H6 tp (.tup [.int (e.2.2 : Int), .int (e0.1.2 + e.2.1)]) = H7 at s7 g7 ⊢
        have cA7 := cA6.keep (fun x e => s7 _ _ e) (fun T xs e => s7 _ _ e)
        have wA7 := wA6.keep (fun x e => s7 _ _ e) (fun T xs e => s7 _ _ e)
        have sm7 := sm6.trans s7
        obtain ⟨m, hm', m1, m2, m3, m4, m5⟩ := mem_leav.mp (List.mem_of_getElem? he)
        have hkey : e0.1 ∈ (M ++ N).map Prod.fst := List.mem_map.mpr ⟨e0, List.mem_append_left _ (List.mem_of_getElem? he0), rfl⟩
        have hex : ∃ m, pl.ways[e.1]? = some m ∧ m.s = e0.1.1 ∧ m.t = e.2.2 ∧ e0.1.2 + e.2.1 = e0.1.2 + m.gain := ⟨m, hm', m1, m5.symm, by rw [m4]⟩
        have hqu : e.2.2 ∈ us := by rw [m5]; exact m3
        obtain ⟨o, hgo, ho⟩ := cA7.in g7
        refine ⟨.ref tp, rfl, .ref dc, rfl, dc, o, rfl, hgo, _, rfl, ?_⟩
        rw [ho]
        by_cases hin : (e.2.2, e0.1.2 + e.2.1) ∈ (M ++ N).map Prod.fst
        · rw [decide_eq_true hin]
          refine iteF ⟨M ++ N, _, _, _, _, _, rfl, sm7, cA7, wA7, S6, B6, ⟨N, rfl⟩, ⟨_, R6.old he0' he hin⟩, fun x hx => ?_⟩
          rw [tkj] at hx
          rcases List.mem_append.mp hx with z | z
          · exact al x z
          · rw [List.mem_singleton.mp z]; exact hin
        rw [decide_eq_false hin]
        have lM' := lenM S6 B6
        have S8 := srch_snoc S6 hin hqu hkey hex
        obtain ⟨ts', x1, x2, x3⟩ := wA7.at'
        obtain ⟨T1, hT1⟩ : ∃ T, ts'[at']? = some T := ⟨_, List.getElem?_eq_getElem (by rw [x2, List.length_append]; omega)⟩
        have gT1 := x3 at' e0 T1 he0' hT1
        refine iteT ⟨.ref L, rfl, .int (at' : Int), rfl, L, _, (at' : Int), _, rfl, rfl, sqOf x1, atI_nat (j := at') (by rw [List.getElem?_map, hT1]; rfl), _, rfl, two, fun tv ntv => ?_⟩
        have s8 : Same H7 (upd H7 tv (.tup [.ref T1, .int (e.1 : Int)])) := same_upd ntv
        have g8 : upd H7 tv (.tup [.ref T1, .int (e.1 : Int)]) tv = some (.tup [.ref T1, .int (e.1 : Int)]) := upd_same
        generalize upd H7 tv (.tup [.ref T1, .int (e.1 : Int)]) = H8 at s8 g8 ⊢
        have cA8 := cA7.keep (fun x e => s8 _ _ e) (fun T xs e => s8 _ _ e)
        have gL8 := s8 _ _ x1
        have sm8 := sm7.trans s8
        have gT8 := s8 _ _ gT1
        have gp8 := s8 _ _ g7
        have w8 : ∀ (j : Nat) (e : Ent) (T : Addr), (M ++ N)[j]? = some e → ts'[j]? = some T → H8 T = some (.tup (v2 e.1)) := fun j e T q1 q2 => s8 _ _ (x3 j e T q1 q2)
        obtain ⟨vs, v1, v2', v3⟩ := cA8.at'
        have hno := came_none (vs := vs) hin
        refine ⟨.ref dc, rfl, .ref tp, rfl, dc, _, rfl, DPut.t (k := k2 (e.2.2, e0.1.2 + e.2.1)) v2' gp8 (lt_sz (by rw [cameV_len v1]; omega)), ?_⟩
        rw [putK_new _ hno, ← cameV_snoc (e := ((e.2.2, e0.1.2 + e.2.1), some (e0.1, e.1))) v1]
        have tupne : ∀ (T : Addr) (xs : List V), H8 T = some (.tup xs) → upd H8 dc (.dT (cameV (M ++ N ++ [((e.2.2, e0.1.2 + e.2.1), some (e0.1, e.1))]) (vs ++ [.ref tv]))) T = some (.tup xs) := fun T xs h => by rw [upd_ne (ne_of h v2' (fun z => nomatch z))]; exact h
        have gd9 : upd H8 dc (.dT (cameV (M ++ N ++ [((e.2.2, e0.1.2 + e.2.1), some (e0.1, e.1))]) (vs ++ [.ref tv]))) dc = some (.dT (cameV (M ++ N ++ [((e.2.2, e0.1.2 + e.2.1), some (e0.1, e.1))]) (vs ++ [.ref tv]))) := upd_same
        have gL9 : upd H8 dc (.dT (cameV (M ++ N ++ [((e.2.2, e0.1.2 + e.2.1), some (e0.1, e.1))]) (vs ++ [.ref tv]))) L = some (.lst (ts'.map V.ref)) := by rw [upd_ne ndcL.symm]; exact gL8
        have sm9 : Same H2 (upd H8 dc (.dT (cameV (M ++ N ++ [((e.2.2, e0.1.2 + e.2.1), some (e0.1, e.1))]) (vs ++ [.ref tv])))) := fun x o h => by rw [upd_ne (ne_of_none h ndc)]; exact sm8 _ _ h
        generalize upd H8 dc (.dT (cameV (M ++ N ++ [((e.2.2, e0.1.2 + e.2.1), some (e0.1, e.1))]) (vs ++ [.ref tv]))) = H9 at tupne gd9 gL9 sm9 ⊢
        refine ⟨.ref L, rfl, .inl ⟨rfl, _, sqOf gL9⟩, .ref tp, rfl, L, _, _, rfl, rfl, gL9, lt_sz (by rw [List.length_map, x2]; omega), ?_⟩
        have tup10 : ∀ (T : Addr) (xs : List V), H8 T = some (.tup xs) → upd H9 L (.lst (ts'.map V.ref ++ [.ref tp])) T = some (.tup xs) := fun T xs h => by
          have h9 := tupne T xs h
          rw [upd_ne (ne_of h9 gL9 (fun z => nomatch z))]; exact h9
        have gd10 : upd H9 L (.lst (ts'.map V.ref ++ [.ref tp])) dc = some (.dT (cameV (M ++ N ++ [((e.2.2, e0.1.2 + e.2.1), some (e0.1, e.1))]) (vs ++ [.ref tv]))) := by rw [upd_ne ndcL]; exact gd9
        have gL10 : upd H9 L (.lst (ts'.map V.ref ++ [.ref tp])) L = some (.lst ((ts' ++ [tp]).map V.ref)) := by rw [upd_same, List.map_append]; rfl
        have sm10 : Same H2 (upd H9 L (.lst (ts'.map V.ref ++ [.ref tp]))) := fun x o h => by rw [upd_ne (ne_of_none h n2)]; exact sm9 _ _ h
        generalize upd H9 L (.lst (ts'.map V.ref ++ [.ref tp])) = H10 at tup10 gd10 gL10 sm10 ⊢
        have cA10 : CameAt H10 dc (M ++ N ++ [((e.2.2, e0.1.2 + e.2.1), some (e0.1, e.1))]) := by
          refine ⟨vs ++ [.ref tv], by rw [List.length_append, List.length_append, v1]; rfl, gd10, fun j e' v q1 q2 => ?_⟩
          rcases Nat.lt_or_ge j (M ++ N).length with lt | ge
          · rw [List.getElem?_append_left lt] at q1
            rw [List.getElem?_append_left (by rw [v1]; exact lt)] at q2
            exact (v3 j e' v q1 q2).keep fun T' xs h => tup10 _ _ h
          · rw [List.getElem?_append_right ge] at q1
            have j0 : j - (M ++ N).length = 0 := by
              have := (List.getElem?_eq_some_iff.mp q1).1
              simp only [List.length_cons, List.length_nil] at this; omega
            rw [j0] at q1
            rw [List.getElem?_append_right (by rw [v1]; exact ge), v1, j0] at q2
            cases q1; cases q2
            exact ⟨tv, T1, rfl, tup10 _ _ g8, tup10 _ _ gT8⟩
        have wA10 : WaitAt H10 L (M ++ N ++ [((e.2.2, e0.1.2 + e.2.1), some (e0.1, e.1))]) := by
          refine ⟨ts' ++ [tp], gL10, by rw [List.length_append, List.length_append, x2]; rfl, fun j e' T q1 q2 => ?_⟩
          rcases Nat.lt_or_ge j (M ++ N).length with lt | ge
          · rw [List.getElem?_append_left lt] at q1
            rw [List.getElem?_append_left (by rw [x2]; exact lt)] at q2
            exact tup10 _ _ (w8 j e' T q1 q2)
          · rw [List.getElem?_append_right ge] at q1
            have j0 : j - (M ++ N).length = 0 := by
              have := (List.getElem?_eq_some_iff.mp q1).1
              simp only [List.length_cons, List.length_nil] at this; omega
            rw [j0] at q1
            rw [List.getElem?_append_right (by rw [x2]; exact ge), x2, j0] at q2
            cases q1; cases q2
            exact tup10 _ _ gp8
        refine ⟨_, rfl, _, rfl, _, _, rfl, rfl, _, rfl, _, rfl, _, _, rfl, rfl, _, rfl, ?_⟩
        have hdec : decide ((if e0.1.2 + e.2.1 < 0 then -(e0.1.2 + e.2.1) else e0.1.2 + e.2.1) > farB us G) = decide (¬ (e0.1.2 + e.2.1 ≤ farB us G ∧ -(farB us G) ≤ e0.1.2 + e.2.1)) := by
          by_cases z : e0.1.2 + e.2.1 < 0
          · rw [if_pos z]; exact decide_eq_decide.mpr ⟨by omega, by omega⟩
          · rw [if_neg z]; exact decide_eq_decide.mpr ⟨by omega, by omega⟩
        rw [hdec]
        have l10 : (M ++ N ++ [((e.2.2, e0.1.2 + e.2.1), some (e0.1, e.1))] : List Ent).length ≤ 20000 := by rw [List.length_append]; show _ + 1 ≤ _; omega
        by_cases hfar : e0.1.2 + e.2.1 ≤ farB us G ∧ -(farB us G) ≤ e0.1.2 + e.2.1
        · rw [decide_eq_false (not_not_intro hfar)]
          refine iteF ⟨_, _, _, _, _, _, rfl, sm10, cA10, wA10, S8, fun x hx => ?_, ⟨N ++ [((e.2.2, e0.1.2 + e.2.1), some (e0.1, e.1))], by rw [List.append_assoc]⟩, ⟨_, R6.new he0' he hin⟩, fun x hx => ?_⟩
          · rcases List.mem_append.mp hx with z | z
            · exact B6 x z
            · rw [List.mem_singleton.mp z]; exact hfar
          · rw [tkj] at hx
            rw [List.map_append]
            rcases List.mem_append.mp hx with z | z
            · exact List.mem_append_left _ (al x z)
            · rw [List.mem_singleton.mp z]; exact List.mem_append_right _ List.mem_cons_self
        · rw [decide_eq_true hfar]
          refine iteT ⟨_, rfl, _, rfl, two, fun r nr => ?_⟩
          have kr : ∀ (T : Addr) (xs : List V), H10 T = some (.tup xs) → upd H10 r (.tup [.ref dc, .ref tp]) T = some (.tup xs) := fun T xs h => by rw [upd_ne (ne_of_none h nr)]; exact h
          exact kQ r dc _ us _ G (.ref tp) ((s1.trans s2).trans (sm10.trans (same_upd nr))) upd_same ((s1.trans s2).free ndc) U g0 (by omega) hG gx (cA10.keep (fun x h => by rw [upd_ne (ne_of_none h nr)]; exact h) kr) S8 l10 (.inr ⟨tp, (e.2.2, e0.1.2 + e.2.1), rfl, kr _ _ (tup10 _ _ gp8), ⟨⟨_, _, rfl, rfl, B6⟩, hfar⟩, _, _, _, R6.new he0' he hin⟩)
      · rintro σ H6 ⟨M', y8, y9, y10, y11, y12, rfl, sm6, cA6, wA6, S6, B6, ⟨N, rfl⟩, ⟨nn6, R6⟩, al⟩
        rw [ll, List.take_length] at al
        rw [ll] at R6
        refine ⟨_, rfl, _, _, rfl, rfl, ?_⟩
        refine ⟨10011 - (at' + 1), by omega, M ++ N, at' + 1, _, _, _, _, _, _, _, rfl, sm6, cA6, wA6, S6, B6, fun j e hj he x hx => ?_, ⟨_, R6.nx (by rw [List.getElem?_append_left hlt]; exact he0) rfl⟩, by rw [List.length_append]; omega, rfl⟩
        rcases Nat.lt_or_ge j at' with lt | ge
        · rw [List.getElem?_append_left (by omega)] at he
          rw [List.map_append]
          exact List.mem_append_left _ (Sh5 j e lt he x hx)
        · obtain rfl : j = at' := by omega
          rw [List.getElem?_append_left hlt, he0] at he
          cases he
          exact al x hx
end
end KP
namespace KP
open PySem PySem.Spec PyProof.Rows L2 EL
open Evl (pss_cut)
abbrev sLeadsByState : Stmt := topS 40
theorem scLeadsByState : FnScope ["came", "found", "state", "lead"] ["came"] (defScope sLeadsByState) := ⟨rfl, rfl, rfl, by decide +kernel, rfl, by decide +kernel, by decide +kernel⟩
def ldsOf (M : List Ent) (s : Nat) : List Int := (M.filter fun e => decide (e.1.1 = s)).map fun e => e.1.2
abbrev ldE (e : Ent) : L2.Key × PyData := (.inl (e.1.1 : Int), .int e.1.2)
theorem ofK_ld (M : List Ent) (s : Nat) : ofK (M.map ldE) (.inl (s : Int)) = (ldsOf M s).map PyData.int := by
  unfold ofK ldsOf
  induction M with
  | nil => rfl
  | cons e r ih =>
    by_cases h : e.1.1 = s
    · rw [List.map_cons, List.filter_cons_of_pos (by simp [h]), List.filter_cons_of_pos (by simp [h]), List.map_cons, List.map_cons, List.map_cons, ih]
    · have h2 : ¬ ((e.1.1 : Int) = (s : Int)) := by omega
      rw [List.map_cons, List.filter_cons_of_neg (by simp [h2]), List.filter_cons_of_neg (by simp [h]), ih]
theorem dqAll_ints2 {K : PySem.W.Frag} {H : Hp} : ∀ {vs : List V} {ns : List Int}, DqAll K H vs (ns.map PyData.int) → vs = ns.map V.int
  | _, [], h => by cases h; rfl
  | _, n :: r, h => by
    cases h with
    | cons h1 h2 => cases h1; rw [dqAll_ints2 h2]; rfl
structure LeadsAt (H : Hp) (r : Addr) (M : List Ent) : Prop where
  at' : ∃ kvs : List (L2.Key × V), H r = some (.dK kvs) ∧ kvs.map (·.1) = keysOf (M.map ldE) ∧ ∀ s : Nat, (valV kvs (.inl (s : Int)) = none ∧ ldsOf M s = []) ∨ ∃ l, valV kvs (.inl (s : Int)) = some (.ref l) ∧ H l = some (.lst ((ldsOf M s).map V.int))
def spLeads (K : PySem.W.Frag) : Sp := fun vs H Q _ => ∃ (d : Addr) (M : List Ent), vs = [.ref d] ∧ CameAt H d M ∧ M.length ≤ 20000 ∧ ∀ r H', Same H H' → H r = none → LeadsAt H' r M → Q (.ref r) H'
section
variable {P : Program} {w : World} {K : PySem.W.Frag} {mg : Str → Option Value} {base : Heap}
theorem ok_LeadsByState {f : Addr} {fd : FuncData} {k : Nat} (F : Fun K "leads_by_state" "leads_by_state" sLeadsByState f fd) : FnOk P w K mg base CX0 (k + 1) f fd ["came"] (spLeads K) := by
  refine F.ok scLeadsByState (fun vs H Q E h => ?_) (fun cdv A outer s H vs Q E hr h => ?_)
  · obtain ⟨d, M, rfl, _⟩ := h; rfl
  · obtain ⟨d, M, rfl, hC, hM, kQ⟩ := h
    have hu := hr.units
    have hu1 : (A.deeper (envOfC "leads_by_state" (defScope sLeadsByState) s.heap.objs.size f cdv)).units + 1 < cLine := by omega
    refine ⟨_, (pss_cons (ps_set (i := 1) scLeadsByState.nd rfl (by first | exact Or.inl rfl | exact Or.inr rfl) pe_dnewK)
      (pss_cons (ps_lock (ps_for PassesOwn.never rfl (pi_keys (pv 0)) (pg_tup (by rfl) (pgs_cons (pg_name (i := 2) scLeadsByState.nd rfl (by first | exact Or.inl rfl | exact Or.inr rfl)) (pgs_cons (pg_name (i := 3) scLeadsByState.nd rfl (by first | exact Or.inl rfl | exact Or.inr rfl)) pgs_nil))) (pss_one (ps_grp (pv 1) (pv 2) (pv 3) ⟨by rfl, by rfl, by rfl, by rfl⟩))))
      (pss_one (ps_ret (pv 1))))), ?_⟩
    refine fun a na => ?_
    obtain ⟨vs, v1, gd, v3⟩ := hC.at'
    have da : d ≠ a := ne_of_none gd na
    have s1 := same_upd (o := .dK []) na
    have kl := cameV_len v1
    refine ⟨d, .dT (cameV M vs), s1 _ _ gd, trivial, fun od => ?_⟩
    have e2 : upd (upd H a (.dK [])) d (.frz od (.dT (cameV M vs))) = upd (upd H d (.frz od (.dT (cameV M vs)))) a (.dK []) := by
      funext b
      by_cases ea : b = a
      · subst ea; rw [upd_ne da.symm, upd_same, upd_same]
      · rw [upd_ne ea]
        by_cases ed : b = d
        · subst ed; rw [upd_same, upd_same]
        · rw [upd_ne ed, upd_ne ed, upd_ne ea]
    rw [e2]
    have nb : upd H d (.frz od (.dT (cameV M vs))) a = none := by rw [upd_ne da.symm]; exact na
    have sb : ∀ b o, b ≠ d → H b = some o → upd H d (.frz od (.dT (cameV M vs))) b = some o := fun b o h e => by rw [upd_ne h]; exact e
    have gb : upd H d (.frz od (.dT (cameV M vs))) d = some (.frz od (.dT (cameV M vs))) := upd_same
    have back : ∀ {G : Hp}, Same (upd H d (.frz od (.dT (cameV M vs)))) G → Same H (upd G d (.dT (cameV M vs))) := fun {G} sm b o e => by
      by_cases ed : b = d
      · subst ed; rw [gd] at e; cases e; exact upd_same
      · rw [upd_ne ed]; exact sm _ _ (sb b o ed e)
    generalize upd H d (.frz od (.dT (cameV M vs))) = Hb at nb gb back ⊢
    have G1 : Grp K Hb (upd Hb a (.dK [])) a [] := Grp.start nb
    have gb1 : upd Hb a (.dK []) d = some (.frz od (.dT (cameV M vs))) := by rw [upd_ne da]; exact gb
    generalize upd Hb a (.dK []) = H2 at G1 gb1 ⊢
    refine ⟨_, rfl, d, od, rfl, .inr ⟨_, gb1, ?_⟩⟩
    refine for_it walk_keysT (fun i σ H' => ∃ (y2 y3 : Option V), σ = [some (.ref d), some (.ref a), y2, y3] ∧ Grp K Hb H' a ((M.take i).map ldE))
      ⟨_, _, rfl, G1⟩ (fun i σ H' _ z => by obtain ⟨_, _, _, g⟩ := z; exact g.same _ _ gb) ?_ ?_
    · rintro i v σ H9 H3 hi ⟨y2, y3, rfl, g⟩ ⟨rfl, k0, v0, q, hkv, rfl, hq⟩
      obtain ⟨e, he, rfl⟩ : ∃ e, M[i]? = some e ∧ k0 = k2 e.1 := by
        unfold cameV at hkv
        rw [List.getElem?_zipWith] at hkv
        cases q1 : M[i]? with
        | none => rw [q1] at hkv; cases hkv
        | some e =>
          cases q2 : vs[i]? with
          | none => rw [q1, q2] at hkv; cases hkv
          | some v => rw [q1, q2] at hkv; cases hkv; exact ⟨e, rfl, rfl⟩
      refine ⟨q, _, rfl, stOf hq, rfl, _, _, rfl, _, _, rfl, rfl, ?_⟩
      refine ⟨_, rfl, a, Hb, _, rfl, g, by rw [List.length_map, List.length_take]; omega, _, rfl, .inl (e.1.1 : Int), rfl, Same.refl _, fun H5 s5 _ => ⟨_, rfl, .int e.1.2, Same.refl _, GrpItem.int _, fun H6 g6 => ?_⟩⟩
      rw [take_more he, List.map_append]
      exact ⟨_, _, rfl, g6⟩
    · rintro σ H3 ⟨y2, y3, rfl, g⟩
      rw [kl, List.take_length] at g
      refine ⟨g.same _ _ gb, ?_⟩
      refine ⟨_, rfl, kQ a _ (back g.same) na ?_⟩
      obtain ⟨kvs, z1, z2, z3⟩ := g.get
      have gd3 := g.same _ _ gb
      refine ⟨kvs, by rw [upd_ne (fun e => da e.symm)]; exact z1, z2, fun s => ?_⟩
      rcases z3 (.inl (s : Int)) with ⟨q1, q2⟩ | ⟨l, ws, q1, _, q3, q4⟩
      · rw [ofK_ld] at q2
        exact .inl ⟨q1, List.map_eq_nil_iff.mp q2⟩
      · rw [ofK_ld] at q4
        obtain rfl := dqAll_ints2 q4
        exact .inr ⟨l, q1, by rw [upd_ne (fun e => by rw [e, gd3] at q3; cases q3)]; exact q3⟩
end
end KP
namespace KP
open PySem PySem.Spec PyProof.Rows L2 EL
open Evl (pss_cut)
abbrev sWayTo : Stmt := topS 42
theorem scWayTo : FnScope ["came", "last", "places", "indexes", "place", "index"] ["came", "last"] (defScope sWayTo) := ⟨rfl, rfl, rfl, by decide +kernel, rfl, by decide +kernel, by decide +kernel⟩
/-- places one after another, and the moves between them -/
def Walked (pl : Plan) : List P2 → List Nat → Prop
  | [_], [] => True
  | p :: q :: ps, i :: is => (∃ m, pl.ways[i]? = some m ∧ m.s = p.1 ∧ m.t = q.1 ∧ q.2 = p.2 + m.gain) ∧ Walked pl (q :: ps) is
  | _, _ => False
structure RowAt (H : Hp) (L : Addr) (ps : List P2) : Prop where
  at' : ∃ ts : List Addr, H L = some (.lst (ts.map V.ref)) ∧ ts.length = ps.length ∧ ∀ (j : Nat) (p : P2) (T : Addr), ps[j]? = some p → ts[j]? = some T → H T = some (.tup (v2 p))
/-- the way that the search went to q, and the indexes of its moves -/
inductive WayM (M : List Ent) : P2 → List P2 → List Nat → Prop
  | root {q : P2} : (q, none) ∈ M → WayM M q [q] []
  | step {p q : P2} {i : Nat} {ps : List P2} {is : List Nat} : WayM M p ps is → (q, some (p, i)) ∈ M → WayM M q (ps ++ [q]) (is ++ [i])
theorem wayM_uniq {M : List Ent} (nd : (M.map Prod.fst).Nodup) {q : P2} {ps ps' : List P2} {is is' : List Nat} (h : WayM M q ps is) (h' : WayM M q ps' is') : ps = ps' ∧ is = is' := by
  have one : ∀ {q : P2} {a b : Option (P2 × Nat)}, (q, a) ∈ M → (q, b) ∈ M → a = b := fun {q a b} ha hb => by
    obtain ⟨i, hi⟩ := List.mem_iff_getElem?.mp ha
    obtain ⟨j, hj⟩ := List.mem_iff_getElem?.mp hb
    have gi : (M.map Prod.fst)[i]? = some q := by rw [List.getElem?_map, hi]; rfl
    have gj : (M.map Prod.fst)[j]? = some q := by rw [List.getElem?_map, hj]; rfl
    have e : i = j := by
      obtain ⟨li, ei⟩ := List.getElem?_eq_some_iff.mp gi
      obtain ⟨lj, ej⟩ := List.getElem?_eq_some_iff.mp gj
      unfold List.Nodup at nd
      rw [List.pairwise_iff_getElem] at nd
      rcases Nat.lt_trichotomy i j with z | z | z
      · exact absurd (ei.trans ej.symm) (nd i j li lj z)
      · exact z
      · exact absurd (ej.trans ei.symm) (nd j i lj li z)
    rw [e, hj] at hi
    exact (congrArg Prod.snd (Option.some.inj hi)).symm
  induction h generalizing ps' is' with
  | root h1 =>
    cases h' with
    | root _ => exact ⟨rfl, rfl⟩
    | step _ h2 => cases one h1 h2
  | step _ h1 ih =>
    cases h' with
    | root h2 => cases one h1 h2
    | step w h2 =>
      cases one h1 h2
      obtain ⟨rfl, rfl⟩ := ih w
      exact ⟨rfl, rfl⟩
def spWayTo (K : PySem.W.Frag) : Sp := fun vs H Q _ => ∃ (d T : Addr) (pl : Plan) (us : List Nat) (M : List Ent) (q : P2), vs = [.ref d, .ref T] ∧ CameAt H d M ∧ Srch pl us M ∧ M.length ≤ 20000 ∧ H T = some (.tup (v2 q)) ∧ q ∈ M.map Prod.fst ∧
  ∀ r L1 L2 H' b ps is, Same H H' → H' r = some (.tup [.ref L1, .ref L2]) → RowAt H' L1 ((b, 0) :: ps) → H' L2 = some (.lst (is.map fun n : Nat => V.int (n : Int))) → b ∈ pl.ins → Walked pl ((b, 0) :: ps) is → ((b, 0) :: ps).getLast? = some q → (∀ p ∈ (b, 0) :: ps, p.1 ∈ us) → ps.length ≤ M.length → WayM M q ((b, 0) :: ps) is → Q (.ref r) H'
section
variable {P : Program} {w : World} {K : PySem.W.Frag} {mg : Str → Option Value} {base : Heap}
theorem ok_WayTo {f : Addr} {fd : FuncData} {k : Nat} (F : Fun K "way_to" "way_to" sWayTo f fd) : FnOk P w K mg base CX0 (k + 1) f fd ["came", "last"] (spWayTo K) := by
  refine F.ok scWayTo (fun vs H Q E h => ?_) (fun cdv A outer s H vs Q E hr h => ?_)
  · obtain ⟨d, T, pl, us, M, q, rfl, _⟩ := h; rfl
  · obtain ⟨d, T, pl, us, M, q, rfl, hC, hS, hM, hT, hq, kQ⟩ := h
    have hu := hr.units
    have hu1 : (A.deeper (envOfC "way_to" (defScope sWayTo) s.heap.objs.size f cdv)).units + 1 < cLine := by omega
    have two : 2 ≤ sizeLine := by decide
    refine ⟨_, (pss_cons (ps_set (i := 2) scWayTo.nd rfl (by first | exact Or.inl rfl | exact Or.inr rfl) (pe_lst (pa_cons (pv 1) pa_nil)))
      (pss_cons (ps_set (i := 3) scWayTo.nd rfl (by first | exact Or.inl rfl | exact Or.inr rfl) (pe_lst pa_nil))
      (pss_cons (ps_while PassesOwn.never (pt_cmpR op_notN (pe_dget hu1 (pv 0) (pe_ix (show IxR _ (rIxL K) from ix_list) (pv 2) (pe_un un_neg pe_int) (fun _ _ => rfl)) (fun _ _ => rfl)) pe_non (nomark _)) (pss_cons (ps_asg (pe_dget hu1 (pv 0) (pe_ix (show IxR _ (rIxL K) from ix_list) (pv 2) (pe_un un_neg pe_int) (fun _ _ => rfl)) (fun _ _ => rfl)) (pg_tup (by rfl) (pgs_cons (pg_name (i := 4) scWayTo.nd rfl (by first | exact Or.inl rfl | exact Or.inr rfl)) (pgs_cons (pg_name (i := 5) scWayTo.nd rfl (by first | exact Or.inl rfl | exact Or.inr rfl)) pgs_nil))))
      (pss_cons (ps_expr (pe_bm PySem.F.plainAttrs_list PySem.F.slot_list_append PySem.F.type_list_append mt_append (pv 2) (pa_cons (pv 4) pa_nil)))
      (pss_one (ps_expr (pe_bm PySem.F.plainAttrs_list PySem.F.slot_list_append PySem.F.type_list_append mt_append (pv 3) (pa_cons (pv 5) pa_nil)))))))
      (pss_one (ps_ret (pe_tup (pa_cons (pe_revL (pv 2)) (pa_cons (pe_revL (pv 3)) pa_nil)))))))), ?_⟩
    obtain ⟨vs, v1, gd, v3⟩ := hC.at'
    refine ⟨_, rfl, by show 1 ≤ sizeLine; decide, fun L1 n1 => ?_⟩
    refine ⟨by show 0 ≤ sizeLine; decide, fun L2 n2 => ?_⟩
    have n2H : H L2 = none := (same_upd (o := .lst [.ref T]) n1).free n2
    have n12 : L1 ≠ L2 := fun e => by rw [e, upd_same] at n2; cases n2
    have sm1 : Same H (upd (upd H L1 (.lst [.ref T])) L2 (.lst [])) := (same_upd n1).trans (same_upd n2)
    have gL1 : upd (upd H L1 (.lst [.ref T])) L2 (.lst []) L1 = some (.lst [.ref T]) := by rw [upd_ne n12, upd_same]
    have gL2 : upd (upd H L1 (.lst [.ref T])) L2 (.lst []) L2 = some (.lst []) := upd_same
    generalize upd (upd H L1 (.lst [.ref T])) L2 (.lst []) = H1 at sm1 gL1 gL2 ⊢
    obtain ⟨e0, he0, e0q⟩ := List.mem_map.mp hq
    obtain ⟨j0, hj0⟩ := List.mem_iff_getElem?.mp he0
    refine ⟨fun m σ H' => ∃ (e : Ent) (j : Nat) (ps : List P2) (is : List Nat) (ts : List Addr) (Tp : Addr) (y4 y5 : Option V), σ = [some (.ref d), some (.ref T), some (.ref L1), some (.ref L2), y4, y5] ∧ Same H H' ∧ M[j]? = some e ∧ m = j ∧ H' L1 = some (.lst (ts.map V.ref ++ [.ref Tp])) ∧ H' Tp = some (.tup (v2 e.1)) ∧ H' L2 = some (.lst (is.reverse.map fun n : Nat => V.int (n : Int))) ∧ Walked pl (e.1 :: ps) is ∧ (e.1 :: ps).getLast? = some q ∧ (∀ p ∈ e.1 :: ps, p.1 ∈ us) ∧ ts.length = ps.length ∧ ps.length + j ≤ M.length ∧ is.length = ps.length ∧
      (∀ (i : Nat) (p : P2) (T : Addr), ps[i]? = some p → ts.reverse[i]? = some T → H' T = some (.tup (v2 p))) ∧ (∀ W J, WayM M e.1 W J → WayM M q (W ++ ps) (J ++ is)), ⟨_, e0, j0, [], [], [], T, _, _, rfl, sm1, hj0, rfl, gL1, by rw [e0q]; exact sm1 _ _ hT, gL2, trivial, by rw [e0q]; rfl, fun p hp => by rw [List.mem_singleton.mp hp]; exact hS.un e0 he0, rfl, by have := (List.getElem?_eq_some_iff.mp hj0).1; simp; omega, rfl, fun i p T h => by simp at h, fun W J h => by rw [List.append_nil, List.append_nil, ← e0q]; exact h⟩, ?_⟩
    rintro m σ H5 ⟨e, j, ps, is, ts, Tp, y4, y5, rfl, sm5, he, rfl, gL1, gTp, gL2, hW, hla, hus, l1, l2, l3, hts, hway⟩
    have hjm : m < M.length := (List.getElem?_eq_some_iff.mp he).1
    obtain ⟨v, hv⟩ : ∃ v, vs[m]? = some v := ⟨_, List.getElem?_eq_getElem (by omega)⟩
    have gv := came_some hS.nd he hv
    have vA := (v3 m e v he hv).keep (H' := H5) fun T xs h => sm5 _ _ h
    have gD : DGet H5 d (.ref Tp) (some v) := by rw [← gv]; exact DGet.t (k := k2 e.1) (sm5 _ _ gd) gTp
    refine ⟨.ref d, rfl, .ref L1, rfl, _, rfl, L1, _, _, .ref Tp, rfl, rfl, sqOf gL1, atI_last _ _, d, v, rfl, gD, rfl, _, rfl, ?_⟩
    cases he2 : e.2 with
    | none =>
      rw [he2] at vA
      obtain rfl : v = .non := vA
      obtain ⟨r1, r2⟩ := hS.rt e (List.mem_of_getElem? he) he2
      have ee : e.1 = (e.1.1, 0) := Prod.ext rfl r1
      refine iteF ⟨.ref L1, rfl, L1, _, rfl, sqOf gL1, fun R1 nR1 => ⟨.ref L2, rfl, L2, _, rfl, sqOf (by rw [upd_ne (ne_of_none gL2 nR1)]; exact gL2), fun R2 nR2 => ⟨two, fun r nr => ?_⟩⟩⟩
      have k1 : ∀ (x : Addr) (o : HO), H5 x = some o → upd (upd (upd H5 R1 (.lst (ts.map V.ref ++ [V.ref Tp]).reverse)) R2 (.lst ((is.reverse.map fun n : Nat => V.int (n : Int)).reverse))) r (.tup [.ref R1, .ref R2]) x = some o := fun x o h =>
        (same_upd nr) _ _ ((same_upd nR2) _ _ ((same_upd nR1) _ _ h))
      have g1 : upd (upd (upd H5 R1 (.lst (ts.map V.ref ++ [V.ref Tp]).reverse)) R2 (.lst ((is.reverse.map fun n : Nat => V.int (n : Int)).reverse))) r (.tup [.ref R1, .ref R2]) R1 = some (.lst ((Tp :: ts.reverse).map V.ref)) := by
        have : upd H5 R1 (.lst (ts.map V.ref ++ [V.ref Tp]).reverse) R1 = some (.lst ((Tp :: ts.reverse).map V.ref)) := by rw [upd_same, List.reverse_append, ← List.map_reverse]; rfl
        exact (same_upd nr) _ _ ((same_upd nR2) _ _ this)
      have g2 : upd (upd (upd H5 R1 (.lst (ts.map V.ref ++ [V.ref Tp]).reverse)) R2 (.lst ((is.reverse.map fun n : Nat => V.int (n : Int)).reverse))) r (.tup [.ref R1, .ref R2]) R2 = some (.lst (is.map fun n : Nat => V.int (n : Int))) := by
        have : upd (upd H5 R1 (.lst (ts.map V.ref ++ [V.ref Tp]).reverse)) R2 (.lst ((is.reverse.map fun n : Nat => V.int (n : Int)).reverse)) R2 = some (.lst (is.map fun n : Nat => V.int (n : Int))) := by rw [upd_same, List.map_reverse, List.reverse_reverse]
        exact (same_upd nr) _ _ this
      have hw0 : WayM M q ((e.1.1, 0) :: ps) is := by
        have := hway [e.1] [] (.root (by have := List.mem_of_getElem? he; rw [← he2]; exact this))
        rw [ee] at this
        exact this
      rw [ee] at hW hla hus gTp
      refine kQ r R1 R2 _ e.1.1 ps is (sm5.trans k1) upd_same ⟨Tp :: ts.reverse, g1, by simp [l1], fun i p T' q1 q2 => ?_⟩ g2 r2 hW hla hus (by omega) hw0
      cases i with
      | zero => simp at q1 q2; subst q1; subst q2; exact k1 _ _ gTp
      | succ i => exact k1 _ _ (hts i p T' (by simpa using q1) (by simpa using q2))
    | some o =>
      obtain ⟨p, ix⟩ := o
      rw [he2] at vA
      obtain ⟨Tv, Tq, rfl, x1, x2⟩ := vA
      obtain ⟨hin, hmv⟩ := hS.en m e p ix he he2
      obtain ⟨e', he', rfl⟩ := List.mem_map.mp hin
      obtain ⟨j', hj', hj2⟩ := List.mem_take_iff_getElem.mp he'
      have hjm' : M[j']? = some e' := by rw [← hj2]; exact List.getElem?_eq_getElem _
      refine iteT ⟨fun σ' H' => ∃ m' < m, ∃ (e : Ent) (j : Nat) (ps : List P2) (is : List Nat) (ts : List Addr) (Tp : Addr) (y4 y5 : Option V), σ' = [some (.ref d), some (.ref T), some (.ref L1), some (.ref L2), y4, y5] ∧ Same H H' ∧ M[j]? = some e ∧ m' = j ∧ H' L1 = some (.lst (ts.map V.ref ++ [.ref Tp])) ∧ H' Tp = some (.tup (v2 e.1)) ∧ H' L2 = some (.lst (is.reverse.map fun n : Nat => V.int (n : Int))) ∧ Walked pl (e.1 :: ps) is ∧ (e.1 :: ps).getLast? = some q ∧ (∀ p ∈ e.1 :: ps, p.1 ∈ us) ∧ ts.length = ps.length ∧ ps.length + j ≤ M.length ∧ is.length = ps.length ∧
      (∀ (i : Nat) (p : P2) (T : Addr), ps[i]? = some p → ts.reverse[i]? = some T → H' T = some (.tup (v2 p))) ∧ (∀ W J, WayM M e.1 W J → WayM M q (W ++ ps) (J ++ is)), fun σ' H' hN => by obtain ⟨m', h1, h2⟩ := hN; exact ⟨m', h1, h2⟩, ?_⟩
      refine ⟨.ref d, rfl, .ref L1, rfl, _, rfl, L1, _, _, .ref Tp, rfl, rfl, sqOf gL1, atI_last _ _, d, _, rfl, gD, ?_⟩
      refine ⟨Tv, _, rfl, stOf x1, rfl, _, _, rfl, _, _, rfl, rfl, ?_⟩
      refine ⟨.ref L1, rfl, .inl ⟨rfl, _, sqOf gL1⟩, .ref Tq, rfl, L1, _, _, rfl, rfl, gL1, lt_sz (by simp; omega), ?_⟩
      have gL2' : upd H5 L1 (.lst (ts.map V.ref ++ [.ref Tp] ++ [.ref Tq])) L2 = some (.lst (is.reverse.map fun n : Nat => V.int (n : Int))) := by rw [upd_ne n12.symm]; exact gL2
      refine ⟨.ref L2, rfl, .inl ⟨rfl, _, sqOf gL2'⟩, .int (ix : Int), rfl, L2, _, _, rfl, rfl, gL2', lt_sz (by simp; omega), ?_⟩
      have tk : ∀ (x : Addr) (xs : List V), H5 x = some (.tup xs) → upd (upd H5 L1 (.lst (ts.map V.ref ++ [.ref Tp] ++ [.ref Tq]))) L2 (.lst ((is.reverse.map fun n : Nat => V.int (n : Int)) ++ [.int (ix : Int)])) x = some (.tup xs) := fun x xs h => by
        rw [upd_ne (ne_of h gL2 (fun z => nomatch z)), upd_ne (ne_of h gL1 (fun z => nomatch z))]; exact h
      refine ⟨j', Nat.lt_of_lt_of_le hj' (Nat.min_le_left _ _), e', j', e.1 :: ps, ix :: is, ts ++ [Tp], Tq, _, _, rfl, fun x o h => ?_, hjm', rfl, ?_, tk _ _ x2, ?_, ⟨hmv, hW⟩, ?_, fun p hp => ?_, by simp [l1], by simp; omega, by simp [l3], fun i p T' q1 q2 => ?_, fun W J hWJ => ?_⟩
      · rw [upd_ne (ne_of_none h n2H), upd_ne (ne_of_none h n1)]; exact sm5 _ _ h
      · rw [upd_ne n12, upd_same, List.map_append]; rfl
      · rw [upd_same, List.reverse_cons, List.map_append]; rfl
      · rw [List.getLast?_cons_cons]; exact hla
      · rcases List.mem_cons.mp hp with rfl | hp
        · exact hS.un e' (List.mem_of_mem_take he')
        · exact hus p hp
      · rw [List.reverse_append] at q2
        cases i with
        | zero => simp at q1 q2; subst q1; subst q2; exact tk _ _ gTp
        | succ i => exact tk _ _ (hts i p T' (by simpa using q1) (by simpa using q2))
      · have hm : (e.1, some (e'.1, ix)) ∈ M := by have := List.mem_of_getElem? he; rw [← he2]; exact this
        have := hway _ _ (.step hWJ hm)
        rwa [List.append_assoc, List.append_assoc] at this
end
end KP
namespace KP
open PySem PySem.Spec PyProof.Rows L2 EL
open Evl (pss_cut)
abbrev sRingBetween : Stmt := topS 43
theorem scRingBetween : FnScope ["places", "first", "at", "state", "_", "rings", "lead"] ["places"] (defScope sRingBetween) := ⟨rfl, rfl, rfl, by decide +kernel, rfl, by decide +kernel, by decide +kernel⟩
def fstAt (ps : List P2) (s : Nat) : Option Nat := ps.findIdx? fun p => decide (p.1 = s)
theorem fstAt_snoc (ps : List P2) (p : P2) (s : Nat) : fstAt (ps ++ [p]) s = (fstAt ps s).or (if p.1 = s then some ps.length else none) := by
  unfold fstAt
  rw [List.findIdx?_append]
  by_cases h : p.1 = s
  · rw [if_pos h]; simp [h]
  · rw [if_neg h]; simp [h]
theorem fstAt_some {ps : List P2} {s a : Nat} (h : fstAt ps s = some a) : ∃ p, ps[a]? = some p ∧ p.1 = s ∧ ∀ j p', j < a → ps[j]? = some p' → p'.1 ≠ s := by
  unfold fstAt at h
  obtain ⟨h1, h2, h3⟩ := List.findIdx?_eq_some_iff_getElem.mp h
  refine ⟨_, List.getElem?_eq_getElem h1, by simpa using h2, fun j p' hj hp e => ?_⟩
  have := h3 j hj
  rw [List.getElem?_eq_getElem (by omega)] at hp
  have hp := Option.some.inj hp
  rw [hp] at this
  simp [e] at this
def ringF (ps : List P2) (k : Nat) : Option (Nat × Nat) := (ps[k]?).bind fun p => (fstAt ps p.1).bind fun a => (ps[a]?).bind fun q => if q.2 ≠ p.2 then some (a, k) else none
theorem ringF_some {ps : List P2} {k : Nat} {x : Nat × Nat} (h : ringF ps k = some x) : ∃ p q, x = (x.1, k) ∧ ps[k]? = some p ∧ ps[x.1]? = some q ∧ q.1 = p.1 ∧ q.2 ≠ p.2 ∧ x.1 < k := by
  unfold ringF at h
  cases e : ps[k]? with
  | none => rw [e] at h; cases h
  | some p =>
    rw [e] at h
    cases e2 : fstAt ps p.1 with
    | none => rw [Option.bind_some, e2] at h; cases h
    | some a =>
      rw [Option.bind_some, e2, Option.bind_some] at h
      obtain ⟨q, hq, hs, hmin⟩ := fstAt_some e2
      rw [hq, Option.bind_some] at h
      split at h
      · rename_i ne
        cases h
        refine ⟨p, q, rfl, rfl, hq, hs, ne, ?_⟩
        rcases Nat.lt_trichotomy a k with z | z | z
        · exact z
        · exact absurd (by have := hq; rw [z, e] at this; cases this; rfl) ne
        · exact absurd rfl (hmin k p z e)
      · cases h
theorem valV_snoc (kvs : List (L2.Key × V)) (k j : L2.Key) (v : V) : valV (kvs ++ [(k, v)]) j = (valV kvs j).or (if k = j then some v else none) := by
  unfold valV
  rw [List.find?_append]
  cases e : kvs.find? (fun kv => decide (kv.1 = j)) with
  | none =>
    by_cases h : k = j
    · simp [h]
    · simp [h]
  | some x => simp
abbrev pairD (x : Nat × Nat) : PyData := .tuple [.int (x.1 : Int), .int (x.2 : Int)]
def spRingBetween (K : PySem.W.Frag) : Sp := fun vs H Q _ => ∃ (L : Addr) (ps : List P2), vs = [.ref L] ∧ RowAt H L ps ∧ ps.length ≤ 20001 ∧ (∃ k, (ringF ps k).isSome = true) ∧
  ∀ r H' (a b : Nat) (p q : P2), Same H H' → SqT K H' r [.int (a : Int), .int (b : Int)] → a < b → ps[a]? = some p → ps[b]? = some q → p.1 = q.1 → p.2 ≠ q.2 → ((List.range ps.length).filterMap (ringF ps))[0]? = some (a, b) → Q (.ref r) H'
section
variable {P : Program} {w : World} {K : PySem.W.Frag} {mg : Str → Option Value} {base : Heap}
theorem ok_RingBetween {f : Addr} {fd : FuncData} {k : Nat} (F : Fun K "ring_between" "ring_between" sRingBetween f fd) (nenumerate : mg "enumerate" = none) : FnOk P w K mg base CX0 (k + 1) f fd ["places"] (spRingBetween K) := by
  refine F.ok scRingBetween (fun vs H Q E h => ?_) (fun cdv A outer s H vs Q E hr h => ?_)
  · obtain ⟨L, ps, rfl, _⟩ := h; rfl
  · obtain ⟨L, ps, rfl, hL, hl, ⟨k0, hk0⟩, kQ⟩ := h
    have hu := hr.units
    have hu1 : (A.deeper (envOfC "ring_between" (defScope sRingBetween) s.heap.objs.size f cdv)).units + 1 < cLine := by omega
    have two : 2 ≤ sizeLine := by decide
    refine ⟨_, (pss_cons (ps_set (i := 1) scRingBetween.nd rfl (by first | exact Or.inl rfl | exact Or.inr rfl) pe_dnewK)
      (pss_cons (ps_for PassesOwn.never rfl (pi_enum (by rfl) nenumerate (pa_cons (pv 0) pa_nil)) (pg_tup (by rfl) (pgs_cons (pg_name (i := 2) scRingBetween.nd rfl (by first | exact Or.inl rfl | exact Or.inr rfl)) (pgs_cons (pg_tup (by rfl) (pgs_cons (pg_name (i := 3) scRingBetween.nd rfl (by first | exact Or.inl rfl | exact Or.inr rfl)) (pgs_cons (pg_name (i := 4) scRingBetween.nd rfl (by first | exact Or.inl rfl | exact Or.inr rfl)) pgs_nil))) pgs_nil))) (pss_one (ps_expr (pe_dsetd (pv 1) (pv 3) (pv 2) ⟨by rfl, by rfl, by rfl, by rfl⟩))))
      (pss_cons (ps_setLc (i := 5) (own := [("at", 2), ("state", 3), ("lead", 6)]) (g := (gTup K 2 (gCons (gName 2) (gCons (gTup K 2 (gCons (gName 3) (gCons (gName 6) gNil))) gNil)))) (by rfl) scRingBetween.nd rfl rfl (sw_true rfl rfl rfl (by decide +kernel)) (pi_enum (by rfl) nenumerate (pa_cons (pv 0) pa_nil)) (blkOk_by (own := [("at", 2), ("state", 3), ("lead", 6)]) (N := ["places", "first", "at", "state", "_", "rings", "lead"]) (sc := defScope sRingBetween) (by decide +kernel)) (fun _ _ _ _ _ => (pg_tup (by rfl) (pgs_cons (pg_name (i := 2) scRingBetween.nd rfl (by first | exact Or.inl rfl | exact Or.inr rfl)) (pgs_cons (pg_tup (by rfl) (pgs_cons (pg_name (i := 3) scRingBetween.nd rfl (by first | exact Or.inl rfl | exact Or.inr rfl)) (pgs_cons (pg_name (i := 6) scRingBetween.nd rfl (by first | exact Or.inl rfl | exact Or.inr rfl)) pgs_nil))) pgs_nil)))) (fun _ _ _ _ _ => (pts_one (pt_cmpR op_ne (pe_ix (show IxR _ (rIxT K) from ix_tup) (pe_ix (show IxR _ (rIxL K) from ix_list) (pv 0) (pe_dget hu1 (pv 1) (pv 3) (fun _ _ => rfl)) (fun _ _ => rfl)) pe_int (fun _ _ => rfl)) (pv 6) (nomark _)))) (fun _ _ _ _ _ => (pe_tup (pa_cons (pe_dget hu1 (pv 1) (pv 3) (fun _ _ => rfl)) (pa_cons (pv 2) pa_nil)))))
      (pss_one (ps_ret (pe_ix (show IxR _ (rIxL K) from ix_list) (pv 5) pe_int (fun _ _ => rfl))))))), ?_⟩
    obtain ⟨ts, gL, tl, gT⟩ := hL.at'
    refine fun d nd => ?_
    refine ⟨_, rfl, L, ts.map V.ref, rfl, sqOf (same_upd nd _ _ gL), ?_⟩
    refine for_it walk_enum (fun i σ H' => ∃ (y2 y3 y4 : Option V) (kvs : List (L2.Key × V)), σ = [some (.ref L), some (.ref d), y2, y3, y4, none, none] ∧ Same H H' ∧ H' d = some (.dK kvs) ∧ kvs.length ≤ i ∧ ∀ s : Nat, valV kvs (.inl (s : Int)) = (fstAt (ps.take i) s).map fun n : Nat => V.int (n : Int))
      ⟨_, _, _, [], rfl, same_upd nd, upd_same, Nat.le_refl _, fun s => by rw [List.take_zero]; rfl⟩ (fun i σ H' _ z => by obtain ⟨_, _, _, _, _, sm, _⟩ := z; exact sqOf (sm _ _ gL)) ?_ ?_
    · rintro i v σ H9 H2 hi ⟨y2, y3, y4, kvs, rfl, sm, gd, lk, hv⟩ ⟨pr, iv, mv', rfl, npr, rfl, hiv, hmv'⟩
      cases hiv
      have s3 : Same H9 (upd H9 pr (.tup [.int (i : Nat), mv'])) := same_upd npr
      have g3 : upd H9 pr (.tup [.int (i : Nat), mv']) pr = some (.tup [.int (i : Nat), mv']) := upd_same
      generalize upd H9 pr (.tup [.int (i : Nat), mv']) = H4 at s3 g3 ⊢
      obtain ⟨T, hT, rfl⟩ : ∃ T, ts[i]? = some T ∧ mv' = .ref T := by
        dsimp only at hmv'
        rw [List.getElem?_map] at hmv'
        cases e : ts[i]? with
        | none => rw [e] at hmv'; cases hmv'
        | some b => rw [e] at hmv'; exact ⟨b, rfl, (Option.some.inj hmv').symm⟩
      obtain ⟨p, hp⟩ : ∃ p, ps[i]? = some p := ⟨_, List.getElem?_eq_getElem (by have := (List.getElem?_eq_some_iff.mp hT).1; omega)⟩
      have gT4 := s3 _ _ (sm _ _ (gT i p T hp hT))
      have gd4 := s3 _ _ gd
      refine ⟨pr, _, rfl, stOf g3, rfl, _, _, rfl, _, _, rfl, ⟨T, _, rfl, stOf gT4, rfl, _, _, rfl, _, _, rfl, rfl, rfl, ?_⟩⟩
      have tki := take_more hp
      have hlen : (ps.take i).length = i := by have := (List.getElem?_eq_some_iff.mp hp).1; rw [List.length_take]; omega
      have key : ∀ s : Nat, fstAt (ps.take (i + 1)) s = (fstAt (ps.take i) s).or (if p.1 = s then some i else none) := fun s => by rw [tki, fstAt_snoc, hlen]
      refine ⟨_, rfl, d, rfl, .inl ⟨kvs, .inl gd4⟩, _, rfl, _, rfl, kvs, .inl (p.1 : Int), gd4, rfl, lt_sz (by rw [List.length_map] at hi; omega), fun v hvv => ?_, fun hvv => ?_⟩
      · refine ⟨_, _, _, kvs, rfl, sm.trans s3, gd4, by omega, fun s => ?_⟩
        rw [key s]
        by_cases e : p.1 = s
        · subst e
          have := hv p.1
          rw [hvv] at this
          cases e2 : fstAt (ps.take i) p.1 with
          | none => rw [e2] at this; cases this
          | some a => rw [hv p.1, e2]; rfl
        · rw [if_neg e, hv s]; simp
      · refine ⟨_, _, _, _, rfl, fun x o h => by rw [upd_ne (ne_of_none h nd)]; exact s3 _ _ (sm _ _ h), upd_same, by rw [putK_new _ hvv, List.length_append]; show _ + 1 ≤ _; omega, fun s => ?_⟩
        rw [key s, putK_new _ hvv, valV_snoc, hv s]
        by_cases e : p.1 = s
        · subst e
          have := hv p.1
          rw [hvv] at this
          cases e2 : fstAt (ps.take i) p.1 with
          | some a => rw [e2] at this; cases this
          | none => simp
        · have e2 : ¬ ((Sum.inl (p.1 : Int) : L2.Key) = .inl (s : Int)) := fun z => e (by injection z with z; omega)
          rw [if_neg e, if_neg e2]; simp
    · rintro σ H3 ⟨y2, y3, y4, kvs, rfl, sm, gd, lk, hv⟩
      rw [List.length_map] at hv lk
      rw [tl, List.take_length] at hv
      refine ⟨_, rfl, L, ts.map V.ref, rfl, sqOf (sm _ _ gL), fun D nD => ?_⟩
      refine it_gen walk_enum (fun i => LcG K D H3 (fun i => ((List.range i).filterMap (ringF ps)).map pairD) i) (LcG.start nD rfl) (fun i H' _ Lc => sqOf (Lc.sm nD _ _ (sm _ _ gL))) ?_ ?_
      · rintro i v H9 H2 hi Lc ⟨pr, iv, mv', rfl, npr, rfl, hiv, hmv'⟩
        cases hiv
        have s3 : Same H9 (upd H9 pr (.tup [.int (i : Nat), mv'])) := same_upd npr
        have g3 : upd H9 pr (.tup [.int (i : Nat), mv']) pr = some (.tup [.int (i : Nat), mv']) := upd_same
        generalize upd H9 pr (.tup [.int (i : Nat), mv']) = H4 at s3 g3 ⊢
        obtain ⟨T, hT, rfl⟩ : ∃ T, ts[i]? = some T ∧ mv' = .ref T := by
          dsimp only at hmv'
          rw [List.getElem?_map] at hmv'
          cases e : ts[i]? with
          | none => rw [e] at hmv'; cases hmv'
          | some b => rw [e] at hmv'; exact ⟨b, rfl, (Option.some.inj hmv').symm⟩
        have hit : i < ts.length := (List.getElem?_eq_some_iff.mp hT).1
        obtain ⟨p, hp⟩ : ∃ p, ps[i]? = some p := ⟨_, List.getElem?_eq_getElem (by omega)⟩
        have sm4 : Same H H4 := (sm.trans (Lc.sm nD)).trans s3
        have gT4 := sm4 _ _ (gT i p T hp hT)
        have gd4 := ((Lc.sm nD).trans s3) _ _ gd
        have gL4 := sm4 _ _ gL
        obtain ⟨a, ha⟩ : ∃ a, fstAt ps p.1 = some a := by
          cases e : fstAt ps p.1 with
          | some a => exact ⟨a, rfl⟩
          | none =>
            unfold fstAt at e
            rw [List.findIdx?_eq_none_iff] at e
            have := e p (List.mem_of_getElem? hp)
            simp at this
        obtain ⟨q, hq, hqs, _⟩ := fstAt_some ha
        have hat : a < ts.length := by have := (List.getElem?_eq_some_iff.mp hq).1; omega
        obtain ⟨Tq, hTq⟩ : ∃ T, ts[a]? = some T := ⟨_, List.getElem?_eq_getElem hat⟩
        have gTq := sm4 _ _ (gT a q Tq hq hTq)
        have gg : DGet H4 d (.int (p.1 : Int)) (some (.int (a : Int))) := by
          have := DGet.k (k := .inl (p.1 : Int)) gd4
          rw [hv, ha] at this
          exact this
        have rf : ringF ps i = if q.2 ≠ p.2 then some (a, i) else none := by unfold ringF; rw [hp, Option.bind_some, ha, Option.bind_some, hq, Option.bind_some]
        have fs : ((List.range (i + 1)).filterMap (ringF ps)).map pairD = ((List.range i).filterMap (ringF ps)).map pairD ++ ((ringF ps i).toList).map pairD := by
          cases h : ringF ps i <;> simp [List.range_succ, h]
        refine ⟨pr, _, rfl, stOf g3, rfl, _, _, rfl, _, _, rfl, ⟨T, _, rfl, stOf gT4, rfl, _, _, rfl, _, _, rfl, rfl, rfl, rfl, ?_⟩⟩
        refine ⟨.ref L, rfl, .ref d, rfl, _, rfl, d, _, rfl, gg, L, _, (a : Int), .ref Tq, rfl, rfl, sqOf gL4, atI_nat (by rw [List.getElem?_map, hTq]; rfl), Tq, _, 1, _, rfl, rfl, stOf gTq, rfl, _, rfl, ?_⟩
        refine ⟨rfl, _, rfl, ?_⟩
        have hde : (!decide (V.int q.2 = V.int p.2)) = decide (q.2 ≠ p.2) := by
          by_cases e : q.2 = p.2
          · rw [e]; simp
          · have : ¬ (V.int q.2 = V.int p.2) := fun z => e (by injection z)
            rw [decide_eq_false this, decide_eq_true e]; rfl
        rw [hde]
        by_cases ne : q.2 ≠ p.2
        · rw [decide_eq_true ne]
          rw [if_pos ne] at rf
          refine iteT ⟨.ref d, rfl, _, rfl, d, _, rfl, gg, _, rfl, two, fun tp ntp => ?_⟩
          refine lcg_some Lc (s3.trans (same_upd ntp)) (by rw [fs, rf]; rfl) (tup_wo (by obtain ⟨vs, h⟩ := Lc.at; exact ⟨vs, s3 _ _ h⟩) ntp ?_) (by omega)
          exact .cons (.int _) (.cons (.int _) .nil)
        · rw [decide_eq_false ne]
          rw [if_neg ne] at rf
          exact iteF (lcg_none Lc s3 (by rw [fs, rf]; exact List.append_nil _))
      rintro H5 Lc
      rw [List.length_map, tl] at Lc
      obtain ⟨vs, gD, _, da, _⟩ := Lc.done
      have sm5 := sm.trans (Lc.sm nD)
      obtain ⟨x, hx⟩ : ∃ x, ((List.range ps.length).filterMap (ringF ps))[0]? = some x := by
        have : (List.range ps.length).filterMap (ringF ps) ≠ [] := fun e => by
          cases h : ringF ps k0 with
          | none => rw [h] at hk0; cases hk0
          | some x =>
            obtain ⟨p, q, _, h1, _⟩ := ringF_some h
            have hk := (List.getElem?_eq_some_iff.mp h1).1
            have : x ∈ (List.range ps.length).filterMap (ringF ps) := List.mem_filterMap.mpr ⟨k0, List.mem_range.mpr hk, h⟩
            rw [e] at this; cases this
        cases e : (List.range ps.length).filterMap (ringF ps) with
        | nil => exact absurd e this
        | cons x r => exact ⟨x, rfl⟩
      obtain ⟨v, hv0⟩ : ∃ v, vs[0]? = some v := by
        have l1 := da.len
        have := (List.getElem?_eq_some_iff.mp hx).1
        rw [List.length_map] at l1
        exact ⟨_, List.getElem?_eq_getElem (by omega)⟩
      obtain ⟨dd, hdd, hdq⟩ := da.at hv0
      rw [List.getElem?_map, hx] at hdd
      cases hdd
      have hxm := List.mem_of_getElem? hx
      obtain ⟨kk, _, hkk⟩ := List.mem_filterMap.mp hxm
      obtain ⟨p, q, ex, h1, h2, h3, h4, h5⟩ := ringF_some hkk
      obtain ⟨r, rfl, hs⟩ : ∃ r, v = .ref r ∧ SqT K H5 r [.int (x.1 : Int), .int (x.2 : Int)] := by
        cases hdq with
        | tup hs ha =>
          cases ha with
          | cons z1 z => cases z with
            | cons z2 z => cases z; cases z1; cases z2; exact ⟨_, rfl, hs⟩
      have ex2 : x.2 = kk := by rw [ex]
      refine ⟨.ref D, rfl, D, vs, 0, _, rfl, rfl, sqOf gD, atI_nat (j := 0) hv0, ?_⟩
      exact kQ r H5 x.1 x.2 q p sm5 hs (by rw [ex2]; exact h5) h2 (by rw [ex2]; exact h1) h3 h4 hx
end
end KP
namespace KP
open PySem PySem.Spec PyProof.Rows L2 EL
open Evl (pss_cut)
abbrev sWaysOn : Stmt := topS 44
theorem scWaysOn : FnScope ["pacer", "ways", "_", "index", "move", "end"] ["pacer"] (defScope sWaysOn) := ⟨rfl, rfl, rfl, by decide +kernel, rfl, by decide +kernel, by decide +kernel⟩
/-- where a row of moves leads from s -/
def goesTo (pl : Plan) : Nat → List Nat → Option Nat
  | s, [] => some s
  | s, i :: is => (pl.ways[i]?).bind fun m => if m.s = s then goesTo pl m.t is else none
abbrev ixs (is : List Nat) : List V := is.map fun n : Nat => V.int (n : Int)
/-- the ways that are known, one more set -/
def setW (W : Nat → Option (List Nat)) (s0 : Nat) (is : List Nat) : Nat → Option (List Nat) := fun s => if s = s0 then some is else W s
def wayStep (pl : Plan) (W : Nat → Option (List Nat)) (j : Nat) : Nat → Option (List Nat) := match pl.ways[j]? with
  | none => W
  | some m => match W m.t, W m.s with
    | some is, none => setW W m.s (j :: is)
    | _, _ => W
def wayR (pl : Plan) (W : Nat → Option (List Nat)) : Nat → Nat → Option (List Nat)
  | 0 => W
  | j + 1 => wayStep pl (wayR pl W j) j
def ways0 (l : List Nat) : Nat → Option (List Nat) := fun s => if s ∈ l then some [] else none
def waysI (pl : Plan) : Nat → Nat → Option (List Nat)
  | 0 => ways0 pl.outs
  | i + 1 => wayR pl (waysI pl i) pl.ways.length
theorem wayStep_put {pl : Plan} {W : Nat → Option (List Nat)} {j : Nat} {m : Mv} {is : List Nat} (hm : pl.ways[j]? = some m) (h1 : W m.t = some is) (h2 : W m.s = none) : wayStep pl W j = setW W m.s (j :: is) := by
  unfold wayStep
  rw [hm]
  dsimp only
  rw [h1, h2]
theorem wayStep_t {pl : Plan} {W : Nat → Option (List Nat)} {j : Nat} {m : Mv} (hm : pl.ways[j]? = some m) (h1 : W m.t = none) : wayStep pl W j = W := by
  unfold wayStep
  rw [hm]
  dsimp only
  rw [h1]
theorem wayStep_s {pl : Plan} {W : Nat → Option (List Nat)} {j : Nat} {m : Mv} {is : List Nat} (hm : pl.ways[j]? = some m) (h2 : W m.s = some is) : wayStep pl W j = W := by
  unfold wayStep
  rw [hm]
  dsimp only
  rw [h2]
  cases W m.t <;> rfl
theorem ways0_snoc (l : List Nat) (b : Nat) : ways0 (l ++ [b]) = setW (ways0 l) b [] := by
  funext s
  unfold ways0 setW
  by_cases h : s = b
  · rw [if_pos h, if_pos (by rw [h]; exact List.mem_append_right _ List.mem_cons_self)]
  · rw [if_neg h]
    show _ = if s ∈ l then some [] else none
    by_cases h2 : s ∈ l
    · rw [if_pos h2, if_pos (List.mem_append_left _ h2)]
    · rw [if_neg h2, if_neg]
      intro z
      rcases List.mem_append.mp z with w | w
      · exact h2 w
      · exact h (List.mem_singleton.mp w)
structure WaysAt (pl : Plan) (K : PySem.W.Frag) (H : Hp) (d : Addr) (S : List Nat) (n : Nat) (W : Nat → Option (List Nat)) : Prop where
  at' : ∃ kvs : List (L2.Key × V), H d = some (.dK kvs) ∧ kvs.length ≤ n ∧ (∀ s : Nat, (valV kvs (.inl (s : Int))).isSome = decide (s ∈ S)) ∧ (∀ s, s ∉ S → W s = none) ∧
    ∀ (s : Nat) (v : V), valV kvs (.inl (s : Int)) = some v → ∃ T is t, v = .ref T ∧ SqT K H T (ixs is) ∧ goesTo pl s is = some t ∧ t ∈ pl.outs ∧ is.length ≤ n ∧ W s = some is
def ShutW (pl : Plan) (S : List Nat) : Prop := ∀ m ∈ pl.ways, m.t ∈ S → m.s ∈ S
def cntW (pl : Plan) (S : List Nat) : Nat := (pl.ways.filter fun m => decide (m.s ∉ S)).length
theorem cntW_zero {pl : Plan} {S : List Nat} (h : cntW pl S = 0) : ShutW pl S := fun m hm _ => by
  unfold cntW at h
  have := List.eq_nil_of_length_eq_zero h
  by_cases q : m.s ∈ S
  · exact q
  · have : m ∈ pl.ways.filter fun m => decide (m.s ∉ S) := List.mem_filter.mpr ⟨hm, by simpa using q⟩
    rw [‹pl.ways.filter _ = []›] at this
    cases this
theorem filter_lt {α : Type} {p q : α → Bool} : ∀ {l : List α}, (∀ x ∈ l, q x = true → p x = true) → (∃ x ∈ l, p x = true ∧ q x = false) → (l.filter q).length < (l.filter p).length
  | [], _, h => by obtain ⟨x, hx, _⟩ := h; cases hx
  | a :: r, h1, h2 => by
    have le : (r.filter q).length ≤ (r.filter p).length := by
      clear h2
      induction r with
      | nil => exact Nat.le_refl _
      | cons b r ih =>
        have ih := ih fun x hx => h1 x (by rcases List.mem_cons.mp hx with rfl | hx; exact List.mem_cons_self; exact List.mem_cons_of_mem _ (List.mem_cons_of_mem _ hx))
        have hb := h1 b (List.mem_cons_of_mem _ List.mem_cons_self)
        cases q1 : q b with
        | true => rw [List.filter_cons_of_pos q1, List.filter_cons_of_pos (hb q1)]; simp; exact ih
        | false =>
          rw [List.filter_cons_of_neg (by simp [q1])]
          cases p1 : p b with
          | true => rw [List.filter_cons_of_pos p1]; simp; omega
          | false => rw [List.filter_cons_of_neg (by simp [p1])]; exact ih
    obtain ⟨x, hx, px, qx⟩ := h2
    rcases List.mem_cons.mp hx with rfl | hx
    · rw [List.filter_cons_of_pos px, List.filter_cons_of_neg (by simp [qx])]; simp; omega
    · have ih := filter_lt (l := r) (fun y hy => h1 y (List.mem_cons_of_mem _ hy)) ⟨x, hx, px, qx⟩
      have ha := h1 a List.mem_cons_self
      cases q1 : q a with
      | true => rw [List.filter_cons_of_pos q1, List.filter_cons_of_pos (ha q1)]; simp; exact ih
      | false =>
        rw [List.filter_cons_of_neg (by simp [q1])]
        cases p1 : p a with
        | true => rw [List.filter_cons_of_pos p1]; simp; omega
        | false => rw [List.filter_cons_of_neg (by simp [p1])]; exact ih
theorem cntW_less {pl : Plan} {S S' : List Nat} (sub : ∀ s ∈ S, s ∈ S') (al : ∀ m ∈ pl.ways, m.t ∈ S → m.s ∈ S') (ns : ¬ ShutW pl S) : cntW pl S' < cntW pl S := by
  unfold cntW
  refine filter_lt (fun m _ h => ?_) ?_
  · have h : m.s ∉ S' := by simpa using h
    have : m.s ∉ S := fun z => h (sub _ z)
    simpa using this
  · refine Classical.byContradiction fun z => ns fun m hm ht => ?_
    refine Classical.byContradiction fun q => z ⟨m, hm, by simpa using q, by simpa using al m hm ht⟩
theorem WaysAt.up {pl : Plan} {K : PySem.W.Frag} {H H' : Hp} {d : Addr} {S : List Nat} {n : Nat} {W : Nat → Option (List Nat)} (w : WaysAt pl K H d S n W) (s : Same H H') : WaysAt pl K H' d S n W := by
  obtain ⟨kvs, h1, h2, h3, hw, h4⟩ := w.at'
  exact ⟨kvs, s _ _ h1, h2, h3, hw, fun x v hv => by obtain ⟨T, is, t, q1, q2, q3⟩ := h4 x v hv; exact ⟨T, is, t, q1, ex_t' s q2, q3⟩⟩
theorem WaysAt.more {pl : Plan} {K : PySem.W.Frag} {H : Hp} {d : Addr} {S : List Nat} {n n' : Nat} {W : Nat → Option (List Nat)} (w : WaysAt pl K H d S n W) (l : n ≤ n') : WaysAt pl K H d S n' W := by
  obtain ⟨kvs, h1, h2, h3, hw, h4⟩ := w.at'
  exact ⟨kvs, h1, by omega, h3, hw, fun x v hv => by obtain ⟨T, is, t, q1, q2, q3, q4, q5, q6⟩ := h4 x v hv; exact ⟨T, is, t, q1, q2, q3, q4, by omega, q6⟩⟩
theorem WaysAt.put {pl : Plan} {K : PySem.W.Frag} {H : Hp} {d T : Addr} {S : List Nat} {n s0 t : Nat} {is : List Nat} {W : Nat → Option (List Nat)} (w : WaysAt pl K H d S n W) (hs : s0 ∉ S) (hT : SqT K H T (ixs is)) (hg : goesTo pl s0 is = some t) (ht : t ∈ pl.outs) (hl : is.length ≤ n + 1) :
    ∃ kvs, H d = some (.dK kvs) ∧ kvs.length ≤ n ∧ WaysAt pl K (upd H d (.dK (putK kvs (.inl (s0 : Int)) (.ref T)))) d (S ++ [s0]) (n + 1) (setW W s0 is) := by
  obtain ⟨kvs, h1, h2, h3, hw, h4⟩ := w.at'
  have hn : valV kvs (.inl (s0 : Int)) = none := by
    have := h3 s0
    rw [decide_eq_false hs] at this
    cases e : valV kvs (.inl (s0 : Int)) with
    | none => rfl
    | some v => rw [e] at this; cases this
  refine ⟨kvs, h1, h2, _, upd_same, by rw [putK_new _ hn, List.length_append]; show _ + 1 ≤ _; omega, fun s => ?_, fun s hs2 => ?_, fun s v hv => ?_⟩
  · rw [putK_new _ hn, valV_snoc]
    by_cases e : s0 = s
    · subst e; rw [hn]; simp
    · have e2 : ¬ ((Sum.inl (s0 : Int) : L2.Key) = .inl (s : Int)) := fun z => e (by injection z with z; omega)
      have e3 : ¬ s = s0 := fun z => e z.symm
      rw [if_neg e2, Option.or_none, h3 s]
      simp [e3]
  · unfold setW
    rw [if_neg (fun z => hs2 (by rw [z]; exact List.mem_append_right _ List.mem_cons_self))]
    exact hw s fun z => hs2 (List.mem_append_left _ z)
  · rw [putK_new _ hn, valV_snoc] at hv
    have kp : KpT H (upd H d (.dK (putK kvs (.inl (s0 : Int)) (.ref T)))) := KpT.dK h1
    by_cases e : s0 = s
    · subst e
      rw [hn, if_pos rfl] at hv
      have hv : some (V.ref T) = some v := hv
      cases hv
      exact ⟨T, is, t, rfl, sqT_kpt kp hT, hg, ht, hl, if_pos rfl⟩
    · have e2 : ¬ ((Sum.inl (s0 : Int) : L2.Key) = .inl (s : Int)) := fun z => e (by injection z with z; omega)
      rw [if_neg e2, Option.or_none] at hv
      obtain ⟨T', is', t', q1, q2, q3, q4, q5, q6⟩ := h4 s v hv
      exact ⟨T', is', t', q1, sqT_kpt kp q2, q3, q4, by omega, (if_neg fun z => e z.symm).trans q6⟩
theorem cntW_le (pl : Plan) (S : List Nat) : cntW pl S ≤ pl.ways.length := List.length_filter_le _ _
def spWaysOn (K : PySem.W.Frag) (C : Addr) : Sp := fun vs H Q _ => ∃ (p : Addr) (pl : Plan) (top many long : Nat), vs = [.ref p] ∧ PacAt K C H p pl ∧ pl.Ok top many long ∧ top ≤ 50 ∧ many ≤ 50 ∧ long ≤ 50 ∧
  ∀ d H' S, Same H H' → WaysAt pl K H' d S 3000 (waysI pl pl.ways.length) → (∀ s, GR (flipE (useE pl)) pl.outs s → s ∈ S) → Q (.ref d) H'
section
variable {P : Program} {w : World} {K : PySem.W.Frag} {mg : Str → Option Value} {base : Heap}
theorem ok_WaysOn {f C : Addr} {fd : FuncData} {k : Nat} (F : Fun K "ways_on" "ways_on" sWaysOn f fd) (T : PTxt K C) (nenumerate : mg "enumerate" = none) : FnOk P w K mg base CX0 (k + 1) f fd ["pacer"] (spWaysOn K C) := by
  refine F.ok scWaysOn (fun vs H Q E h => ?_) (fun cdv A outer s H vs Q E hr h => ?_)
  · obtain ⟨p, pl, top, many, long, rfl, _⟩ := h; rfl
  · obtain ⟨p, pl, top, many, long, rfl, hP, hO, t1, t2, t3, kQ⟩ := h
    have hu := hr.units
    have hu1 : (A.deeper (envOfC "ways_on" (defScope sWaysOn) s.heap.objs.size f cdv)).units + 1 < cLine := by omega
    refine ⟨_, (pss_cons (ps_setDc (i := 1) (own := [("end", 5)]) (g := (gName 5)) (by rfl) scWaysOn.nd rfl rfl (swd_true rfl rfl rfl (by decide +kernel)) (pi_tup (pe_fld (pv 0) rfl)) (blkOk_by (own := [("end", 5)]) (N := ["pacer", "ways", "_", "index", "move", "end"]) (sc := defScope sWaysOn) (by decide +kernel)) (fun _ _ _ _ _ => (pg_name (i := 5) scWaysOn.nd rfl (by first | exact Or.inl rfl | exact Or.inr rfl))) (fun _ _ _ _ _ => pts_nil) (fun _ _ _ _ _ => (pv 5)) (fun _ _ _ _ _ => (pe_tup pa_nil)))
      (pss_cons (ps_for PassesOwn.never rfl (pi_tup (pe_fld (pv 0) rfl)) (pg_name (i := 2) scWaysOn.nd rfl (by first | exact Or.inl rfl | exact Or.inr rfl)) (pss_one (ps_for PassesOwn.never rfl (pi_enumT (by rfl) nenumerate (pa_cons (pe_fld (pv 0) rfl) pa_nil)) (pg_tup (by rfl) (pgs_cons (pg_name (i := 3) scWaysOn.nd rfl (by first | exact Or.inl rfl | exact Or.inr rfl)) (pgs_cons (pg_name (i := 4) scWaysOn.nd rfl (by first | exact Or.inl rfl | exact Or.inr rfl)) pgs_nil))) (pss_one (ps_if (PW.pt (pw_and (pt_cmp (pc_din hu1 (pe_ix (show IxR _ (rIxT K) from ix_tup) (pv 4) pe_int (fun _ _ => rfl)) (pv 1))) (pw_and1 (pt_cmp (pc_dnotin hu1 (pe_ix (show IxR _ (rIxT K) from ix_tup) (pv 4) pe_int (fun _ _ => rfl)) (pv 1)))))) (pss_one (ps_dput hu1 (pv 1) (pe_ix (show IxR _ (rIxT K) from ix_tup) (pv 4) pe_int (fun _ _ => rfl)) (pe_op op_catA (pe_tup (pa_cons (pv 3) pa_nil)) (pe_dget hu1 (pv 1) (pe_ix (show IxR _ (rIxT K) from ix_tup) (pv 4) pe_int (fun _ _ => rfl)) (fun _ _ => rfl))) rfl)) pss_nil)))))
      (pss_one (ps_ret (pv 1))))), ?_⟩
    obtain ⟨dx, vb, vm, ve, e1, e2, e3, e4⟩ := hP.at'
    obtain ⟨os, hos, hoa⟩ : ∃ os, SqT K H ve os ∧ DqAll K H os (nats pl.outs) := by
      cases e4 with
      | tup hs ha => exact ⟨_, hs, ha⟩
    obtain rfl := dqAll_nats hoa
    obtain ⟨ms, hms, hma⟩ : ∃ ms, SqT K H vm ms ∧ DqAll K H ms (pl.ways.map mvD) := by
      cases e3 with
      | tup hs ha => exact ⟨_, hs, ha⟩
    have hml : ms.length = pl.ways.length := by rw [hma.len, List.length_map]
    have hn := hO.n
    have lo := asc_len hO.o
    have hw2 := hO.w2
    refine ⟨_, rfl, p, C, dx, _, _, rfl, e1, T.cl, T.nE, pf_e _ _ _ _, ve, rfl, ⟨_, hos⟩, fun d nd => ?_⟩
    refine dc_it walk_tup (fun i H' => Same H H' ∧ WaysAt pl K H' d (pl.outs.take i) i (ways0 (pl.outs.take i))) ⟨same_upd nd, [], upd_same, Nat.le_refl _, fun s => by simp [valV], fun s _ => by unfold ways0; rw [List.take_zero]; rfl, fun s v h => by simp [valV] at h⟩ (fun i H' _ z => ex_t' z.1 hos) ?_ ?_
    · rintro i v H9 H2 hi ⟨sm, wA⟩ ⟨rfl, hv⟩
      obtain ⟨b, hb, rfl⟩ : ∃ b, pl.outs[i]? = some b ∧ v = .int (b : Int) := by
        rw [List.getElem?_map] at hv
        cases e : pl.outs[i]? with
        | none => rw [e] at hv; cases hv
        | some b => rw [e] at hv; exact ⟨b, rfl, (Option.some.inj hv).symm⟩
      refine ⟨rfl, ?_⟩
      dsimp only [tYes]
      refine iteT ⟨_, rfl, ?_⟩
      refine ⟨by show 0 ≤ sizeLine; decide, fun tp ntp => ?_⟩
      have s3 : Same H2 (upd H2 tp (.tup [])) := same_upd ntp
      have w3 := wA.up s3
      have g3 : upd H2 tp (.tup []) tp = some (.tup []) := upd_same
      generalize upd H2 tp (.tup []) = H3 at s3 w3 g3 ⊢
      obtain ⟨kvs, z1, z2, z3⟩ := w3.put (s0 := b) (T := tp) (t := b) (is := []) (take_notin (asc_nodup hO.o.1) hb) (stOf g3) rfl (List.mem_of_getElem? hb) (Nat.zero_le _)
      refine ⟨kvs, .inl (b : Int), rfl, z1, lt_sz (by rw [List.length_map] at hi; omega), fun x o h => ?_, by rw [take_more hb, ways0_snoc]; exact z3⟩
      rw [upd_ne (ne_of_none h nd)]; exact s3 _ _ (sm _ _ h)
    rintro H2 ⟨sm2, wA⟩
    rw [List.length_map, List.take_length] at wA
    refine ⟨_, rfl, p, C, dx, _, _, rfl, sm2 _ _ e1, T.cl, T.nM, pf_m _ _ _ _, vm, rfl, ⟨_, ex_t' sm2 hms⟩, ?_⟩
    have lo2 : pl.outs.length ≤ 50 := by omega
    refine for_it walk_tup (fun i σ H' => ∃ (y2 y3 y4 : Option V) (S : List Nat), σ = [some (.ref p), some (.ref d), y2, y3, y4, none] ∧ Same H H' ∧ WaysAt pl K H' d S (50 + i * pl.ways.length) (waysI pl i) ∧ (∀ s ∈ pl.outs, s ∈ S) ∧ (ShutW pl S ∨ cntW pl S + i ≤ pl.ways.length))
      ⟨_, _, _, _, rfl, sm2, wA.more (by omega), fun s h => h, .inr (by have := cntW_le pl pl.outs; omega)⟩ (fun i σ H' _ z => by obtain ⟨_, _, _, _, _, sm, _⟩ := z; exact ex_t' sm hms) ?_ ?_
    · rintro i v σ H9 H3 hi ⟨y2, y3, y4, S0, rfl, sm3, w3, ho, hc⟩ ⟨rfl, hv⟩
      have hmul : (i + 1) * pl.ways.length ≤ 2500 := Nat.mul_le_mul (by omega : i + 1 ≤ 50) (by omega : pl.ways.length ≤ 50)
      rw [Nat.add_mul, Nat.one_mul] at hmul
      refine ⟨_, rfl, p, C, dx, _, _, rfl, sm3 _ _ e1, T.cl, T.nM, pf_m _ _ _ _, vm, ms, rfl, ex_t' sm3 hms, ?_⟩
      refine for_it walk_enumT (fun j σ H' => ∃ (y2 y3 y4 : Option V) (S : List Nat), σ = [some (.ref p), some (.ref d), y2, y3, y4, none] ∧ Same H H' ∧ WaysAt pl K H' d S (50 + i * pl.ways.length + j) (wayR pl (waysI pl i) j) ∧ (∀ s ∈ S0, s ∈ S) ∧ (∀ m ∈ pl.ways.take j, m.t ∈ S0 → m.s ∈ S) ∧ (ShutW pl S0 → S = S0))
        ⟨_, _, _, S0, rfl, sm3, w3, fun s h => h, (fun m hm => by rw [List.take_zero] at hm; cases hm), fun _ => rfl⟩ (fun j σ H' _ z => by obtain ⟨_, _, _, _, _, sm, _⟩ := z; exact ex_t' sm hms) ?_ ?_
      · rintro j v σ H9 H4 hj ⟨y2, y3, y4, S, rfl, sm4, w4, sub, al, same⟩ ⟨pr, iv, mv', rfl, npr, rfl, hiv, hmv'⟩
        cases hiv
        have s5 : Same H9 (upd H9 pr (.tup [.int (j : Nat), mv'])) := same_upd npr
        have g5 : upd H9 pr (.tup [.int (j : Nat), mv']) pr = some (.tup [.int (j : Nat), mv']) := upd_same
        generalize upd H9 pr (.tup [.int (j : Nat), mv']) = H5 at s5 g5 ⊢
        obtain ⟨dd, hd, hdq⟩ := hma.at hmv'
        obtain ⟨mv, hmv, rfl⟩ := mv_get hd
        have sm5 := sm4.trans s5
        obtain ⟨e, rfl, hab⟩ := dq_mv (hdq.up sm5)
        have w5 := w4.up s5
        have tkj := take_more hmv
        obtain ⟨kvs, gd, lk, hse, hwn, hval⟩ := w5.at'
        refine ⟨pr, _, rfl, stOf g5, rfl, _, _, rfl, _, _, rfl, rfl, ?_⟩
        refine ⟨.ref e, rfl, e, _, 3, _, rfl, rfl, hab, atI_nat (j := 3) rfl, .ref d, rfl, d, _, rfl, DGet.k (k := .inl (mv.t : Int)) gd, _, rfl, ?_⟩
        rw [hse]
        by_cases ht : mv.t ∈ S
        · rw [decide_eq_true ht]
          refine iteT ⟨.ref e, rfl, e, _, 0, _, rfl, rfl, hab, atI_nat (j := 0) rfl, .ref d, rfl, d, _, rfl, DGet.k (k := .inl (mv.s : Int)) gd, _, rfl, ?_⟩
          rw [hse]
          by_cases hs : mv.s ∈ S
          · rw [decide_eq_true hs]
            obtain ⟨vs0, hvs0⟩ : ∃ v, valV kvs (.inl (mv.s : Int)) = some v := by
              have := hse mv.s
              rw [decide_eq_true hs] at this
              exact Option.isSome_iff_exists.mp this
            obtain ⟨_, _, _, _, _, _, _, _, hws⟩ := hval mv.s vs0 hvs0
            refine iteF ⟨_, _, _, S, rfl, sm5, by rw [show wayR pl (waysI pl i) (j + 1) = wayR pl (waysI pl i) j from wayStep_s hmv hws]; exact w5.more (by omega), sub, fun m hm hmt => ?_, same⟩
            rw [tkj] at hm
            rcases List.mem_append.mp hm with z | z
            · exact al m z hmt
            · rw [List.mem_singleton.mp z]; exact hs
          · rw [decide_eq_false hs]
            obtain ⟨v0, hv0⟩ : ∃ v, valV kvs (.inl (mv.t : Int)) = some v := by
              have := hse mv.t
              rw [decide_eq_true ht] at this
              exact Option.isSome_iff_exists.mp this
            obtain ⟨T0, is, t, rfl, hT0, hg, hto, hil, hwt⟩ := hval mv.t v0 hv0
            have one : 1 ≤ sizeLine := by decide
            refine iteT ⟨_, rfl, one, fun tp ntp => ?_⟩
            have s6 : Same H5 (upd H5 tp (.tup [.int (j : Int)])) := same_upd ntp
            have g6 : upd H5 tp (.tup [.int (j : Int)]) tp = some (.tup [.int (j : Int)]) := upd_same
            generalize upd H5 tp (.tup [.int (j : Int)]) = H6 at s6 g6 ⊢
            have gg : goesTo pl mv.s (j :: is) = some t := by
              show ((pl.ways[j]?).bind fun m => if m.s = mv.s then goesTo pl m.t is else none) = some t
              rw [hmv, Option.bind_some, if_pos rfl]; exact hg
            have fin : ∀ (H7 : Hp) (Tn : Addr), Same H6 H7 → SqT K H7 Tn (ixs (j :: is)) → ∃ kvs, H7 d = some (.dK kvs) ∧ kvs.length < sizeLine ∧ Same H (upd H7 d (.dK (putK kvs (.inl (mv.s : Int)) (.ref Tn)))) ∧ WaysAt pl K (upd H7 d (.dK (putK kvs (.inl (mv.s : Int)) (.ref Tn)))) d (S ++ [mv.s]) (50 + i * pl.ways.length + (j + 1)) (wayR pl (waysI pl i) (j + 1)) := fun H7 Tn s7 hT => by
              rw [show wayR pl (waysI pl i) (j + 1) = setW (wayR pl (waysI pl i) j) mv.s (j :: is) from wayStep_put hmv hwt (hwn _ hs)]
              obtain ⟨kvs, z1, z2, z3⟩ := ((w5.up s6).up s7).put (s0 := mv.s) (T := Tn) (t := t) (is := j :: is) hs hT gg hto (by rw [List.length_cons]; omega)
              rw [hml] at hj
              exact ⟨kvs, z1, lt_sz (by omega), fun x o h => by rw [upd_ne (ne_of_none h nd)]; exact s7 _ _ (s6 _ _ (sm5 _ _ h)), z3⟩
            have last : ∀ (S' : List Nat), S' = S ++ [mv.s] → (∀ s ∈ S0, s ∈ S') ∧ (∀ m ∈ pl.ways.take (j + 1), m.t ∈ S0 → m.s ∈ S') ∧ (ShutW pl S0 → S' = S0) := fun S' e => by
              subst e
              refine ⟨fun s h => List.mem_append_left _ (sub s h), fun m hm hmt => ?_, fun z => ?_⟩
              · rw [tkj] at hm
                rcases List.mem_append.mp hm with z | z
                · exact List.mem_append_left _ (al m z hmt)
                · rw [List.mem_singleton.mp z]; exact List.mem_append_right _ List.mem_cons_self
              · have e := same z
                rw [e] at ht hs
                exact absurd (z mv (List.mem_of_getElem? hmv) ht) hs
            have hab6 := ex_t' s6 hab
            refine ⟨.ref d, rfl, .ref e, rfl, e, _, 3, _, rfl, rfl, hab6, atI_nat (j := 3) rfl, d, .ref T0, rfl, ?_, tp, T0, _, _, rfl, rfl, stOf g6, ex_t' s6 hT0, (by have := lt_sz (n := is.length + 1) (by omega); rw [List.length_map]; show 1 + _ ≤ _; omega), (fun z => nomatch z), fun _ z => ?_, fun _ z tn ntn => ?_⟩
            · have := DGet.k (k := .inl (mv.t : Int)) (s6 _ _ gd)
              rw [hv0] at this
              exact this
            · have hT : SqT K H6 tp (ixs (j :: is)) := by
                show SqT K H6 tp (V.int (j : Int) :: ixs is)
                rw [z]; exact stOf g6
              obtain ⟨kvs', y1, y2', y3', y4'⟩ := fin H6 tp (Same.refl _) hT
              obtain ⟨l1, l2, l3⟩ := last _ rfl
              exact ⟨.ref d, rfl, .ref e, rfl, e, _, 0, _, rfl, rfl, hab6, atI_nat (j := 0) rfl, d, _, rfl, DPut.k (k := .inl (mv.s : Int)) y1 y2', _, _, _, S ++ [mv.s], rfl, y3', y4', l1, l2, l3⟩
            · have s7 : Same H6 (upd H6 tn (.tup ([.int (j : Int)] ++ ixs is))) := same_upd ntn
              have g7 : upd H6 tn (.tup ([.int (j : Int)] ++ ixs is)) tn = some (.tup (ixs (j :: is))) := upd_same
              generalize upd H6 tn (.tup ([.int (j : Int)] ++ ixs is)) = H7 at s7 g7 ⊢
              obtain ⟨kvs', y1, y2', y3', y4'⟩ := fin H7 tn s7 (stOf g7)
              obtain ⟨l1, l2, l3⟩ := last _ rfl
              exact ⟨.ref d, rfl, .ref e, rfl, e, _, 0, _, rfl, rfl, ex_t' s7 hab6, atI_nat (j := 0) rfl, d, _, rfl, DPut.k (k := .inl (mv.s : Int)) y1 y2', _, _, _, S ++ [mv.s], rfl, y3', y4', l1, l2, l3⟩
        · rw [decide_eq_false ht]
          refine iteF ⟨_, _, _, S, rfl, sm5, by rw [show wayR pl (waysI pl i) (j + 1) = wayR pl (waysI pl i) j from wayStep_t hmv (hwn _ ht)]; exact w5.more (by omega), sub, fun m hm hmt => ?_, same⟩
          rw [tkj] at hm
          rcases List.mem_append.mp hm with z | z
          · exact al m z hmt
          · rw [List.mem_singleton.mp z] at hmt; exact absurd (sub _ hmt) ht
      · rintro σ H4 ⟨y2, y3, y4, S, rfl, sm4, w4, sub, al, same⟩
        rw [hml] at w4 al
        rw [List.take_length] at al
        refine ⟨_, _, _, S, rfl, sm4, by rw [Nat.add_mul, Nat.one_mul, ← Nat.add_assoc]; exact w4, fun s h => sub s (ho s h), ?_⟩
        by_cases z : ShutW pl S0
        · rw [same z]; exact .inl z
        · rcases hc with hc | hc
          · exact absurd hc z
          · have := cntW_less sub al z
            exact .inr (by omega)
    · rintro σ H3 ⟨y2, y3, y4, S, rfl, sm3, w3, ho, hc⟩
      rw [hml] at w3 hc
      have hmul : pl.ways.length * pl.ways.length ≤ 2500 := Nat.mul_le_mul (by omega : pl.ways.length ≤ 50) (by omega : pl.ways.length ≤ 50)
      have shut : ShutW pl S := by
        rcases hc with hc | hc
        · exact hc
        · exact cntW_zero (by omega)
      refine ⟨_, rfl, kQ d H3 S sm3 (w3.more (by omega)) fun s hs => ?_⟩
      induction hs with
      | base h => exact ho _ h
      | step _ he ih =>
        unfold flipE useE at he
        rw [List.map_map] at he
        obtain ⟨m, hm, e⟩ := List.mem_map.mp he
        cases e
        exact shut m hm ih
end
end KP
/-! rings and bounds, without the program -/
namespace KP
open PySem PySem.Spec PyProof.Rows L2 EL
theorem walked_len {pl : Plan} : ∀ {ps : List P2} {is : List Nat}, Walked pl ps is → ps.length = is.length + 1
  | [], [], h => h.elim
  | [], _ :: _, h => h.elim
  | [_], [], _ => rfl
  | [_], _ :: _, h => h.elim
  | _ :: _ :: _, [], h => h.elim
  | _ :: q :: ps, i :: is, h => by
    have := walked_len (ps := q :: ps) (is := is) h.2
    simp only [List.length_cons] at this ⊢
    omega
theorem walked_step {pl : Plan} : ∀ {ps : List P2} {is : List Nat} {k : Nat} {p p' : P2}, Walked pl ps is → ps[k]? = some p → ps[k + 1]? = some p' → ∃ i m, is[k]? = some i ∧ pl.ways[i]? = some m ∧ m.s = p.1 ∧ m.t = p'.1 ∧ p'.2 = p.2 + m.gain
  | [], [], _, _, _, h, _, _ => h.elim
  | [], _ :: _, _, _, _, h, _, _ => h.elim
  | [_], [], k, _, _, _, _, h => by simp at h
  | [_], _ :: _, _, _, _, h, _, _ => h.elim
  | _ :: _ :: _, [], _, _, _, h, _, _ => h.elim
  | a :: q :: ps, i :: is, 0, p, p', h, h1, h2 => by
    simp at h1 h2
    subst h1; subst h2
    obtain ⟨m, hm⟩ := h.1
    exact ⟨i, m, rfl, hm⟩
  | a :: q :: ps, i :: is, k + 1, p, p', h, h1, h2 => by
    obtain ⟨j, m, q1, q2⟩ := walked_step (ps := q :: ps) (is := is) (k := k) h.2 (by simpa using h1) (by simpa using h2)
    exact ⟨j, m, by simpa using q1, q2⟩
def gsum (pl : Plan) : List Nat → Int
  | [] => 0
  | i :: is => ((pl.ways[i]?).map Mv.gain).getD 0 + gsum pl is
theorem walked_goes {pl : Plan} : ∀ {ps : List P2} {is : List Nat} {b : Nat} {p q : P2}, Walked pl ps is → ps[0]? = some p → ps[b]? = some q → goesTo pl p.1 (is.take b) = some q.1 ∧ gsum pl (is.take b) = q.2 - p.2
  | [], [], _, _, _, h, _, _ => h.elim
  | [], _ :: _, _, _, _, h, _, _ => h.elim
  | [_], _ :: _, _, _, _, h, _, _ => h.elim
  | _ :: _ :: _, [], _, _, _, h, _, _ => h.elim
  | a :: r, is, 0, p, q, _, h1, h2 => by
    simp at h1 h2
    subst h1; subst h2
    rw [List.take_zero]
    exact ⟨rfl, by show (0 : Int) = _; omega⟩
  | [_], [], b + 1, _, _, _, _, h => by simp at h
  | a :: c :: ps, i :: is, b + 1, p, q, h, h1, h2 => by
    simp at h1
    subst h1
    obtain ⟨m, hm, m1, m2, m3⟩ := h.1
    obtain ⟨q1, q2⟩ := walked_goes (ps := c :: ps) (is := is) (b := b) (p := c) (q := q) h.2 rfl (by simpa using h2)
    rw [List.take_succ_cons]
    refine ⟨?_, ?_⟩
    · show ((pl.ways[i]?).bind fun m => if m.s = a.1 then goesTo pl m.t (is.take b) else none) = some q.1
      rw [hm, Option.bind_some, if_pos m1, m2]; exact q1
    · show ((pl.ways[i]?).map Mv.gain).getD 0 + gsum pl (is.take b) = _
      rw [hm, q2, m3]
      show m.gain + _ = _
      omega
theorem walked_drop {pl : Plan} : ∀ {ps : List P2} {is : List Nat} {a : Nat}, Walked pl ps is → a < ps.length → Walked pl (ps.drop a) (is.drop a)
  | [], _, _, _, h => by simp at h
  | a :: r, is, 0, h, _ => h
  | [_], is, a + 1, _, h => by simp at h
  | _ :: _ :: _, [], _ + 1, h, _ => h.elim
  | x :: c :: ps, i :: is, a + 1, h, hl => by
    rw [List.drop_succ_cons, List.drop_succ_cons]
    exact walked_drop h.2 (by simp at hl ⊢; omega)
theorem walked_part {pl : Plan} {ps : List P2} {is : List Nat} {a b : Nat} {p q : P2} (h : Walked pl ps is) (ha : ps[a]? = some p) (hb : ps[b]? = some q) (le : a ≤ b) : goesTo pl p.1 ((is.drop a).take (b - a)) = some q.1 ∧ gsum pl ((is.drop a).take (b - a)) = q.2 - p.2 := by
  have al := (List.getElem?_eq_some_iff.mp ha).1
  refine walked_goes (walked_drop h al) ?_ ?_
  · rw [List.getElem?_drop]; simpa using ha
  · rw [List.getElem?_drop, Nat.add_sub_cancel' le]; exact hb
def cntV (us : List Nat) (ps : List P2) : Nat := (us.filter fun s => decide (s ∈ ps.map Prod.fst)).length
theorem cntV_le (us : List Nat) (ps : List P2) : cntV us ps ≤ us.length := List.length_filter_le _ _
theorem filter_le {α : Type} {p q : α → Bool} : ∀ {l : List α}, (∀ x ∈ l, q x = true → p x = true) → (l.filter q).length ≤ (l.filter p).length
  | [], _ => Nat.le_refl _
  | b :: r, h1 => by
    have ih := filter_le (l := r) fun x hx => h1 x (List.mem_cons_of_mem _ hx)
    have hb := h1 b List.mem_cons_self
    cases q1 : q b with
    | true => rw [List.filter_cons_of_pos q1, List.filter_cons_of_pos (hb q1)]; simp; exact ih
    | false =>
      rw [List.filter_cons_of_neg (by simp [q1])]
      cases p1 : p b with
      | true => rw [List.filter_cons_of_pos p1]; simp; omega
      | false => rw [List.filter_cons_of_neg (by simp [p1])]; exact ih
theorem lead_bound {us : List Nat} {G : Int} {P : List P2} (g0 : 0 ≤ G) (hus : ∀ p ∈ P, p.1 ∈ us) (h0 : ∀ p, P[0]? = some p → p.2 = 0)
    (step : ∀ (k : Nat) (p p' : P2), P[k]? = some p → P[k + 1]? = some p' → p'.2 ≤ p.2 + G ∧ p.2 - G ≤ p'.2) (same : ∀ (i j : Nat) (p q : P2), P[i]? = some p → P[j]? = some q → p.1 = q.1 → p.2 = q.2) :
    ∀ k, k < P.length → ∀ (j : Nat) (p : P2), j ≤ k → P[j]? = some p → p.2 ≤ ((cntV us (P.take (k + 1)) : Int) - 1) * G ∧ -(((cntV us (P.take (k + 1)) : Int) - 1) * G) ≤ p.2
  | 0, hk, j, p, hj, hp => by
    obtain rfl : j = 0 := by omega
    have c : 1 ≤ cntV us (P.take (0 + 1)) := by
      unfold cntV
      have hm : p.1 ∈ us.filter fun s => decide (s ∈ (P.take (0 + 1)).map Prod.fst) := List.mem_filter.mpr ⟨hus p (List.mem_of_getElem? hp), by
        rw [decide_eq_true_eq]
        exact List.mem_map.mpr ⟨p, by rw [List.take_add_one, hp]; simp, rfl⟩⟩
      exact List.length_pos_of_mem hm
    have : 0 ≤ ((cntV us (P.take (0 + 1)) : Int) - 1) * G := Int.mul_nonneg (by omega) g0
    rw [h0 p hp]
    omega
  | k + 1, hk, j, p, hj, hp => by
    have ih := lead_bound g0 hus h0 step same k (by omega)
    obtain ⟨p', hp'⟩ : ∃ p', P[k + 1]? = some p' := ⟨_, List.getElem?_eq_getElem hk⟩
    obtain ⟨pk, hpk⟩ : ∃ p', P[k]? = some p' := ⟨_, List.getElem?_eq_getElem (by omega)⟩
    have tk : P.take (k + 1 + 1) = P.take (k + 1) ++ [p'] := by rw [List.take_add_one, hp']; rfl
    have le : cntV us (P.take (k + 1)) ≤ cntV us (P.take (k + 1 + 1)) := filter_le fun x _ h => by
      rw [decide_eq_true_eq] at h ⊢
      rw [tk, List.map_append]; exact List.mem_append_left _ h
    have lem : ((cntV us (P.take (k + 1)) : Int) - 1) * G ≤ ((cntV us (P.take (k + 1 + 1)) : Int) - 1) * G := Int.mul_le_mul_of_nonneg_right (by omega) g0
    rcases Nat.lt_or_ge j (k + 1) with lt | ge
    · have := ih j p (by omega) hp
      omega
    · obtain rfl : j = k + 1 := by omega
      have epp : p = p' := Option.some.inj (hp.symm.trans hp')
      rw [epp]
      by_cases old : p'.1 ∈ (P.take (k + 1)).map Prod.fst
      · obtain ⟨r, hr, e⟩ := List.mem_map.mp old
        obtain ⟨i, hi, hr2⟩ := List.mem_take_iff_getElem.mp hr
        have hri : P[i]? = some r := by rw [← hr2]; exact List.getElem?_eq_getElem _
        have := ih i r (by omega) hri
        rw [← same i (k + 1) r p' hri hp' e]
        omega
      · have lt : cntV us (P.take (k + 1)) < cntV us (P.take (k + 1 + 1)) := by
          refine filter_lt (fun x _ h => ?_) ⟨p'.1, hus p' (List.mem_of_getElem? hp'), ?_, by simpa using old⟩
          · rw [decide_eq_true_eq] at h ⊢
            rw [tk, List.map_append]; exact List.mem_append_left _ h
          · rw [decide_eq_true_eq, tk, List.map_append]
            exact List.mem_append_right _ List.mem_cons_self
        have := ih k pk (Nat.le_refl _) hpk
        have st := step k pk p' hpk hp'
        have mul : ((cntV us (P.take (k + 1)) : Int) - 1) * G + G ≤ ((cntV us (P.take (k + 1 + 1)) : Int) - 1) * G := by
          have e : ((cntV us (P.take (k + 1)) : Int) - 1) * G + G = (cntV us (P.take (k + 1)) : Int) * G := by rw [Int.sub_mul]; omega
          rw [e]
          exact Int.mul_le_mul_of_nonneg_right (by omega) g0
        omega
theorem ring_ex {pl : Plan} {us : List Nat} {G : Int} {b : Nat} {ps : List P2} {is : List Nat} {q : P2} (g0 : 0 ≤ G) (hG : ∀ s ∈ us, ∀ e ∈ leavL pl us s, e.2.1 ≤ G ∧ -G ≤ e.2.1) (W : Walked pl ((b, 0) :: ps) is)
    (hus : ∀ p ∈ ((b, 0) : P2) :: ps, p.1 ∈ us) (hl : (((b, 0) : P2) :: ps).getLast? = some q) (hf : ¬ (q.2 ≤ farB us G ∧ -(farB us G) ≤ q.2)) : ∃ k, (ringF ((b, 0) :: ps) k).isSome = true := by
  refine Classical.byContradiction fun no => hf ?_
  have none' : ∀ k, ringF ((b, 0) :: ps) k = none := fun k => by
    cases e : ringF ((b, 0) :: ps) k with
    | none => rfl
    | some x => exact absurd ⟨k, by rw [e]; rfl⟩ no
  have toFst : ∀ (i : Nat) (p : P2), (((b, 0) : P2) :: ps)[i]? = some p → ∃ a r, fstAt (((b, 0) : P2) :: ps) p.1 = some a ∧ (((b, 0) : P2) :: ps)[a]? = some r ∧ r.2 = p.2 := fun i p hp => by
    obtain ⟨a, ha⟩ : ∃ a, fstAt (((b, 0) : P2) :: ps) p.1 = some a := by
      cases e : fstAt (((b, 0) : P2) :: ps) p.1 with
      | some a => exact ⟨a, rfl⟩
      | none =>
        unfold fstAt at e
        rw [List.findIdx?_eq_none_iff] at e
        have := e p (List.mem_of_getElem? hp)
        simp at this
    obtain ⟨r, hr, _⟩ := fstAt_some ha
    have z := none' i
    unfold ringF at z
    rw [hp, Option.bind_some, ha, Option.bind_some, hr, Option.bind_some] at z
    refine ⟨a, r, ha, hr, ?_⟩
    by_cases e : r.2 = p.2
    · exact e
    · rw [if_pos e] at z; cases z
  have same : ∀ (i j : Nat) (p r : P2), (((b, 0) : P2) :: ps)[i]? = some p → (((b, 0) : P2) :: ps)[j]? = some r → p.1 = r.1 → p.2 = r.2 := fun i j p r hp hr e => by
    obtain ⟨a, x, a1, a2, a3⟩ := toFst i p hp
    obtain ⟨c, y, c1, c2, c3⟩ := toFst j r hr
    rw [e, c1] at a1
    cases a1
    rw [c2] at a2
    cases a2
    rw [← a3, ← c3]
  have last : (((b, 0) : P2) :: ps)[ps.length]? = some q := by
    rw [List.getLast?_eq_getElem?] at hl
    simpa using hl
  have := lead_bound g0 hus (fun p h => by simp at h; rw [← h]) (fun k p p' h1 h2 => ?_) same ps.length (by simp) ps.length q (Nat.le_refl _) last
  · have le := cntV_le us ((((b, 0) : P2) :: ps).take (ps.length + 1))
    have mul : ((cntV us ((((b, 0) : P2) :: ps).take (ps.length + 1)) : Int) - 1) * G ≤ farB us G := Int.mul_le_mul_of_nonneg_right (by omega) g0
    omega
  · obtain ⟨i, m, _, hm, m1, m2, m3⟩ := walked_step W h1 h2
    have u1 := hus p (List.mem_of_getElem? h1)
    have u2 := hus p' (List.mem_of_getElem? h2)
    have := hG p.1 u1 (i, m.gain, m.t) (mem_leav.mpr ⟨m, hm, m1, u1, by rw [m2]; exact u2, rfl, rfl⟩)
    have t1 : m.gain ≤ G := this.1
    have t2 : -G ≤ m.gain := this.2
    omega
end KP
namespace KP
open PySem PySem.Spec PyProof.Rows L2 EL
open Evl (pss_cut)
abbrev sRingPaper : Stmt := topS 41
theorem scRingPaper : FnScope ["pacer", "came", "last", "places", "indexes", "start", "stop", "begin", "_", "state"] ["pacer", "came", "last"] (defScope sRingPaper) := ⟨rfl, rfl, rfl, by decide +kernel, rfl, by decide +kernel, by decide +kernel⟩
abbrev ringD (b : Nat) (th rg on : List Nat) : PyData := .tuple [.str "ring", .int (b : Int), .tuple (nats th), .tuple (nats rg), .tuple (nats on)]
structure RingOk (pl : Plan) (us : List Nat) (b : Nat) (th rg on : List Nat) : Prop where
  bi : b ∈ pl.ins
  ex : ∃ s t, goesTo pl b th = some s ∧ goesTo pl s rg = some s ∧ gsum pl rg ≠ 0 ∧ goesTo pl s on = some t ∧ t ∈ pl.outs ∧ s ∈ us
  ln : th.length ≤ 20001 ∧ rg.length ≤ 20001 ∧ on.length ≤ 3000
/-- just which ring the paper tells -/
def RingJust (pl : Plan) (M : List Ent) (q : P2) (b : Nat) (th rg on : List Nat) : Prop := ∃ (ps : List P2) (is : List Nat) (a c : Nat) (x : P2), WayM M q ps is ∧ ((List.range ps.length).filterMap (ringF ps))[0]? = some (a, c) ∧ ps[a]? = some x ∧ ps[0]? = some (b, 0) ∧ th = is.take a ∧ rg = (is.drop a).take (c - a) ∧ waysI pl pl.ways.length x.1 = some on
theorem ringJust_uniq {pl : Plan} {M : List Ent} (nd : (M.map Prod.fst).Nodup) {q : P2} {b b' : Nat} {th th' rg rg' on on' : List Nat} (h : RingJust pl M q b th rg on) (h' : RingJust pl M q b' th' rg' on') : b = b' ∧ th = th' ∧ rg = rg' ∧ on = on' := by
  obtain ⟨ps, is, a, c, x, h1, h2, h3, h4, rfl, rfl, h5⟩ := h
  obtain ⟨ps', is', a', c', x', k1, k2, k3, k4, rfl, rfl, k5⟩ := h'
  obtain ⟨rfl, rfl⟩ := wayM_uniq nd h1 k1
  rw [h2] at k2
  cases k2
  rw [h3] at k3
  cases k3
  rw [h4] at k4
  cases k4
  rw [h5] at k5
  cases k5
  exact ⟨rfl, rfl, rfl, rfl⟩
def spRingPaper (K : PySem.W.Frag) (C : Addr) : Sp := fun vs H Q _ => ∃ (p d T : Addr) (pl : Plan) (top many long : Nat) (us : List Nat) (M : List Ent) (G : Int) (q : P2), vs = [.ref p, .ref d, .ref T] ∧ PacAt K C H p pl ∧ pl.Ok top many long ∧ top ≤ 10 ∧ many ≤ 50 ∧ long ≤ 50 ∧ UsefulL pl us ∧ CameAt H d M ∧ Srch pl us M ∧ M.length ≤ 20000 ∧ H T = some (.tup (v2 q)) ∧ FarAt pl us G M q ∧ 0 ≤ G ∧ (∀ s ∈ us, ∀ e ∈ leavL pl us s, e.2.1 ≤ G ∧ -G ≤ e.2.1) ∧
  ∀ v H' b th rg on, Same H H' → Dq K H' v (ringD b th rg on) → RingOk pl us b th rg on → RingJust pl M q b th rg on → Q v H'
section
variable {P : Program} {w : World} {K : PySem.W.Frag} {mg : Str → Option Value} {base : Heap}
theorem ok_RingPaper {f C : Addr} {fd : FuncData} {k : Nat} (F : Fun K "ring_paper" "ring_paper" sRingPaper f fd) (T : PTxt K C) (ntuple : mg "tuple" = none) (m_RING : StrAt mg "RING" "ring") (CWayTo : Cal P w K mg base k "way_to" ["came", "last"] (spWayTo K)) (CRingBetween : Cal P w K mg base k "ring_between" ["places"] (spRingBetween K)) (CWaysOn : Cal P w K mg base k "ways_on" ["pacer"] (spWaysOn K C)) : FnOk P w K mg base CX0 (k + 1) f fd ["pacer", "came", "last"] (spRingPaper K C) := by

  refine F.ok scRingPaper (fun vs H Q E h => ?_) (fun cdv A outer s H vs Q E hr h => ?_)
  · obtain ⟨p, d, T, pl, top, many, long, us, M, G, q, rfl, _⟩ := h; rfl
  · obtain ⟨p, d, Tq, pl, top, many, long, us, M, G, q, rfl, hP, hO, t1, t2, t3, U, hC, hS, hM, hT, hF, g0, hG, kQ⟩ := h
    have hu := hr.units
    have hu1 : (A.deeper (envOfC "ring_paper" (defScope sRingPaper) s.heap.objs.size f cdv)).units + 1 < cLine := by omega
    refine ⟨_, (pss_cons (ps_asg (pe_cal CWayTo hr (by rfl) pass0 (pa_cons (pv 1) (pa_cons (pv 2) pa_nil))) (pg_tup (by rfl) (pgs_cons (pg_name (i := 3) scRingPaper.nd rfl (by first | exact Or.inl rfl | exact Or.inr rfl)) (pgs_cons (pg_name (i := 4) scRingPaper.nd rfl (by first | exact Or.inl rfl | exact Or.inr rfl)) pgs_nil))))
      (pss_cons (ps_asg (pe_cal CRingBetween hr (by rfl) pass0 (pa_cons (pv 3) pa_nil)) (pg_tup (by rfl) (pgs_cons (pg_name (i := 5) scRingPaper.nd rfl (by first | exact Or.inl rfl | exact Or.inr rfl)) (pgs_cons (pg_name (i := 6) scRingPaper.nd rfl (by first | exact Or.inl rfl | exact Or.inr rfl)) pgs_nil))))
      (pss_cons (ps_asg (pe_ix (show IxR _ (rIxL K) from ix_list) (pv 3) pe_int (fun _ _ => rfl)) (pg_tup (by rfl) (pgs_cons (pg_name (i := 7) scRingPaper.nd rfl (by first | exact Or.inl rfl | exact Or.inr rfl)) (pgs_cons (pg_name (i := 8) scRingPaper.nd rfl (by first | exact Or.inl rfl | exact Or.inr rfl)) pgs_nil))))
      (pss_cons (ps_asg (pe_ix (show IxR _ (rIxL K) from ix_list) (pv 3) (pv 5) (fun _ _ => rfl)) (pg_tup (by rfl) (pgs_cons (pg_name (i := 9) scRingPaper.nd rfl (by first | exact Or.inl rfl | exact Or.inr rfl)) (pgs_cons (pg_name (i := 8) scRingPaper.nd rfl (by first | exact Or.inl rfl | exact Or.inr rfl)) pgs_nil))))
      (pss_one (ps_ret (pe_tup (pa_cons (pe_gstr m_RING) (pa_cons (pv 7) (pa_cons (pe_callTy call_tuple_of (by rfl) ntuple (by decide +kernel) (pa_cons (pe_slice sl_list (pv 4) po_none (po_some (pv 5))) pa_nil)) (pa_cons (pe_callTy call_tuple_of (by rfl) ntuple (by decide +kernel) (pa_cons (pe_slice sl_list (pv 4) (po_some (pv 5)) (po_some (pv 6))) pa_nil)) (pa_cons (pe_dget hu1 (pe_cal CWaysOn hr (by rfl) pass0 (pa_cons (pv 0) pa_nil)) (pv 9) (fun _ _ => rfl)) pa_nil)))))))))))), ?_⟩
    have hin : q ∈ M.map Prod.fst := by
      obtain ⟨M0, e, rfl, rfl, _⟩ := hF.la
      exact List.mem_map.mpr ⟨e, List.mem_append_right _ List.mem_cons_self, rfl⟩
    refine ⟨_, rfl, _, rfl, d, Tq, pl, us, M, q, rfl, hC, hS, hM, hT, hin, fun r L1 L2 H1 b ps is s1 gr hL1 gL2 hb W hla hus hl wayM => ?_⟩
    refine ⟨r, _, rfl, stOf gr, rfl, _, _, rfl, _, _, rfl, rfl, ?_⟩
    have hex := ring_ex g0 hG W hus hla hF.fa
    refine ⟨_, rfl, L1, _, rfl, hL1, by rw [List.length_cons]; omega, hex, fun r2 H2 a c x y s2 g2 lt ha hc e1 e2 hrg => ?_⟩
    refine ⟨r2, _, rfl, g2, rfl, _, _, rfl, _, _, rfl, rfl, ?_⟩
    obtain ⟨ts, gL1, tl, gT⟩ := hL1.at'
    have gL1' := s2 _ _ gL1
    have gL2' := s2 _ _ gL2
    obtain ⟨T0, hT0⟩ : ∃ T, ts[0]? = some T := ⟨_, List.getElem?_eq_getElem (by rw [tl]; exact Nat.zero_lt_succ _)⟩
    have gT0 := s2 _ _ (gT 0 (b, 0) T0 rfl hT0)
    refine ⟨.ref L1, rfl, L1, _, 0, .ref T0, rfl, rfl, sqOf gL1', atI_nat (j := 0) (by rw [List.getElem?_map, hT0]; rfl), T0, _, rfl, stOf gT0, rfl, _, _, rfl, _, _, rfl, rfl, ?_⟩
    obtain ⟨Ta, hTa⟩ : ∃ T, ts[a]? = some T := ⟨_, List.getElem?_eq_getElem (by rw [tl]; exact (List.getElem?_eq_some_iff.mp ha).1)⟩
    have gTa := s2 _ _ (gT a x Ta ha hTa)
    refine ⟨.ref L1, rfl, _, rfl, L1, _, (a : Int), .ref Ta, rfl, rfl, sqOf gL1', atI_nat (j := a) (by rw [List.getElem?_map, hTa]; rfl), Ta, _, rfl, stOf gTa, rfl, _, _, rfl, _, _, rfl, rfl, ?_⟩
    have lis := walked_len W
    have hca : ∀ n : Nat, (ixs is).take n = ixs (is.take n) := fun n => by unfold ixs; rw [List.map_take]
    have al := (List.getElem?_eq_some_iff.mp ha).1
    have cl := (List.getElem?_eq_some_iff.mp hc).1
    rw [List.length_cons] at al cl lis
    have five : 5 ≤ sizeLine := by decide
    obtain ⟨z1, z2⟩ := walked_part W rfl ha (Nat.zero_le _)
    obtain ⟨z3, z4⟩ := walked_part W ha hc (Nat.le_of_lt lt)
    rw [List.drop_zero, Nat.sub_zero] at z1 z2
    have cut1 : cutV (ixs is) none (some (a : Int)) = ixs (is.take a) := by rw [EL.cut_tk, hca]
    have cut2 : cutV (ixs is) (some (a : Int)) (some (c : Int)) = ixs ((is.drop a).take (c - a)) := by
      unfold cutV
      rw [HT.sIx_nat, HT.sIx_nat]
      have l1 : (ixs is).length = is.length := by unfold ixs; rw [List.length_map]
      rw [l1, Nat.min_eq_left (by omega), Nat.min_eq_left (by omega)]
      unfold ixs
      rw [← List.map_drop, ← List.map_take]
    refine ⟨_, rfl, .ref L2, rfl, _, rfl, _, rfl, L2, _, rfl, sqOf gL2', fun p1 np1 => ⟨p1, _, rfl, .inl ⟨sqOf upd_same, fun q1 nq1 => ?_⟩⟩⟩
    have s3 : Same H2 (upd (upd H2 p1 (.lst (cutV (ixs is) none (some (a : Int))))) q1 (.tup (cutV (ixs is) none (some (a : Int))))) := (same_upd np1).trans (same_upd nq1)
    have g3 : SqT K (upd (upd H2 p1 (.lst (cutV (ixs is) none (some (a : Int))))) q1 (.tup (cutV (ixs is) none (some (a : Int))))) q1 (ixs (is.take a)) := by rw [cut1]; exact stOf upd_same
    generalize upd (upd H2 p1 (.lst (cutV (ixs is) none (some (a : Int))))) q1 (.tup (cutV (ixs is) none (some (a : Int)))) = H3 at s3 g3 ⊢
    refine ⟨.ref L2, rfl, _, rfl, _, rfl, _, rfl, _, rfl, L2, _, rfl, sqOf (s3 _ _ gL2'), fun p2 np2 => ⟨p2, _, rfl, .inl ⟨sqOf upd_same, fun q2 nq2 => ?_⟩⟩⟩
    have s4 : Same H3 (upd (upd H3 p2 (.lst (cutV (ixs is) (some (a : Int)) (some (c : Int))))) q2 (.tup (cutV (ixs is) (some (a : Int)) (some (c : Int))))) := (same_upd np2).trans (same_upd nq2)
    have g4 : SqT K (upd (upd H3 p2 (.lst (cutV (ixs is) (some (a : Int)) (some (c : Int))))) q2 (.tup (cutV (ixs is) (some (a : Int)) (some (c : Int))))) q2 (ixs ((is.drop a).take (c - a))) := by rw [cut2]; exact stOf upd_same
    generalize upd (upd H3 p2 (.lst (cutV (ixs is) (some (a : Int)) (some (c : Int))))) q2 (.tup (cutV (ixs is) (some (a : Int)) (some (c : Int)))) = H4 at s4 g4 ⊢
    have sH4 : Same H H4 := ((s1.trans s2).trans s3).trans s4
    refine ⟨_, rfl, p, pl, top, many, long, rfl, hP.up sH4, hO, by omega, t2, t3, fun d2 H5 S s5 wA hS5 => ?_⟩
    have ux := hus x (List.mem_of_getElem? ha)
    obtain ⟨kvs, gd, _, hse, hwn, hval⟩ := wA.at'
    obtain ⟨v0, hv0⟩ : ∃ v, valV kvs (.inl (x.1 : Int)) = some v := by
      have := hse x.1
      rw [decide_eq_true (hS5 _ ((U.me _).mp ux).2)] at this
      exact Option.isSome_iff_exists.mp this
    obtain ⟨T5, on, t, rfl, hT5, hg, hto, hil, hwt⟩ := hval x.1 v0 hv0
    refine ⟨_, rfl, d2, .ref T5, rfl, (by have := DGet.k (k := .inl (x.1 : Int)) gd; rw [hv0] at this; exact this), five, fun r5 n5 => ?_⟩
    have s6 := same_upd (o := .tup [.str "ring", .int (b : Int), .ref q1, .ref q2, .ref T5]) n5
    refine kQ _ _ b (is.take a) ((is.drop a).take (c - a)) on (sH4.trans (s5.trans s6)) ?_ ⟨hb, ⟨x.1, t, z1, ?_, ?_, hg, hto, ux⟩, ⟨by rw [List.length_take]; omega, by rw [List.length_take, List.length_drop]; omega, hil⟩⟩ ⟨_, is, a, c, x, wayM, hrg, ha, rfl, rfl, rfl, hwt⟩
    · exact .tup (stOf upd_same) (.cons (.str _) (.cons (.int _) (.cons (.tup (ex_t' ((s4.trans s5).trans s6) g3) (nats_dqAll _)) (.cons (.tup (ex_t' (s5.trans s6) g4) (nats_dqAll _)) (.cons (.tup (ex_t' s6 hT5) (nats_dqAll _)) .nil)))))
    · rw [e1] at z3 ⊢; exact z3
    · rw [z4]; omega
end
end KP
namespace KP
open PySem PySem.Spec PyProof.Rows L2 EL
open Evl (pss_cut)
abbrev sJudge : Stmt := topS 32
theorem scJudge : FnScope ["pacer", "came", "far", "found", "state"] ["pacer"] (defScope sJudge) := ⟨rfl, rfl, rfl, by decide +kernel, rfl, by decide +kernel, by decide +kernel⟩
abbrev sIsEven : Stmt := topS 34
theorem scIsEven : FnScope ["pacer"] ["pacer"] (defScope sIsEven) := ⟨rfl, rfl, rfl, by decide +kernel, rfl, by decide +kernel, by decide +kernel⟩
def stsOf : List Ent → List Nat
  | [] => []
  | e :: r => e.1.1 :: (stsOf r).filter fun s => decide (s ≠ e.1.1)
theorem mem_sts : ∀ {M : List Ent} {s : Nat}, s ∈ stsOf M ↔ ∃ e ∈ M, e.1.1 = s
  | [], s => by simp [stsOf]
  | e :: r, s => by
    have ih := mem_sts (M := r) (s := s)
    unfold stsOf
    rw [List.mem_cons, List.mem_filter, ih]
    constructor
    · rintro (rfl | ⟨⟨x, hx, rfl⟩, _⟩)
      · exact ⟨e, List.mem_cons_self, rfl⟩
      · exact ⟨x, List.mem_cons_of_mem _ hx, rfl⟩
    · rintro ⟨x, hx, rfl⟩
      by_cases h : x.1.1 = e.1.1
      · exact .inl h
      · rcases List.mem_cons.mp hx with rfl | hx
        · exact absurd rfl h
        · exact .inr ⟨⟨x, hx, rfl⟩, by simpa using h⟩
theorem sts_nodup : ∀ M : List Ent, (stsOf M).Nodup
  | [] => List.nodup_nil
  | e :: r => by
    unfold stsOf
    rw [List.nodup_cons]
    exact ⟨fun h => by have := (List.mem_filter.mp h).2; simp at this, List.Pairwise.sublist List.filter_sublist (sts_nodup r)⟩
theorem keys_sts : ∀ M : List Ent, keysOf (M.map ldE) = (stsOf M).map fun s : Nat => ((.inl (s : Int)) : L2.Key)
  | [] => rfl
  | e :: r => by
    rw [List.map_cons]
    show (.inl (e.1.1 : Int) : L2.Key) :: (keysOf (r.map ldE)).filter (fun j => decide (j ≠ .inl (e.1.1 : Int))) = _
    rw [keys_sts r]
    show _ = (e.1.1 :: (stsOf r).filter fun s => decide (s ≠ e.1.1)).map _
    rw [List.map_cons, List.filter_map]
    congr 2
    refine List.filter_congr fun s _ => ?_
    show decide ((Sum.inl (s : Int) : L2.Key) ≠ .inl (e.1.1 : Int)) = decide (s ≠ e.1.1)
    exact decide_eq_decide.mpr ⟨fun h z => h (by rw [z]), fun h z => h (by injection z with z; omega)⟩
theorem asc_ext : ∀ {a b : List Nat}, a.Pairwise (· < ·) → b.Pairwise (· < ·) → (∀ x, x ∈ a ↔ x ∈ b) → a = b
  | [], [], _, _, _ => rfl
  | [], y :: b, _, _, h => nomatch (h y).mpr List.mem_cons_self
  | x :: a, [], _, _, h => nomatch (h x).mp List.mem_cons_self
  | x :: a, y :: b, h1, h2, h => by
    obtain ⟨p1, p2⟩ := List.pairwise_cons.mp h1
    obtain ⟨q1, q2⟩ := List.pairwise_cons.mp h2
    have e : x = y := by
      have hx := (h x).mp List.mem_cons_self
      have hy := (h y).mpr List.mem_cons_self
      rcases List.mem_cons.mp hx with z | z
      · exact z
      · rcases List.mem_cons.mp hy with w | w
        · exact w.symm
        · have := p1 y w; have := q1 x z; omega
    subst e
    refine congrArg _ (asc_ext p2 q2 fun z => ⟨fun m => ?_, fun m => ?_⟩)
    · rcases List.mem_cons.mp ((h z).mp (List.mem_cons_of_mem _ m)) with w | w
      · have := p1 z m; omega
      · exact w
    · rcases List.mem_cons.mp ((h z).mpr (List.mem_cons_of_mem _ m)) with w | w
      · have := q1 z m; omega
      · exact w
theorem nats_sorted {ys : List Int} {us : List Nat} (hp : ys.Perm (us.map fun n : Nat => (n : Int))) (hs : ys.Pairwise (· ≤ ·)) (nd : us.Nodup) : ∃ ns : List Nat, ys = ns.map (fun n : Nat => (n : Int)) ∧ ns.Pairwise (· < ·) ∧ ∀ s, s ∈ ns ↔ s ∈ us := by
  obtain ⟨ns, rfl⟩ : ∃ ns : List Nat, ys = ns.map fun n : Nat => (n : Int) := by
    have : ∀ l : List Int, (∀ z ∈ l, ∃ n : Nat, z = (n : Int)) → ∃ ns : List Nat, l = ns.map fun n : Nat => (n : Int) := by
      intro l
      induction l with
      | nil => exact fun _ => ⟨[], rfl⟩
      | cons z r ih =>
        intro h
        obtain ⟨n, rfl⟩ := h z List.mem_cons_self
        obtain ⟨ns, e⟩ := ih fun y hy => h y (List.mem_cons_of_mem _ hy)
        exact ⟨n :: ns, by rw [e]; rfl⟩
    exact this ys fun z hz => by
      obtain ⟨n, _, e⟩ := List.mem_map.mp (hp.mem_iff.mp hz)
      exact ⟨n, e.symm⟩
  have hp2 : ns.Perm us := perm_nats hp
  have hle : ns.Pairwise (· ≤ ·) := by
    rw [List.pairwise_map] at hs
    exact hs.imp fun h => by omega
  refine ⟨ns, rfl, ?_, fun s => hp2.mem_iff⟩
  have hnd := hp2.nodup_iff.mpr nd
  exact (List.Pairwise.and hle hnd).imp fun ⟨a, b⟩ => Nat.lt_of_le_of_ne a b
open Classical in
noncomputable def loF (M : List Ent) (s : Nat) : Int := if h : ∃ m, m ∈ ldsOf M s ∧ ∀ y ∈ ldsOf M s, m ≤ y then h.choose else 0
open Classical in
noncomputable def hiF (M : List Ent) (s : Nat) : Int := if h : ∃ m, m ∈ ldsOf M s ∧ ∀ y ∈ ldsOf M s, y ≤ m then h.choose else 0
theorem loF_eq {M : List Ent} {s : Nat} {m : Int} (h1 : m ∈ ldsOf M s) (h2 : ∀ y ∈ ldsOf M s, m ≤ y) : loF M s = m := by
  have h : ∃ m, m ∈ ldsOf M s ∧ ∀ y ∈ ldsOf M s, m ≤ y := ⟨m, h1, h2⟩
  unfold loF
  rw [dif_pos h]
  have := h.choose_spec
  have := this.2 m h1
  have := h2 _ h.choose_spec.1
  omega
theorem hiF_eq {M : List Ent} {s : Nat} {m : Int} (h1 : m ∈ ldsOf M s) (h2 : ∀ y ∈ ldsOf M s, y ≤ m) : hiF M s = m := by
  have h : ∃ m, m ∈ ldsOf M s ∧ ∀ y ∈ ldsOf M s, y ≤ m := ⟨m, h1, h2⟩
  unfold hiF
  rw [dif_pos h]
  have := h.choose_spec
  have := this.2 m h1
  have := h2 _ h.choose_spec.1
  omega
theorem int_min : ∀ {l : List Int}, l ≠ [] → ∃ m, m ∈ l ∧ ∀ y ∈ l, m ≤ y
  | [], h => absurd rfl h
  | [a], _ => ⟨a, List.mem_cons_self, fun y hy => by rw [List.mem_singleton.mp hy]; exact Int.le_refl _⟩
  | a :: b :: r, _ => by
    obtain ⟨m, h1, h2⟩ := int_min (l := b :: r) (by simp)
    by_cases h : a ≤ m
    · exact ⟨a, List.mem_cons_self, fun y hy => by rcases List.mem_cons.mp hy with rfl | hy; exact Int.le_refl _; exact Int.le_trans h (h2 y hy)⟩
    · exact ⟨m, List.mem_cons_of_mem _ h1, fun y hy => by rcases List.mem_cons.mp hy with rfl | hy; omega; exact h2 y hy⟩
theorem int_max : ∀ {l : List Int}, l ≠ [] → ∃ m, m ∈ l ∧ ∀ y ∈ l, y ≤ m
  | [], h => absurd rfl h
  | [a], _ => ⟨a, List.mem_cons_self, fun y hy => by rw [List.mem_singleton.mp hy]; exact Int.le_refl _⟩
  | a :: b :: r, _ => by
    obtain ⟨m, h1, h2⟩ := int_max (l := b :: r) (by simp)
    by_cases h : m ≤ a
    · exact ⟨a, List.mem_cons_self, fun y hy => by rcases List.mem_cons.mp hy with rfl | hy; exact Int.le_refl _; exact Int.le_trans (h2 y hy) h⟩
    · exact ⟨m, List.mem_cons_of_mem _ h1, fun y hy => by rcases List.mem_cons.mp hy with rfl | hy; omega; exact h2 y hy⟩
theorem mem_lds {M : List Ent} {s : Nat} {x : Int} : x ∈ ldsOf M s ↔ (s, x) ∈ M.map Prod.fst := by
  unfold ldsOf
  rw [List.mem_map, List.mem_map]
  constructor
  · rintro ⟨e, he, rfl⟩
    obtain ⟨h1, h2⟩ := List.mem_filter.mp he
    have h2 : e.1.1 = s := by simpa using h2
    exact ⟨e, h1, Prod.ext h2 rfl⟩
  · rintro ⟨e, he, h⟩
    exact ⟨e, List.mem_filter.mpr ⟨he, by rw [h]; simp⟩, by rw [h]⟩
structure BndOk (pl : Plan) (us : List Nat) (lo hi : Nat → Int) : Prop where
  le : ∀ s ∈ us, lo s ≤ hi s
  be : ∀ b ∈ pl.ins, b ∈ us → lo b ≤ 0 ∧ 0 ≤ hi b
  st : ∀ s ∈ us, ∀ e ∈ leavL pl us s, lo e.2.2 ≤ lo s + e.2.1 ∧ hi s + e.2.1 ≤ hi e.2.2
theorem sts_us {pl : Plan} {us : List Nat} {M : List Ent} (U : UsefulL pl us) (S : Srch pl us M) (Sh : ShutAt pl us M M.length) (s : Nat) : s ∈ stsOf M ↔ s ∈ us := by
  rw [mem_sts]
  constructor
  · rintro ⟨e, he, rfl⟩; exact S.un e he
  · intro h
    obtain ⟨h1, h2⟩ := (U.me s).mp h
    clear h
    induction h1 with
    | @base x hx =>
      obtain ⟨e, he, e1⟩ := List.mem_map.mp (S.base x hx ((U.me x).mpr ⟨.base hx, h2⟩))
      exact ⟨e, he, by rw [e1]⟩
    | @step x y hp hxy ih =>
      have hf : (y, x) ∈ flipE (useE pl) := List.mem_map.mpr ⟨(x, y), hxy, rfl⟩
      have h3 : GR (flipE (useE pl)) pl.outs x := .step h2 hf
      obtain ⟨e, he, rfl⟩ := ih h3
      obtain ⟨j, hj⟩ := List.mem_iff_getElem?.mp he
      have hy : y ∈ us := (U.me y).mpr ⟨.step hp hxy, h2⟩
      obtain ⟨m, hm, e2⟩ := List.mem_map.mp hxy
      obtain ⟨i, hi⟩ := List.mem_iff_getElem?.mp hm
      have m1 : m.s = e.1.1 := congrArg Prod.fst e2
      have m2 : m.t = y := congrArg Prod.snd e2
      have := Sh j e (List.getElem?_eq_some_iff.mp hj).1 hj (i, m.gain, m.t) (mem_leav.mpr ⟨m, hi, m1, S.un e he, by rw [m2]; exact hy, rfl, rfl⟩)
      obtain ⟨x, hx, ex⟩ := List.mem_map.mp this
      exact ⟨x, hx, by rw [ex]; exact m2⟩
theorem bnd_of {pl : Plan} {us : List Nat} {M : List Ent} (U : UsefulL pl us) (S : Srch pl us M) (Sh : ShutAt pl us M M.length) : BndOk pl us (loF M) (hiF M) := by
  have ne : ∀ s ∈ us, ldsOf M s ≠ [] := fun s hs z => by
    obtain ⟨e, he, rfl⟩ := mem_sts.mp ((sts_us U S Sh s).mpr hs)
    have : e.1.2 ∈ ldsOf M e.1.1 := mem_lds.mpr (List.mem_map.mpr ⟨e, he, rfl⟩)
    rw [z] at this; cases this
  have lo : ∀ s ∈ us, loF M s ∈ ldsOf M s ∧ ∀ y ∈ ldsOf M s, loF M s ≤ y := fun s hs => by
    obtain ⟨m, h1, h2⟩ := int_min (ne s hs)
    rw [loF_eq h1 h2]; exact ⟨h1, h2⟩
  have hi : ∀ s ∈ us, hiF M s ∈ ldsOf M s ∧ ∀ y ∈ ldsOf M s, y ≤ hiF M s := fun s hs => by
    obtain ⟨m, h1, h2⟩ := int_max (ne s hs)
    rw [hiF_eq h1 h2]; exact ⟨h1, h2⟩
  have nx : ∀ s ∈ us, ∀ e ∈ leavL pl us s, ∀ x ∈ ldsOf M s, x + e.2.1 ∈ ldsOf M e.2.2 := fun s hs e he x hx => by
    obtain ⟨y, hy, ey⟩ := List.mem_map.mp (mem_lds.mp hx)
    obtain ⟨j, hj⟩ := List.mem_iff_getElem?.mp hy
    have := Sh j y (List.getElem?_eq_some_iff.mp hj).1 hj e (by rw [ey]; exact he)
    rw [ey] at this
    exact mem_lds.mpr this
  have tu : ∀ s ∈ us, ∀ e ∈ leavL pl us s, e.2.2 ∈ us := fun s hs e he => by
    obtain ⟨m, _, _, _, h4, _, h6⟩ := mem_leav.mp he
    rw [h6]; exact h4
  refine ⟨fun s hs => (lo s hs).2 _ (hi s hs).1, fun b h1 h2 => ?_, fun s hs e he => ⟨?_, ?_⟩⟩
  · have := mem_lds.mpr (S.base b h1 h2)
    exact ⟨(lo b h2).2 _ this, (hi b h2).2 _ this⟩
  · exact (lo _ (tu s hs e he)).2 _ (nx s hs e he _ (lo s hs).1)
  · exact (hi _ (tu s hs e he)).2 _ (nx s hs e he _ (hi s hs).1)
abbrev bndD (lo hi : Nat → Int) (s : Nat) : PyData := .tuple [.int (s : Int), .int (lo s), .int (hi s)]
abbrev leadsD (us : List Nat) (lo hi : Nat → Int) : PyData := .tuple [.str "leads", .tuple (us.map (bndD lo hi))]
/-! the search comes to one end -/
theorem run_det {pl : Plan} {us : List Nat} : ∀ {n : Nat} {M M' : List Ent} {k k' j j' : Nat}, RunN pl us n M k j → RunN pl us n M' k' j' → M = M' ∧ k = k' ∧ j = j' := by
  intro n
  induction n with
  | zero =>
    intro M M' k k' j j' h h'
    cases h; cases h'
    exact ⟨rfl, rfl, rfl⟩
  | succ n ih =>
    intro M M' k k' j j' h h'
    have lt : ∀ {l : List (Nat × Int × Nat)} {i : Nat} {x}, l[i]? = some x → i ≠ l.length := fun h e => by
      have := (List.getElem?_eq_some_iff.mp h).1
      omega
    cases h with
    | old r1 e1 x1 m1 =>
      cases h' with
      | old r2 e2 x2 m2 =>
        obtain ⟨rfl, rfl, rfl⟩ := ih r1 r2
        exact ⟨rfl, rfl, rfl⟩
      | new r2 e2 x2 m2 =>
        obtain ⟨rfl, rfl, rfl⟩ := ih r1 r2
        rw [e1] at e2; cases e2
        rw [x1] at x2; cases x2
        exact absurd m1 m2
      | nx r2 e2 x2 =>
        obtain ⟨rfl, rfl, rfl⟩ := ih r1 r2
        rw [e1] at e2; cases e2
        exact absurd x2 (lt x1)
    | new r1 e1 x1 m1 =>
      cases h' with
      | old r2 e2 x2 m2 =>
        obtain ⟨rfl, rfl, rfl⟩ := ih r1 r2
        rw [e1] at e2; cases e2
        rw [x1] at x2; cases x2
        exact absurd m2 m1
      | new r2 e2 x2 m2 =>
        obtain ⟨rfl, rfl, rfl⟩ := ih r1 r2
        rw [e1] at e2; cases e2
        rw [x1] at x2; cases x2
        exact ⟨rfl, rfl, rfl⟩
      | nx r2 e2 x2 =>
        obtain ⟨rfl, rfl, rfl⟩ := ih r1 r2
        rw [e1] at e2; cases e2
        exact absurd x2 (lt x1)
    | nx r1 e1 x1 =>
      cases h' with
      | old r2 e2 x2 m2 =>
        obtain ⟨rfl, rfl, rfl⟩ := ih r1 r2
        rw [e1] at e2; cases e2
        exact absurd x1 (lt x2)
      | new r2 e2 x2 m2 =>
        obtain ⟨rfl, rfl, rfl⟩ := ih r1 r2
        rw [e1] at e2; cases e2
        exact absurd x1 (lt x2)
      | nx r2 e2 x2 =>
        obtain ⟨rfl, rfl, rfl⟩ := ih r1 r2
        exact ⟨rfl, rfl, rfl⟩
theorem run_more {pl : Plan} {us : List Nat} : ∀ {m n : Nat} {M M' : List Ent} {k k' j j' : Nat}, n ≤ m → RunN pl us n M k j → RunN pl us m M' k' j' → ∃ N, M' = M ++ N := by
  intro m
  induction m with
  | zero =>
    intro n M M' k k' j j' le h h'
    obtain rfl : n = 0 := by omega
    obtain ⟨rfl, _, _⟩ := run_det h h'
    exact ⟨[], (List.append_nil _).symm⟩
  | succ m ih =>
    intro n M M' k k' j j' le h h'
    rcases Nat.lt_or_ge n (m + 1) with lt | ge
    · cases h' with
      | old r _ _ _ => exact ih (by omega) h r
      | new r _ _ _ =>
        obtain ⟨N, rfl⟩ := ih (by omega) h r
        exact ⟨_, List.append_assoc _ _ _⟩
      | nx r _ _ => exact ih (by omega) h r
    · obtain rfl : n = m + 1 := by omega
      obtain ⟨rfl, _, _⟩ := run_det h h'
      exact ⟨[], (List.append_nil _).symm⟩
theorem run_shut {pl : Plan} {us : List Nat} : ∀ {m n : Nat} {M M' : List Ent} {k k' j j' : Nat}, RunN pl us n M k j → M[k]? = none → RunN pl us m M' k' j' → m ≤ n := by
  intro m
  induction m with
  | zero => intros; omega
  | succ m ih =>
    intro n M M' k k' j j' h e h'
    rcases Nat.lt_or_ge m n with lt | ge
    · exact lt
    · have step : ∀ {M2 : List Ent} {k2 j2 : Nat} {e2 : Ent}, RunN pl us m M2 k2 j2 → M2[k2]? = some e2 → m + 1 ≤ n := fun r g => by
        have := ih h e r
        obtain rfl : m = n := by omega
        obtain ⟨rfl, rfl, _⟩ := run_det h r
        rw [e] at g; cases g
      cases h' with
      | old r g _ _ => exact step r g
      | new r g _ _ => exact step r g
      | nx r g _ => exact step r g
/-- the search's end: nothing is left, or a place too far -/
def EndAt (pl : Plan) (us : List Nat) (B : Int) (M : List Ent) : Option P2 → Prop
  | none => InB B M ∧ ∃ n k, RunN pl us n M k 0 ∧ M[k]? = none
  | some q => (∃ M0 e, M = M0 ++ [e] ∧ e.1 = q ∧ InB B M0) ∧ ¬ (q.2 ≤ B ∧ -B ≤ q.2) ∧ ∃ n k j, RunN pl us n M k j
theorem end_uniq {pl : Plan} {us : List Nat} {B : Int} {M M' : List Ent} {o o' : Option P2} (h : EndAt pl us B M o) (h' : EndAt pl us B M' o') : M = M' ∧ o = o' := by
  have SF : ∀ {M M' : List Ent} {q : P2}, EndAt pl us B M none → EndAt pl us B M' (some q) → False := fun {M M' q} ⟨ib, n, k, r, e⟩ ⟨⟨M0, e0, e1, e2, ib0⟩, far, m, k', j', r'⟩ => by
    obtain ⟨N, rfl⟩ := run_more (run_shut r e r') r' r
    have := ib e0 (by rw [e1]; exact List.mem_append_left _ (List.mem_append_right _ List.mem_cons_self))
    rw [e2] at this
    exact far this
  have FF : ∀ {M M' : List Ent} {q q' : P2} {n m k k' j j' : Nat}, n ≤ m → RunN pl us n M k j → RunN pl us m M' k' j' → (∃ M0 e, M = M0 ++ [e] ∧ e.1 = q ∧ InB B M0) → ¬ (q.2 ≤ B ∧ -B ≤ q.2) → (∃ M0 e, M' = M0 ++ [e] ∧ e.1 = q' ∧ InB B M0) → M = M' ∧ q = q' := fun {M M' q q' n m k k' j j'} le r r' ⟨M0, e0, e1, e2, _⟩ far ⟨M1, f0, f1, f2, ib⟩ => by
    obtain ⟨N, eN⟩ := run_more le r r'
    have hN : N = [] := by
      cases hN : N.reverse with
      | nil => exact List.reverse_eq_nil_iff.mp hN
      | cons z r =>
        have eN2 : N = r.reverse ++ [z] := by rw [← List.reverse_reverse N, hN, List.reverse_cons]
        rw [eN2, ← List.append_assoc, f1] at eN
        have := (List.append_inj' eN rfl).1
        refine absurd (ib e0 ?_) (by rw [e2]; exact far)
        rw [this, e1]
        exact List.mem_append_left _ (List.mem_append_right _ List.mem_cons_self)
    rw [hN, List.append_nil] at eN
    refine ⟨eN.symm, ?_⟩
    rw [f1, e1] at eN
    have := List.append_inj' eN rfl
    have := (List.cons.inj this.2).1
    rw [← e2, ← f2, this]
  cases o with
  | none =>
    cases o' with
    | some q => exact (SF h h').elim
    | none =>
      obtain ⟨ib, n, k, r, e⟩ := h
      obtain ⟨ib', n', k', r', e'⟩ := h'
      have a := run_shut r e r'
      have b := run_shut r' e' r
      obtain rfl : n = n' := by omega
      exact ⟨(run_det r r').1, rfl⟩
  | some q =>
    cases o' with
    | none => exact (SF h' h).elim
    | some q' =>
      obtain ⟨a, far, n, k, j, r⟩ := h
      obtain ⟨a', far', n', k', j', r'⟩ := h'
      rcases Nat.le_total n n' with le | le
      · obtain ⟨e1, e2⟩ := FF le r r' a far a'
        exact ⟨e1, by rw [e2]⟩
      · obtain ⟨e1, e2⟩ := FF le r' r a' far' a
        exact ⟨e1.symm, by rw [e2]⟩
theorem useful_uniq {pl : Plan} {us us' : List Nat} (U : UsefulL pl us) (U' : UsefulL pl us') : us = us' := asc_ext U.as U'.as fun x => (U.me x).trans (U'.me x).symm
theorem gex_uniq {pl : Plan} {us : List Nat} {G G' : Int} (g0 : 0 ≤ G) (g0' : 0 ≤ G') (hG : ∀ s ∈ us, ∀ e ∈ leavL pl us s, e.2.1 ≤ G ∧ -G ≤ e.2.1) (hG' : ∀ s ∈ us, ∀ e ∈ leavL pl us s, e.2.1 ≤ G' ∧ -G' ≤ e.2.1) (x : GEx pl us G) (x' : GEx pl us G') : G = G' := by
  have le : ∀ {a b : Int}, 0 ≤ b → (∀ s ∈ us, ∀ e ∈ leavL pl us s, e.2.1 ≤ b ∧ -b ≤ e.2.1) → GEx pl us a → a ≤ b := fun h0 h y => by
    rcases y with rfl | ⟨s, hs, e, he, y | y⟩
    · exact h0
    · rw [y]; exact (h s hs e he).1
    · have := (h s hs e he).2
      omega
  have a := le g0' hG' x
  have b := le g0 hG x'
  omega
/-- judge tells just one paper -/
def JDet (pl : Plan) (us : List Nat) (d : PyData) : Prop := ∃ (M : List Ent) (G : Int), 0 ≤ G ∧ (∀ s ∈ us, ∀ e ∈ leavL pl us s, e.2.1 ≤ G ∧ -G ≤ e.2.1) ∧ GEx pl us G ∧ (M.map Prod.fst).Nodup ∧
  ((EndAt pl us (farB us G) M none ∧ d = leadsD us (loF M) (hiF M)) ∨ ∃ q b th rg on, EndAt pl us (farB us G) M (some q) ∧ RingJust pl M q b th rg on ∧ d = ringD b th rg on)
theorem jdet_uniq {pl : Plan} {us : List Nat} {d d' : PyData} (h : JDet pl us d) (h' : JDet pl us d') : d = d' := by
  obtain ⟨M, G, g0, hG, gx, nd, c⟩ := h
  obtain ⟨M', G', g0', hG', gx', nd', c'⟩ := h'
  obtain rfl := gex_uniq g0 g0' hG hG' gx gx'
  rcases c with ⟨E, rfl⟩ | ⟨q, b, th, rg, on, E, J, rfl⟩
  · rcases c' with ⟨E', rfl⟩ | ⟨q', b', th', rg', on', E', J', rfl⟩
    · rw [(end_uniq E E').1]
    · exact nomatch (end_uniq E E').2
  · rcases c' with ⟨E', rfl⟩ | ⟨q', b', th', rg', on', E', J', rfl⟩
    · exact nomatch (end_uniq E E').2
    · obtain ⟨rfl, e⟩ := end_uniq E E'
      cases e
      obtain ⟨rfl, rfl, rfl, rfl⟩ := ringJust_uniq nd J J'
      rfl
/-- what judge tells -/
def Judged (pl : Plan) (us : List Nat) (d : PyData) : Prop := (∃ lo hi, d = leadsD us lo hi ∧ BndOk pl us lo hi) ∨ ∃ b th rg on, d = ringD b th rg on ∧ RingOk pl us b th rg on
/-- plain, and not too large -/
structure ShJ (d : PyData) : Prop where
  p : pln d = true
  n : d.hasDict = false
  l : noL d = true
  dp : d.depth ≤ 3
  bk : d.bulk ≤ 60000
theorem lohi_mem {pl : Plan} {us : List Nat} {M : List Ent} (U : UsefulL pl us) (S : Srch pl us M) (Sh : ShutAt pl us M M.length) {s : Nat} (hs : s ∈ us) : loF M s ∈ ldsOf M s ∧ hiF M s ∈ ldsOf M s := by
  have ne : ldsOf M s ≠ [] := fun z => by
    obtain ⟨e, he, rfl⟩ := mem_sts.mp ((sts_us U S Sh s).mpr hs)
    have : e.1.2 ∈ ldsOf M e.1.1 := mem_lds.mpr (List.mem_map.mpr ⟨e, he, rfl⟩)
    rw [z] at this; cases this
  obtain ⟨m, h1, h2⟩ := int_min ne
  obtain ⟨n, k1, k2⟩ := int_max ne
  rw [loF_eq h1 h2, hiF_eq k1 k2]
  exact ⟨h1, k1⟩
theorem ten50 : (1000 : Nat) < 10 ^ 50 := by decide
theorem nats_plain {l : List Nat} (h : ∀ x ∈ l, x ≤ 900) : plns (nats l) = true ∧ PyData.hasDictAll (nats l) = false ∧ noLs (nats l) = true ∧ PyData.depthAll (nats l) = 0 ∧ PyData.bulkAll (nats l) = l.length := by
  induction l with
  | nil => exact ⟨rfl, rfl, rfl, rfl, rfl⟩
  | cons x l ih =>
    obtain ⟨a, b, c, d, e⟩ := ih fun y hy => h y (List.mem_cons_of_mem _ hy)
    have hx := h x List.mem_cons_self
    have t5 := ten50
    refine ⟨?_, ?_, ?_, ?_, ?_⟩
    · show (pln (.int (x : Int)) && plns (nats l)) = true
      rw [a, Bool.and_true]
      show decide ((x : Int).natAbs < 10 ^ 50) = true
      exact decide_eq_true (by omega)
    · show (PyData.hasDict (.int (x : Int)) || PyData.hasDictAll (nats l)) = false
      rw [b]; rfl
    · show (noL (.int (x : Int)) && noLs (nats l)) = true
      rw [c]; rfl
    · show max 0 (PyData.depthAll (nats l)) = 0
      rw [d]; rfl
    · show PyData.bulk (.int (x : Int)) + 1 + PyData.bulkAll (nats l) = _
      rw [e, List.length_cons]
      show 0 + 1 + _ = _
      omega
theorem bnds_plain {lo hi : Nat → Int} : ∀ {us : List Nat}, (∀ s ∈ us, s ≤ 900 ∧ -900 ≤ lo s ∧ lo s ≤ 900 ∧ -900 ≤ hi s ∧ hi s ≤ 900) → plns (us.map (bndD lo hi)) = true ∧ PyData.hasDictAll (us.map (bndD lo hi)) = false ∧ noLs (us.map (bndD lo hi)) = true ∧ PyData.depthAll (us.map (bndD lo hi)) ≤ 1 ∧ PyData.bulkAll (us.map (bndD lo hi)) = 4 * us.length
  | [], _ => ⟨rfl, rfl, rfl, Nat.zero_le _, rfl⟩
  | s :: us, h => by
    obtain ⟨a, b, c, d, e⟩ := bnds_plain (us := us) fun y hy => h y (List.mem_cons_of_mem _ hy)
    obtain ⟨h0, h1, h2, h3, h4⟩ := h s List.mem_cons_self
    have t5 := ten50
    have i : ∀ z : Int, -900 ≤ z → z ≤ 900 → decide (z.natAbs < 10 ^ 50) = true := fun z z1 z2 => decide_eq_true (by omega)
    refine ⟨?_, ?_, ?_, ?_, ?_⟩
    · show ((decide ((s : Int).natAbs < 10 ^ 50) && (decide ((lo s).natAbs < 10 ^ 50) && (decide ((hi s).natAbs < 10 ^ 50) && true))) && plns (us.map (bndD lo hi))) = true
      rw [a, i _ (by omega) (by omega), i _ h1 h2, i _ h3 h4]; rfl
    · show (_ || PyData.hasDictAll (us.map (bndD lo hi))) = false
      rw [b]; rfl
    · show (_ && noLs (us.map (bndD lo hi))) = true
      rw [c]; rfl
    · show max 1 (PyData.depthAll (us.map (bndD lo hi))) ≤ 1
      omega
    · show 3 + 1 + PyData.bulkAll (us.map (bndD lo hi)) = _
      rw [e, List.length_cons]; omega
theorem shj_leads {pl : Plan} {us : List Nat} {M : List Ent} {G : Int} {top many long : Nat} (hO : pl.Ok top many long) (ht : top ≤ 10) (U : UsefulL pl us) (S : Srch pl us M) (Sh : ShutAt pl us M M.length) (B : InB (farB us G) M) (g0 : 0 ≤ G) (gG : G ≤ 50) : ShJ (leadsD us (loF M) (hiF M)) := by
  have hw := hO.w2
  have ul := useful_lt hO U
  have len := asc_len (n := pl.wide) ⟨U.as, ul⟩
  have fb : farB us G ≤ 500 := by
    unfold farB
    rcases Nat.eq_zero_or_pos us.length with z | z
    · rw [z]; show (((0 : Nat) : Int) - 1) * G ≤ 500; omega
    · exact Int.mul_le_mul (show (us.length : Int) - 1 ≤ 10 by omega) (show G ≤ 50 by omega) g0 (by decide)
  have inb : ∀ s x, x ∈ ldsOf M s → -900 ≤ x ∧ x ≤ 900 := fun s x hx => by
    obtain ⟨e, he, ee⟩ := List.mem_map.mp (mem_lds.mp hx)
    have := B e he
    rw [ee] at this
    have h1 : x ≤ farB us G := this.1
    have h2 : -(farB us G) ≤ x := this.2
    omega
  obtain ⟨a, b, c, d, e⟩ := bnds_plain (lo := loF M) (hi := hiF M) (us := us) fun s hs => by
    obtain ⟨m1, m2⟩ := lohi_mem U S Sh hs
    have := ul s hs
    have i1 := inb s _ m1
    have i2 := inb s _ m2
    omega
  refine ⟨?_, ?_, ?_, ?_, ?_⟩
  · show (pln (.str "leads") && (plns (us.map (bndD (loF M) (hiF M))) && true)) = true
    rw [a]; rfl
  · show (false || (PyData.hasDictAll (us.map (bndD (loF M) (hiF M))) || false)) = false
    rw [b]; rfl
  · show (true && (noLs (us.map (bndD (loF M) (hiF M))) && true)) = true
    rw [c]; rfl
  · show max 0 (max (PyData.depthAll (us.map (bndD (loF M) (hiF M))) + 1) 0) + 1 ≤ 3
    omega
  · show 5 + 1 + (PyData.bulkAll (us.map (bndD (loF M) (hiF M))) + 1 + 0) ≤ 60000
    omega
theorem goes_ix {pl : Plan} : ∀ {is : List Nat} {s t : Nat}, goesTo pl s is = some t → ∀ i ∈ is, i < pl.ways.length
  | [], _, _, _, i, hi => nomatch hi
  | j :: is, s, t, h, i, hi => by
    have h : ((pl.ways[j]?).bind fun m => if m.s = s then goesTo pl m.t is else none) = some t := h
    cases e : pl.ways[j]? with
    | none => rw [e] at h; cases h
    | some m =>
      rw [e, Option.bind_some] at h
      by_cases z : m.s = s
      · rw [if_pos z] at h
        rcases List.mem_cons.mp hi with rfl | hi
        · exact (List.getElem?_eq_some_iff.mp e).1
        · exact goes_ix h i hi
      · rw [if_neg z] at h; cases h
theorem shj_ring {pl : Plan} {us : List Nat} {b : Nat} {th rg on : List Nat} {top many long : Nat} (hO : pl.Ok top many long) (ht : top ≤ 10) (hm : many ≤ 50) (R : RingOk pl us b th rg on) : ShJ (ringD b th rg on) := by
  obtain ⟨s, t, h1, h2, _, h3, _⟩ := R.ex
  obtain ⟨l1, l2, l3⟩ := R.ln
  have hn := hO.n
  have small : ∀ {is : List Nat} {s t : Nat}, goesTo pl s is = some t → ∀ x ∈ is, x ≤ 900 := fun h x hx => by
    have := goes_ix h x hx
    omega
  have hb : b ≤ 900 := by
    have := hO.i.2 b R.bi
    have := hO.w2
    omega
  obtain ⟨a1, b1, c1, d1, e1⟩ := nats_plain (small h1)
  obtain ⟨a2, b2, c2, d2, e2⟩ := nats_plain (small h2)
  obtain ⟨a3, b3, c3, d3, e3⟩ := nats_plain (small h3)
  have t5 := ten50
  refine ⟨?_, ?_, ?_, ?_, ?_⟩
  · show (pln (.str "ring") && (decide ((b : Int).natAbs < 10 ^ 50) && (plns (nats th) && (plns (nats rg) && (plns (nats on) && true))))) = true
    rw [a1, a2, a3, decide_eq_true (by omega)]; rfl
  · show (false || (false || (PyData.hasDictAll (nats th) || (PyData.hasDictAll (nats rg) || (PyData.hasDictAll (nats on) || false))))) = false
    rw [b1, b2, b3]; rfl
  · show (true && (true && (noLs (nats th) && (noLs (nats rg) && (noLs (nats on) && true))))) = true
    rw [c1, c2, c3]; rfl
  · show max 0 (max 0 (max (PyData.depthAll (nats th) + 1) (max (PyData.depthAll (nats rg) + 1) (max (PyData.depthAll (nats on) + 1) 0)))) + 1 ≤ 3
    rw [d1, d2, d3]; decide
  · show 4 + 1 + (0 + 1 + (PyData.bulkAll (nats th) + 1 + (PyData.bulkAll (nats rg) + 1 + (PyData.bulkAll (nats on) + 1 + 0)))) ≤ 60000
    rw [e1, e2, e3]; omega
def spJudge (K : PySem.W.Frag) (C : Addr) : Sp := fun vs H Q _ => ∃ (p : Addr) (pl : Plan) (top many long : Nat), vs = [.ref p] ∧ PacAt K C H p pl ∧ pl.Ok top many long ∧ top ≤ 10 ∧ many ≤ 50 ∧ long ≤ 50 ∧
  ∀ v H' us d, Same H H' → Dq K H' v d → UsefulL pl us → Judged pl us d → JDet pl us d → ShJ d → Q v H'
def isLead : PyData → Bool
  | .tuple (.str x :: _) => decide (x = "leads")
  | _ => false
def spIsEven (K : PySem.W.Frag) (C : Addr) : Sp := fun vs H Q _ => ∃ (p : Addr) (pl : Plan) (top many long : Nat), vs = [.ref p] ∧ PacAt K C H p pl ∧ pl.Ok top many long ∧ top ≤ 10 ∧ many ≤ 50 ∧ long ≤ 50 ∧
  ∀ H' us d, Same H H' → UsefulL pl us → Judged pl us d → Q (.bl (isLead d)) H'
section
variable {P : Program} {w : World} {K : PySem.W.Frag} {mg : Str → Option Value} {base : Heap}
theorem ok_Judge {f C : Addr} {fd : FuncData} {k : Nat} (F : Fun K "judge" "judge" sJudge f fd) (T : PTxt K C) (ntuple : mg "tuple" = none) (nsorted : mg "sorted" = none) (nmin : mg "min" = none) (nmax : mg "max" = none) (m_LEADS : StrAt mg "LEADS" "leads") (CPlacesMetLeads : Cal P w K mg base k "places_met_leads" ["pacer"] (spMetL K C)) (CLeadsByState : Cal P w K mg base k "leads_by_state" ["came"] (spLeads K)) (CRingPaper : Cal P w K mg base k "ring_paper" ["pacer", "came", "last"] (spRingPaper K C)) : FnOk P w K mg base CX0 (k + 1) f fd ["pacer"] (spJudge K C) := by
  refine F.ok scJudge (fun vs H Q E h => ?_) (fun cdv A outer s H vs Q E hr h => ?_)
  · obtain ⟨p, pl, top, many, long, rfl, _⟩ := h; rfl
  · obtain ⟨p, pl, top, many, long, rfl, hP, hO, t1, t2, t3, kQ⟩ := h
    have hu := hr.units
    have hu1 : (A.deeper (envOfC "judge" (defScope sJudge) s.heap.objs.size f cdv)).units + 1 < cLine := by omega
    refine ⟨_, (pss_cons (ps_asg (pe_cal CPlacesMetLeads hr (by rfl) pass0 (pa_cons (pv 0) pa_nil)) (pg_tup (by rfl) (pgs_cons (pg_name (i := 1) scJudge.nd rfl (by first | exact Or.inl rfl | exact Or.inr rfl)) (pgs_cons (pg_name (i := 2) scJudge.nd rfl (by first | exact Or.inl rfl | exact Or.inr rfl)) pgs_nil))))
      (pss_cons (ps_if (pt_cmpR op_notN (pv 2) pe_non (nomark _)) (pss_one (ps_ret (pe_cal CRingPaper hr (by rfl) pass0 (pa_cons (pv 0) (pa_cons (pv 1) (pa_cons (pv 2) pa_nil)))))) pss_nil)
      (pss_cons (ps_set (i := 3) scJudge.nd rfl (by first | exact Or.inl rfl | exact Or.inr rfl) (pe_cal CLeadsByState hr (by rfl) pass0 (pa_cons (pv 1) pa_nil)))
      (pss_one (ps_ret (pe_tup (pa_cons (pe_gstr m_LEADS) (pa_cons (pe_callTy call_tuple_of (by rfl) ntuple (by decide +kernel) (pa_cons (pe_lc (own := [("state", 4)]) (g := (gName 4)) (by rfl) scJudge.nd (pi_list (pe_callB (call_sortedDI rfl) (by rfl) nsorted (by decide +kernel) (pa_cons (pv 3) pa_nil))) (blkOk_by (own := [("state", 4)]) (N := ["pacer", "came", "far", "found", "state"]) (sc := defScope sJudge) (by decide +kernel)) (fun _ _ _ _ _ => (pg_name (i := 4) scJudge.nd rfl (by first | exact Or.inl rfl | exact Or.inr rfl))) (fun _ _ _ _ _ => pts_nil) (fun _ _ _ _ _ => (pe_tup (pa_cons (pv 4) (pa_cons (pe_callB (show CallR _ _ (rMin K) from cr_min rfl) (by rfl) nmin (by decide +kernel) (pa_cons (pe_dget hu1 (pv 3) (pv 4) (fun _ _ => rfl)) pa_nil)) (pa_cons (pe_callB (show CallR _ _ (rMax K) from cr_max rfl) (by rfl) nmax (by decide +kernel) (pa_cons (pe_dget hu1 (pv 3) (pv 4) (fun _ _ => rfl)) pa_nil)) pa_nil)))))) pa_nil)) pa_nil)))))))), ?_⟩
    have two : 2 ≤ sizeLine := by decide
    have three : 3 ≤ sizeLine := by decide
    refine ⟨_, rfl, p, pl, top, many, long, rfl, hP, hO, t1, t2, t3, fun r d H1 us M G fv s1 gr nd U g0 gG hG gx cA S lM hcase => ?_⟩
    refine ⟨r, _, rfl, stOf gr, rfl, _, _, rfl, _, _, rfl, rfl, ?_⟩
    rcases hcase with ⟨rfl, Sh, B, rn⟩ | ⟨T, q, rfl, gT, hF, rn⟩
    · refine ⟨_, rfl, rfl, _, rfl, iteF ?_⟩
      refine ⟨_, rfl, d, M, rfl, cA, lM, fun f2 H2 s2 nf LA => ?_⟩
      obtain ⟨kvs, gf, hkeys, hval⟩ := LA.at'
      have hks : kvs.map (·.1) = ((stsOf M).map fun n : Nat => (n : Int)).map Sum.inl := by rw [hkeys, keys_sts, List.map_map]; rfl
      have l64 : ((stsOf M).map fun n : Nat => (n : Int)).length < 64 := by
        rw [List.length_map]
        have := EL.nodup_len pl.wide _ (sts_nodup M) fun s hs => useful_lt hO U s ((sts_us U S Sh s).mp hs)
        have := hO.w2
        omega
      refine ⟨_, rfl, f2, kvs, _, rfl, .inl gf, hks, l64, fun ys l hp hs nl => ?_⟩
      obtain ⟨ns, rfl, has, hmem⟩ := nats_sorted hp hs (sts_nodup M)
      obtain rfl : ns = us := asc_ext has U.as fun s => by rw [hmem, sts_us U S Sh]
      have s3 : Same H2 (upd H2 l (.lst ((ns.map fun n : Nat => (n : Int)).map V.int))) := same_upd nl
      have g3 : upd H2 l (.lst ((ns.map fun n : Nat => (n : Int)).map V.int)) l = some (.lst (ixs ns)) := by rw [upd_same, List.map_map]; rfl
      generalize upd H2 l (.lst ((ns.map fun n : Nat => (n : Int)).map V.int)) = H3 at s3 g3 ⊢
      have sH := (s1.trans s2).trans s3
      refine ⟨l, rfl, ⟨_, sqOf g3⟩, fun D nD => ?_⟩
      refine it_gen (walk_list (K := K) (a := l) (xs := ixs ns)) (fun i => LcG K D H3 (fun i => (ns.take i).map (bndD (loF M) (hiF M))) i) (LcG.start nD rfl) (fun i H' _ L => sqOf (L.sm nD _ _ g3)) ?_ ?_
      · rintro i v H9 H4 hi L ⟨rfl, hv⟩
        obtain ⟨x, hx, rfl⟩ : ∃ b, ns[i]? = some b ∧ v = .int (b : Int) := by
          unfold ixs at hv
          rw [List.getElem?_map] at hv
          cases e : ns[i]? with
          | none => rw [e] at hv; cases hv
          | some b => rw [e] at hv; exact ⟨b, rfl, (Option.some.inj hv).symm⟩
        have hxu := List.mem_of_getElem? hx
        have s4 := (s3.trans (L.sm nD))
        obtain ⟨l2, hl2, gl2⟩ : ∃ l2, valV kvs (.inl (x : Int)) = some (.ref l2) ∧ H2 l2 = some (.lst ((ldsOf M x).map V.int)) := by
          rcases hval x with ⟨q1, q2⟩ | q
          · obtain ⟨e, he, e1⟩ := mem_sts.mp ((sts_us U S Sh x).mpr hxu)
            have : e.1.2 ∈ ldsOf M x := mem_lds.mpr (List.mem_map.mpr ⟨e, he, by rw [← e1]⟩)
            rw [q2] at this; cases this
          · exact q
        have gg : DGet H4 f2 (.int (x : Int)) (some (.ref l2)) := by
          have := DGet.k (k := .inl (x : Int)) (s4 _ _ gf)
          rw [hl2] at this; exact this
        have lne : 0 < (ldsOf M x).length := by
          obtain ⟨e, he, e1⟩ := mem_sts.mp ((sts_us U S Sh x).mpr hxu)
          have : e.1.2 ∈ ldsOf M x := mem_lds.mpr (List.mem_map.mpr ⟨e, he, by rw [← e1]⟩)
          exact List.length_pos_of_mem this
        refine ⟨rfl, ?_⟩
        dsimp only [tYes]
        refine iteT ⟨_, rfl, _, rfl, _, rfl, f2, _, rfl, gg, l2, ldsOf M x, rfl, sqOf (s4 _ _ gl2), lne, fun m1 a1 a2 => ⟨_, rfl, _, rfl, f2, _, rfl, gg, l2, ldsOf M x, rfl, sqOf (s4 _ _ gl2), lne, fun m2 b1 b2 => ⟨three, fun tp ntp => ?_⟩⟩⟩
        refine lcg_some L (same_upd ntp) (by rw [take_more hx, List.map_append]; rfl) (tup_wo L.at ntp ?_) (by
          have : (ixs ns).length = ns.length := by unfold ixs; rw [List.length_map]
          have := asc_len (n := pl.wide) ⟨U.as, useful_lt hO U⟩
          have := hO.w2
          omega)
        rw [← loF_eq a1 a2, ← hiF_eq b1 b2]
        exact .cons (.int _) (.cons (.int _) (.cons (.int _) .nil))
      rintro H5 L
      have e0 : (ixs ns).length = ns.length := by unfold ixs; rw [List.length_map]
      rw [e0] at L
      obtain ⟨vs, gD, _, da, _⟩ := L.done
      rw [List.take_length] at da
      refine ⟨D, vs, rfl, .inl ⟨sqOf gD, fun tq ntq => ⟨two, fun r5 n5 => ?_⟩⟩⟩
      have s6 := same_upd (o := .tup vs) ntq
      have s7 := same_upd (o := .tup [.str "leads", .ref tq]) n5
      refine kQ _ _ ns (leadsD ns (loF M) (hiF M)) ((sH.trans (L.sm nD)).trans (s6.trans s7)) ?_ U (.inl ⟨_, _, rfl, bnd_of U S Sh⟩) ⟨M, G, g0, hG, gx, S.nd, .inl ⟨⟨B, rn⟩, rfl⟩⟩ (shj_leads hO t1 U S Sh B g0 gG)
      exact .tup (stOf upd_same) (.cons (.str _) (.cons (.tup (ex_t' s7 (stOf upd_same)) (da.up (s6.trans s7))) .nil))
    · refine ⟨_, rfl, rfl, _, rfl, iteT ?_⟩
      refine ⟨_, rfl, _, rfl, _, rfl, p, d, T, pl, top, many, long, us, M, G, q, rfl, hP.up s1, hO, t1, t2, t3, U, cA, S, lM, gT, hF, g0, hG, fun v H2 b th rg on s2 dv R J => ?_⟩
      exact kQ v H2 us _ (s1.trans s2) dv U (.inr ⟨b, th, rg, on, rfl, R⟩) ⟨M, G, g0, hG, gx, S.nd, .inr ⟨q, b, th, rg, on, ⟨hF.la, hF.fa, rn⟩, J, rfl⟩⟩ (shj_ring hO t1 t2 R)
theorem ok_IsEven {f C : Addr} {fd : FuncData} {k : Nat} (F : Fun K "is_even" "is_even" sIsEven f fd) (m_LEADS : StrAt mg "LEADS" "leads") (CJudge : Cal P w K mg base k "judge" ["pacer"] (spJudge K C)) : FnOk P w K mg base CX0 (k + 1) f fd ["pacer"] (spIsEven K C) := by
  refine F.ok scIsEven (fun vs H Q E h => ?_) (fun cdv A outer s H vs Q E hr h => ?_)
  · obtain ⟨p, pl, top, many, long, rfl, _⟩ := h; rfl
  · obtain ⟨p, pl, top, many, long, rfl, hP, hO, t1, t2, t3, kQ⟩ := h
    have hu := hr.units
    refine ⟨_, (pss_one (ps_ret (pe_cmpR (show OpR _ _ rEq from op_eq) (pe_ix (show IxR _ (rIxT K) from ix_tup) (pe_cal CJudge hr (by rfl) pass0 (pa_cons (pv 0) pa_nil)) pe_int (fun _ _ => rfl)) (pe_gstr m_LEADS) (nomark _)))), ?_⟩
    refine ⟨_, rfl, p, pl, top, many, long, rfl, hP, hO, t1, t2, t3, fun v H1 us d s1 dv U J _ _ => ?_⟩
    have key := kQ H1 us d s1 U J
    obtain ⟨x, hd⟩ : ∃ x r, d = .tuple (.str x :: r) := by
      rcases J with ⟨lo, hi, rfl, _⟩ | ⟨b, th, rg, on, rfl, _⟩
      · exact ⟨_, _, rfl⟩
      · exact ⟨_, _, rfl⟩
    obtain ⟨r, rfl⟩ := hd
    obtain ⟨a, xs, rfl, hs⟩ : ∃ a xs, v = .ref a ∧ SqT K H1 a (V.str x :: xs) := by
      cases dv with
      | tup hs ha =>
        cases ha with
        | cons z1 z => cases z1; exact ⟨_, _, rfl, hs⟩
    refine ⟨a, _, 0, V.str x, rfl, rfl, hs, atI_nat (j := 0) rfl, rfl, ?_⟩
    have e : decide (V.str x = V.str "leads") = isLead (.tuple (.str x :: r)) := by
      show _ = decide (x = "leads")
      exact decide_eq_decide.mpr ⟨fun z => by injection z, fun z => by rw [z]⟩
    rw [e]
    exact key
end
end KP
namespace KP
open PySem PySem.Spec PyProof.Rows L2 EL
open Evl (pss_cut)
abbrev sIsBound : Stmt := topS 45
theorem scIsBound : FnScope ["thing", "part"] ["thing"] (defScope sIsBound) := ⟨rfl, rfl, rfl, by decide +kernel, rfl, by decide +kernel, by decide +kernel⟩
abbrev sStateBehind : Stmt := topS 48
theorem scStateBehind : FnScope ["pacer", "state", "way", "index"] ["pacer", "state", "way"] (defScope sStateBehind) := ⟨rfl, rfl, rfl, by decide +kernel, rfl, by decide +kernel, by decide +kernel⟩
def isBoundD : PyData → Bool
  | .tuple [a, b, c] => (isIntD a && (isIntD b && isIntD c)) && decide (intOf b ≤ intOf c)
  | _ => false
theorem isInt_of : ∀ {d : PyData}, isIntD d = true → ∃ n, d = .int n := fun {d} h => by
  cases d <;> simp [isIntD] at h
  exact ⟨_, rfl⟩
def ixOk (pl : Plan) (s : Nat) : PyData → Option Mv
  | .int i => if 0 ≤ i ∧ i < (pl.ways.length : Int) then (pl.ways[i.toNat]?).bind fun m => if m.s = s then some m else none else none
  | _ => none
theorem ixOk_int (pl : Plan) (s : Nat) (i : Int) : ixOk pl s (.int i) = if 0 ≤ i ∧ i < (pl.ways.length : Int) then (pl.ways[i.toNat]?).bind fun m => if m.s = s then some m else none else none := rfl
def behindL (pl : Plan) : Nat → List PyData → Option Nat
  | s, [] => some s
  | s, d :: r => (ixOk pl s d).bind fun m => behindL pl m.t r
def behindD (pl : Plan) (s : Nat) : PyData → Option Nat
  | .tuple ds => behindL pl s ds
  | _ => none
def optV : Option Nat → V
  | some n => .int (n : Int)
  | none => .non
def spBehind (K : PySem.W.Frag) (C : Addr) : Sp := fun vs H Q _ => ∃ (p : Addr) (pl : Plan) (top many long : Nat) (s : Nat) (v : V) (d : PyData), vs = [.ref p, .int (s : Int), v] ∧ PacAt K C H p pl ∧ pl.Ok top many long ∧ top ≤ 50 ∧ many ≤ 50 ∧ long ≤ 50 ∧ Dq K H v d ∧ Sz d ∧
  ∀ H', Same H H' → Q (optV (behindD pl s d)) H'
section
variable {P : Program} {w : World} {K : PySem.W.Frag} {mg : Str → Option Value} {base : Heap}
theorem ok_IsBound {f : Addr} {fd : FuncData} {k : Nat} (F : Fun K "is_bound" "is_bound" sIsBound f fd) (nisinstance : mg "isinstance" = none) (ntuple : mg "tuple" = none) (nall : mg "all" = none) (nlen : mg "len" = none) (CIsInteger : Cal P w K mg base k "is_integer" ["thing"] (spLook K isIntD)) : FnOk P w K mg base CX0 (k + 1) f fd ["thing"] (spLook K isBoundD) := by
  refine F.ok scIsBound (fun vs H Q E h => ?_) (fun cdv A outer s H vs Q E hr h => ?_)
  · obtain ⟨v, d, rfl, _⟩ := h; rfl
  · obtain ⟨v, d, rfl, hd, hz, q⟩ := h
    have hu := hr.units
    refine ⟨_, (pss_cons (ps_if (PW.pt (pw_or (pt_not (pt_val (pe_callB (show CallR _ _ (rIsi K) from call_isi) (by rfl) nisinstance (by decide +kernel) (pa_cons (pv 0) (pa_cons (pe_tyN (n := "tuple") ntuple (by decide +kernel)) pa_nil))))) (pw_or (pt_cmpR op_ne (pe_callB (show CallR _ _ (rLenK K) from call_len) (by rfl) nlen (by decide +kernel) (pa_cons (pv 0) pa_nil)) pe_int (nomark _)) (pw_or1 (pt_not (pt_val (pe_callB (cr_all rfl) (by rfl) nall (by decide +kernel) (pa_cons (pe_lc (own := [("part", 1)]) (g := (gName 1)) (by rfl) scIsBound.nd (pi_tup (pv 0)) (blkOk_by (own := [("part", 1)]) (N := ["thing", "part"]) (sc := defScope sIsBound) (by decide +kernel)) (fun _ _ _ _ _ => (pg_name (i := 1) scIsBound.nd rfl (by first | exact Or.inl rfl | exact Or.inr rfl))) (fun _ _ _ _ _ => pts_nil) (fun _ _ _ _ _ => (pe_cal CIsInteger hr (by rfl) pass0 (pa_cons (pv 1) pa_nil)))) pa_nil)))))))) (pss_one (ps_ret pe_bl)) pss_nil)
      (pss_one (ps_ret (pe_cmpR op_le (pe_ix (show IxR _ (rIxT K) from ix_tup) (pv 0) pe_int (fun _ _ => rfl)) (pe_ix (show IxR _ (rIxT K) from ix_tup) (pv 0) pe_int (fun _ _ => rfl)) (nomark _))))), ?_⟩
    refine ⟨v, rfl, v, .ty "tuple", _, _, _, rfl, .ty "tuple", tyx_of hd, kit_ty (kit_tuple d), _, rfl, ?_⟩
    cases d with
    | tuple ds =>
      cases hd with
      | tup hs ha =>
      rename_i a xs
      have hzz : PyData.bulkAll ds ≤ 500000 := hz
      have hlen : xs.length ≤ 500000 := by rw [ha.len]; exact Nat.le_trans (bulk_len ds) hzz
      refine iteF ⟨.ref a, rfl, .ref a, _, rfl, .inr ⟨xs, hs, rfl⟩, rfl, _, rfl, ?_⟩
      have h3 : (!decide (V.int (xs.length : Nat) = V.int 3)) = decide (ds.length ≠ 3) := by
        rw [ha.len]
        by_cases e : ds.length = 3
        · rw [e]; rfl
        · have : ¬ (V.int (ds.length : Nat) = V.int 3) := fun z => e (by injection z with z; omega)
          rw [decide_eq_false this, decide_eq_true e]; rfl
      rw [h3]
      by_cases l3 : ds.length = 3
      case neg =>
        rw [decide_eq_true l3]
        refine iteT ?_
        have := q H (Same.refl H)
        have e : isBoundD (.tuple ds) = false := by
          unfold isBoundD
          split
          · rename_i h; cases h; exact absurd rfl l3
          · rfl
        rw [e] at this; exact this
      case pos =>
      rw [decide_eq_false (not_not_intro l3)]
      refine iteF ?_
      refine ⟨.ref a, rfl, a, rfl, ⟨xs, hs⟩, fun D nD => ?_⟩
      refine lc_it walk_tup (LcP D (fun _ H' => Same H H') (fun j v => ∃ e, ds[j]? = some e ∧ v = some (.bl (isIntD e)))) (LcP.start (same_upd nD)) (fun i H' _ p => by obtain ⟨_, _, _, _, sm⟩ := p; exact ex_t' sm hs) ?_ ?_
      · rintro i y H1 H2 hi ⟨ys, hl, hR, hD, sm⟩ ⟨rfl, hy⟩
        obtain ⟨e, ee, he⟩ := ha.at hy
        refine ⟨rfl, ?_⟩
        dsimp only [tYes]
        refine iteT ?_
        refine ⟨y, rfl, y, e, rfl, he.up sm, sz_mem hzz e (List.mem_of_getElem? ee), fun H3 sm3 => ?_⟩
        exact lcp_some hl hR (sm3 _ _ hD) (by omega) ⟨e, ee, rfl⟩ fun b o q => by rw [upd_ne (ne_of_none q nD)]; exact sm3 _ _ (sm b o q)
      rintro H1 ⟨ys, hl, hR, hD, sm⟩
      have e1 := rows_map (f := fun e => some (V.bl (isIntD e))) (l := ds) (by rw [hl, ha.len]) hR
      refine ⟨D, ds.map isIntD, rfl, sqOf (by rw [hD, e1]; simp [List.filterMap_map, Function.comp_def]), _, rfl, ?_⟩
      have e2 : (ds.map isIntD).all id = ds.all isIntD := by simp [List.all_map, Function.comp_def]
      rw [e2]
      have qq := q H1 sm
      match ds, l3 with
      | [x, y, z], _ =>
      cases hall : [x, y, z].all isIntD with
      | false =>
        refine iteT ?_
        have e : isBoundD (.tuple [x, y, z]) = false := by
          show ((isIntD x && (isIntD y && isIntD z)) && _) = false
          have : (isIntD x && (isIntD y && isIntD z)) = false := by simpa [List.all_cons, Bool.and_assoc] using hall
          rw [this]; rfl
        rw [e] at qq; exact qq
      | true =>
        refine iteF ?_
        have hx : isIntD x = true ∧ isIntD y = true ∧ isIntD z = true := by simpa [List.all_cons] using hall
        obtain ⟨y1, y2, y3⟩ := hx
        obtain ⟨i, rfl⟩ := isInt_of y1
        obtain ⟨j, rfl⟩ := isInt_of y2
        obtain ⟨k, rfl⟩ := isInt_of y3
        cases ha with
        | cons z1 r => cases r with
          | cons z2 r => cases r with
            | cons z3 r =>
              cases r; cases z1; cases z2; cases z3
              refine ⟨.ref a, rfl, a, _, 1, _, rfl, rfl, ex_t' sm hs, atI_nat (j := 1) rfl, .ref a, rfl, a, _, 2, _, rfl, rfl, ex_t' sm hs, atI_nat (j := 2) rfl, _, _, rfl, rfl, ?_⟩
              exact qq
    | _ =>
      exact iteT (q H (Same.refl H))
theorem ok_StateBehind {f C : Addr} {fd : FuncData} {k : Nat} (F : Fun K "state_behind" "state_behind" sStateBehind f fd) (T : PTxt K C) (nisinstance : mg "isinstance" = none) (ntuple : mg "tuple" = none) (nlen : mg "len" = none) (CIsInteger : Cal P w K mg base k "is_integer" ["thing"] (spLook K isIntD)) : FnOk P w K mg base CX0 (k + 1) f fd ["pacer", "state", "way"] (spBehind K C) := by
  refine F.ok scStateBehind (fun vs H Q E h => ?_) (fun cdv A outer s H vs Q E hr h => ?_)
  · obtain ⟨p, pl, top, many, long, st, v, d, rfl, _⟩ := h; rfl
  · obtain ⟨p, pl, top, many, long, st, v, d, rfl, hP, hO, t1, t2, t3, hd, hz, q⟩ := h
    have hu := hr.units
    refine ⟨_, (pss_cons (ps_if (pt_not (pt_val (pe_callB (show CallR _ _ (rIsi K) from call_isi) (by rfl) nisinstance (by decide +kernel) (pa_cons (pv 2) (pa_cons (pe_tyN (n := "tuple") ntuple (by decide +kernel)) pa_nil))))) (pss_one (ps_ret pe_non)) pss_nil)
      (pss_cons (ps_for PassesOwn.never rfl (pi_tup (pv 2)) (pg_name (i := 3) scStateBehind.nd rfl (by first | exact Or.inl rfl | exact Or.inr rfl)) (pss_cons (ps_if (PW.pt (pw_or (pt_not (pt_val (pe_cal CIsInteger hr (by rfl) pass0 (pa_cons (pv 3) pa_nil)))) (pw_or (pt_not (pt_chain op_le op_lt pe_int (pv 3) (pe_callB (show CallR _ _ (rLenK K) from call_len) (by rfl) nlen (by decide +kernel) (pa_cons (pe_fld (pv 0) rfl) pa_nil)))) (pw_or1 (pt_cmpR op_ne (pe_ix (show IxR _ (rIxT K) from ix_tup) (pe_ix (show IxR _ (rIxT K) from ix_tup) (pe_fld (pv 0) rfl) (pv 3) (fun _ _ => rfl)) pe_int (fun _ _ => rfl)) (pv 1) (nomark _)))))) (pss_one (ps_ret pe_non)) pss_nil)
      (pss_one (ps_set (i := 1) scStateBehind.nd rfl (by first | exact Or.inl rfl | exact Or.inr rfl) (pe_ix (show IxR _ (rIxT K) from ix_tup) (pe_ix (show IxR _ (rIxT K) from ix_tup) (pe_fld (pv 0) rfl) (pv 3) (fun _ _ => rfl)) pe_int (fun _ _ => rfl))))))
      (pss_one (ps_ret (pv 1))))), ?_⟩
    refine ⟨v, rfl, v, .ty "tuple", _, _, _, rfl, .ty "tuple", tyx_of hd, kit_ty (kit_tuple d), _, rfl, ?_⟩
    obtain ⟨dx, vb, vm, ve, e1, e2, e3, e4⟩ := hP.at'
    obtain ⟨ms, hms, hma⟩ : ∃ ms, SqT K H vm ms ∧ DqAll K H ms (pl.ways.map mvD) := by
      cases e3 with
      | tup hs ha => exact ⟨_, hs, ha⟩
    have hml : ms.length = pl.ways.length := by rw [hma.len, List.length_map]
    cases d with
    | tuple ds =>
      cases hd with
      | tup hs ha =>
      rename_i a xs
      have hzz : PyData.bulkAll ds ≤ 500000 := hz
      refine iteF ?_
      refine ⟨_, rfl, a, rfl, ⟨_, hs⟩, ?_⟩
      refine for_it walk_tup (fun i σ H' => ∃ (y3 : Option V) (s' : Nat), σ = [some (.ref p), some (.int (s' : Int)), some (.ref a), y3] ∧ Same H H' ∧ behindL pl st ds = behindL pl s' (ds.drop i))
        ⟨_, st, rfl, Same.refl H, by rw [List.drop_zero]⟩ (fun i σ H' _ z => by obtain ⟨_, _, _, sm, _⟩ := z; exact ex_t' sm hs) ?_ ?_
      · rintro i y σ H9 H2 hi ⟨y3, s', rfl, sm, hb⟩ ⟨rfl, hy⟩
        obtain ⟨e, ee, he⟩ := ha.at hy
        have hdr : ds.drop i = e :: ds.drop (i + 1) := by
          obtain ⟨hlt, h2⟩ := List.getElem?_eq_some_iff.mp ee
          rw [List.drop_eq_getElem_cons hlt, h2]
        rw [hdr] at hb
        have hb : behindL pl st ds = (ixOk pl s' e).bind fun m => behindL pl m.t (ds.drop (i + 1)) := hb
        refine ⟨y, rfl, y, e, rfl, he.up sm, sz_mem hzz e (List.mem_of_getElem? ee), fun H3 sm3 => ⟨_, rfl, ?_⟩⟩
        have sm4 := sm.trans sm3
        have bad : ixOk pl s' e = none → Q .non H3 := fun z => by
          have := q H3 sm4
          have e5 : behindD pl st (.tuple ds) = none := by show behindL pl st ds = none; rw [hb, z]; rfl
          rw [e5] at this
          exact this
        cases e with
        | int n =>
          cases he
          refine iteF ⟨_, rfl, _, _, rfl, rfl, _, rfl, ?_⟩
          by_cases h0 : 0 ≤ n
          case neg =>
            rw [decide_eq_false h0]
            refine iteF ⟨_, rfl, iteT ?_⟩
            exact bad (by rw [ixOk_int, if_neg (fun z => h0 z.1)])
          rw [decide_eq_true h0]
          refine iteT ⟨.ref p, rfl, p, C, dx, _, _, rfl, sm4 _ _ e1, T.cl, T.nM, pf_m _ _ _ _, .ref vm, _, rfl, .inr ⟨ms, ex_t' sm4 hms, rfl⟩, _, _, rfl, rfl, _, rfl, ?_⟩
          rw [hml]
          by_cases h1 : n < (pl.ways.length : Int)
          case neg =>
            rw [decide_eq_false h1]
            refine iteT ?_
            exact bad (by rw [ixOk_int, if_neg (fun z => h1 z.2)])
          rw [decide_eq_true h1]
          obtain ⟨j, rfl⟩ : ∃ j : Nat, n = (j : Int) := ⟨n.toNat, by omega⟩
          obtain ⟨m, hm⟩ : ∃ m, pl.ways[j]? = some m := ⟨_, List.getElem?_eq_getElem (by omega)⟩
          obtain ⟨mv, hmv⟩ : ∃ v, ms[j]? = some v := ⟨_, List.getElem?_eq_getElem (by rw [hml]; omega)⟩
          obtain ⟨dd, hdd, hdq⟩ := hma.at hmv
          rw [List.getElem?_map, hm] at hdd
          cases hdd
          obtain ⟨e, rfl, hab⟩ := dq_mv (hdq.up sm4)
          have ik : ixOk pl s' (.int (j : Int)) = if m.s = s' then some m else none := by
            rw [ixOk_int, if_pos ⟨h0, h1⟩, Int.toNat_natCast, hm, Option.bind_some]
          refine iteF ⟨.ref p, rfl, p, C, dx, _, _, rfl, sm4 _ _ e1, T.cl, T.nM, pf_m _ _ _ _, .int (j : Int), rfl, vm, ms, (j : Int), .ref e, rfl, rfl, ex_t' sm4 hms, atI_nat hmv, e, _, 0, _, rfl, rfl, hab, atI_nat (j := 0) rfl, _, rfl, rfl, _, rfl, ?_⟩
          have hde : (!decide (V.int (m.s : Int) = V.int (s' : Int))) = decide (¬ m.s = s') := by
            by_cases e : m.s = s'
            · rw [e]; simp
            · have : ¬ (V.int (m.s : Int) = V.int (s' : Int)) := fun z => e (by injection z with z; omega)
              rw [decide_eq_false this, decide_eq_true e]; rfl
          rw [hde]
          by_cases hs' : m.s = s'
          case neg =>
            rw [decide_eq_true hs']
            exact iteT (bad (by rw [ik, if_neg hs']))
          rw [decide_eq_false (not_not_intro hs')]
          rw [if_pos hs'] at ik
          refine iteF ⟨.ref p, rfl, p, C, dx, _, _, rfl, sm4 _ _ e1, T.cl, T.nM, pf_m _ _ _ _, .int (j : Int), rfl, vm, ms, (j : Int), .ref e, rfl, rfl, ex_t' sm4 hms, atI_nat hmv, e, _, 3, _, rfl, rfl, hab, atI_nat (j := 3) rfl, ?_⟩
          exact ⟨_, m.t, rfl, sm4, by rw [hb, ik]; rfl⟩
        | _ =>
          refine iteT ?_
          exact bad rfl
      · rintro σ H2 ⟨y3, s', rfl, sm, hb⟩
        have hl : xs.length = ds.length := ha.len
        rw [hl, List.drop_length] at hb
        have e5 : behindD pl st (.tuple ds) = some s' := hb
        have := q H2 sm
        rw [e5] at this
        exact ⟨_, rfl, this⟩
    | _ =>
      exact iteT (q H (Same.refl H))
end
end KP
namespace KP
open PySem PySem.Spec PyProof.Rows L2 EL
open Evl (pss_cut)
abbrev sRingHolds : Stmt := topS 47
theorem scRingHolds : FnScope ["pacer", "paper", "_", "begin", "there", "ring", "on", "start", "index"] ["pacer", "paper"] (defScope sRingHolds) := ⟨rfl, rfl, rfl, by decide +kernel, rfl, by decide +kernel, by decide +kernel⟩
def inI (b : Int) (ns : List Nat) : Bool := ns.any fun n : Nat => (n : Int) == b
theorem flat_ixs (ns : List Nat) : (ixs ns).all flatV = true := by
  unfold ixs; rw [List.all_map, List.all_eq_true]; intro n _; rfl
theorem flat_opt (o : Option Nat) : flatV (optV o) = true := by cases o <;> rfl
theorem inV_int (b : Int) (ns : List Nat) : inV (.int b) (ixs ns) = inI b ns := by
  unfold inV ixs inI; rw [List.any_map]; rfl
theorem inV_non (ns : List Nat) : inV .non (ixs ns) = false := by
  unfold inV ixs; rw [List.any_map, List.any_eq_false]; intro n _ h; cases h
def gainI (pl : Plan) : PyData → Int
  | .int i => ((pl.ways[i.toNat]?).map Mv.gain).getD 0
  | _ => 0
def sumG (pl : Plan) (ds : List PyData) : Int := (ds.map (gainI pl)).sum
def endB (pl : Plan) : Option Nat → Bool
  | some t => inI (t : Int) pl.outs
  | none => false
theorem inV_opt (pl : Plan) (o : Option Nat) : inV (optV o) (ixs pl.outs) = endB pl o := by
  cases o with
  | none => exact inV_non _
  | some t => exact inV_int _ _
def restB (pl : Plan) (rg on : PyData) : Option Nat → Bool
  | some s => match rg with
    | .tuple rs => decide (behindL pl s rs = some s) && (decide (sumG pl rs ≠ 0) && endB pl (behindD pl s on))
    | _ => false
  | none => false
def ringB (pl : Plan) : List PyData → Bool
  | [_, .int b, th, rg, on] => inI b pl.ins && restB pl rg on (behindD pl b.toNat th)
  | _ => false
theorem behind_all {pl : Plan} : ∀ {ds : List PyData} {s t : Nat}, behindL pl s ds = some t → ∀ d ∈ ds, ∃ (j : Nat) (m : Mv), d = .int (j : Int) ∧ pl.ways[j]? = some m
  | [], _, _, _, d, h => nomatch h
  | e :: r, s, t, h, d, hd => by
    have h : ((ixOk pl s e).bind fun m => behindL pl m.t r) = some t := h
    cases q : ixOk pl s e with
    | none => rw [q] at h; cases h
    | some m =>
      rw [q, Option.bind_some] at h
      rcases List.mem_cons.mp hd with rfl | hd
      · cases d with
        | int i =>
          rw [ixOk_int] at q
          by_cases z : 0 ≤ i ∧ i < (pl.ways.length : Int)
          · rw [if_pos z] at q
            refine ⟨i.toNat, ?_⟩
            obtain ⟨m', hm'⟩ : ∃ m', pl.ways[i.toNat]? = some m' := ⟨_, List.getElem?_eq_getElem (by omega)⟩
            exact ⟨m', by congr 1; omega, hm'⟩
          · rw [if_neg z] at q; cases q
        | _ => cases q
      · exact behind_all h d hd
def spRingHolds (K : PySem.W.Frag) (C : Addr) : Sp := fun vs H Q _ => ∃ (p : Addr) (pl : Plan) (top many long : Nat) (v : V) (ds : List PyData), vs = [.ref p, v] ∧ PacAt K C H p pl ∧ pl.Ok top many long ∧ top ≤ 50 ∧ many ≤ 50 ∧ long ≤ 50 ∧ Dq K H v (.tuple ds) ∧ Sz (.tuple ds) ∧ ds.length = 5 ∧
  ∀ H', Same H H' → Q (.bl (ringB pl ds)) H'
section
variable {P : Program} {w : World} {K : PySem.W.Frag} {mg : Str → Option Value} {base : Heap}
theorem ok_RingHolds {f C : Addr} {fd : FuncData} {k : Nat} (F : Fun K "ring_holds" "ring_holds" sRingHolds f fd) (T : PTxt K C) (nsum : mg "sum" = none) (CIsInteger : Cal P w K mg base k "is_integer" ["thing"] (spLook K isIntD)) (CStateBehind : Cal P w K mg base k "state_behind" ["pacer", "state", "way"] (spBehind K C)) (CGainOf : Cal P w K mg base k "gain_of" ["move"] (spGain K)) : FnOk P w K mg base CX0 (k + 1) f fd ["pacer", "paper"] (spRingHolds K C) := by
  refine F.ok scRingHolds (fun vs H Q E h => ?_) (fun cdv A outer s H vs Q E hr h => ?_)
  · obtain ⟨p, pl, top, many, long, v, ds, rfl, _⟩ := h; rfl
  · obtain ⟨p, pl, top, many, long, v, ds, rfl, hP, hO, t1, t2, t3, hd, hz, h5, q⟩ := h
    have hu := hr.units
    refine ⟨_, (pss_cons (ps_asg (pv 1) (pg_tup (by rfl) (pgs_cons (pg_name (i := 2) scRingHolds.nd rfl (by first | exact Or.inl rfl | exact Or.inr rfl)) (pgs_cons (pg_name (i := 3) scRingHolds.nd rfl (by first | exact Or.inl rfl | exact Or.inr rfl)) (pgs_cons (pg_name (i := 4) scRingHolds.nd rfl (by first | exact Or.inl rfl | exact Or.inr rfl)) (pgs_cons (pg_name (i := 5) scRingHolds.nd rfl (by first | exact Or.inl rfl | exact Or.inr rfl)) (pgs_cons (pg_name (i := 6) scRingHolds.nd rfl (by first | exact Or.inl rfl | exact Or.inr rfl)) pgs_nil)))))))
      (pss_cons (ps_if (PW.pt (pw_or (pt_not (pt_val (pe_cal CIsInteger hr (by rfl) pass0 (pa_cons (pv 3) pa_nil)))) (pw_or1 (pt_cmpR op_notIn_seq (pv 3) (pe_fld (pv 0) rfl) (by rfl))))) (pss_one (ps_ret pe_bl)) pss_nil)
      (pss_cons (ps_set (i := 7) scRingHolds.nd rfl (by first | exact Or.inl rfl | exact Or.inr rfl) (pe_cal CStateBehind hr (by rfl) pass0 (pa_cons (pv 0) (pa_cons (pv 3) (pa_cons (pv 4) pa_nil)))))
      (pss_cons (ps_if (PW.pt (pw_or (pt_cmpR op_isN (pv 7) pe_non (nomark _)) (pw_or1 (pt_cmpR (show OpR _ _ rNe from op_ne) (pe_cal CStateBehind hr (by rfl) pass0 (pa_cons (pv 0) (pa_cons (pv 7) (pa_cons (pv 5) pa_nil)))) (pv 7) (nomark _))))) (pss_one (ps_ret pe_bl)) pss_nil)
      (pss_one (ps_ret (pe_and (pe_cmpR op_ne (pe_callB (show CallR _ _ (rSum K) from cr_sum rfl) (by rfl) nsum (by decide +kernel) (pa_cons (pe_lc (own := [("index", 8)]) (g := (gName 8)) (by rfl) scRingHolds.nd (pi_tup (pv 5)) (blkOk_by (own := [("index", 8)]) (N := ["pacer", "paper", "_", "begin", "there", "ring", "on", "start", "index"]) (sc := defScope sRingHolds) (by decide +kernel)) (fun _ _ _ _ _ => (pg_name (i := 8) scRingHolds.nd rfl (by first | exact Or.inl rfl | exact Or.inr rfl))) (fun _ _ _ _ _ => pts_nil) (fun _ _ _ _ _ => (pe_cal CGainOf hr (by rfl) pass0 (pa_cons (pe_ix (show IxR _ (rIxT K) from ix_tup) (pe_fldK (K := K) (pv 0) rfl) (pv 8) (fun _ _ => rfl)) pa_nil)))) pa_nil)) pe_int (nomark _)) (pe_one (pe_cmpR op_in_seq (pe_cal CStateBehind hr (by rfl) pass0 (pa_cons (pv 0) (pa_cons (pv 7) (pa_cons (pv 6) pa_nil)))) (pe_fld (pv 0) rfl) (by rfl)))))))))), ?_⟩
    obtain ⟨dx, vb, vm, ve, e1, e2, e3, e4⟩ := hP.at'
    obtain ⟨is, his, hia⟩ : ∃ is, SqT K H vb is ∧ DqAll K H is (nats pl.ins) := by
      cases e2 with
      | tup hs ha => exact ⟨_, hs, ha⟩
    obtain rfl := dqAll_nats hia
    obtain ⟨os, hos, hoa⟩ : ∃ os, SqT K H ve os ∧ DqAll K H os (nats pl.outs) := by
      cases e4 with
      | tup hs ha => exact ⟨_, hs, ha⟩
    obtain rfl := dqAll_nats hoa
    obtain ⟨ms, hms, hma⟩ : ∃ ms, SqT K H vm ms ∧ DqAll K H ms (pl.ways.map mvD) := by
      cases e3 with
      | tup hs ha => exact ⟨_, hs, ha⟩
    have hml : ms.length = pl.ways.length := by rw [hma.len, List.length_map]
    match ds, h5 with
    | [d0, b, th, rg, on], _ =>
    cases hd with
    | tup hs ha =>
    rename_i a xs
    have hzz : PyData.bulkAll [d0, b, th, rg, on] ≤ 500000 := hz
    cases ha with
    | cons z0 r => cases r with
      | cons zb r => cases r with
        | cons zt r => cases r with
          | cons zr r => cases r with
            | cons zo r =>
    cases r
    rename_i v0 vb' vt vr vo
    have szb := sz_mem hzz b (by simp)
    have szt := sz_mem hzz th (by simp)
    have szr := sz_mem hzz rg (by simp)
    have szo := sz_mem hzz on (by simp)
    refine ⟨_, rfl, a, _, rfl, hs, rfl, _, _, rfl, _, _, rfl, _, _, rfl, _, _, rfl, _, _, rfl, rfl, ?_⟩
    refine ⟨vb', rfl, vb', b, rfl, zb, szb, fun H1 s1 => ⟨_, rfl, ?_⟩⟩
    have q1 := q H1 s1
    cases b with
    | int n =>
      cases zb
      refine iteF ⟨_, rfl, .ref p, rfl, p, C, dx, _, _, rfl, s1 _ _ e1, T.cl, T.nB, pf_b _ _ _ _, vb, _, rfl, .inr (ex_t' s1 his), rfl, flat_ixs _, _, rfl, ?_⟩
      have rB : ringB pl [d0, .int n, th, rg, on] = (inI n pl.ins && restB pl rg on (behindD pl n.toNat th)) := rfl
      have hni : (if true = true then !inV (.int n) (ixs pl.ins) else inV (.int n) (ixs pl.ins)) = !inI n pl.ins := by rw [if_pos rfl, inV_int]
      rw [hni]
      cases hin : inI n pl.ins with
      | false =>
        refine iteT ?_
        rw [rB, hin] at q1
        exact q1
      | true =>
      refine iteF ?_
      have rB2 : ringB pl [d0, .int n, th, rg, on] = restB pl rg on (behindD pl n.toNat th) := by rw [rB, hin, Bool.true_and]
      rw [rB2] at q
      clear q1 rB rB2
      obtain ⟨b, hb, rfl⟩ : ∃ b : Nat, b ∈ pl.ins ∧ n = (b : Int) := by
        unfold inI at hin
        obtain ⟨b, hb, e⟩ := List.any_eq_true.mp hin
        exact ⟨b, hb, (by simpa using e : (b : Int) = n).symm⟩
      rw [Int.toNat_natCast] at q
      refine ⟨_, rfl, _, rfl, _, rfl, p, pl, top, many, long, b, vt, th, rfl, hP.up s1, hO, t1, t2, t3, zt.up s1, szt, fun H2 s2 => ?_⟩
      have s12 := s1.trans s2
      cases hst : behindD pl b th with
      | none =>
        rw [hst] at q
        exact ⟨_, rfl, rfl, _, rfl, iteT (q H2 s12)⟩
      | some s0 =>
      rw [hst] at q
      refine ⟨_, rfl, rfl, _, rfl, iteF ?_⟩
      refine ⟨_, rfl, _, rfl, _, rfl, p, pl, top, many, long, s0, vr, rg, rfl, hP.up s12, hO, t1, t2, t3, zr.up s12, szr, fun H3 s3 => ?_⟩
      have s13 := s12.trans s3
      have hsc : scal (optV (behindD pl s0 rg)) (.int (s0 : Int)) = true := by cases behindD pl s0 rg <;> rfl
      refine ⟨_, rfl, hsc, _, rfl, ?_⟩
      have hne : (!decide (optV (behindD pl s0 rg) = optV (some s0))) = decide (¬ behindD pl s0 rg = some s0) := by
        cases e : behindD pl s0 rg with
        | none => simp [optV]
        | some t =>
          by_cases z : t = s0
          · rw [z]; simp [optV]
          · have : ¬ (V.int (t : Int) = V.int (s0 : Int)) := fun w => z (by injection w with w; omega)
            show (!decide (V.int (t : Int) = V.int (s0 : Int))) = _
            rw [decide_eq_false this]; simp [z]
      rw [hne]
      by_cases hsame : behindD pl s0 rg = some s0
      case neg =>
        rw [decide_eq_true hsame]
        refine iteT ?_
        have := q H3 s13
        have e : restB pl rg on (some s0) = false := by
          cases rg with
          | tuple rs =>
            have hs2 : ¬ behindL pl s0 rs = some s0 := hsame
            show (decide (behindL pl s0 rs = some s0) && _) = false
            rw [decide_eq_false hs2]; rfl
          | _ => rfl
        rw [e] at this; exact this
      rw [decide_eq_false (not_not_intro hsame)]
      refine iteF ?_
      match rg, hsame with
      | .tuple rs, hsame =>
      have hsame : behindL pl s0 rs = some s0 := hsame
      have rB3 : restB pl (.tuple rs) on (some s0) = (decide (sumG pl rs ≠ 0) && endB pl (behindD pl s0 on)) := by
        show (decide (behindL pl s0 rs = some s0) && _) = _
        rw [decide_eq_true hsame, Bool.true_and]
      rw [rB3] at q
      obtain ⟨ra, rx, rfl, hrs, hra⟩ : ∃ ra rx, vr = .ref ra ∧ SqT K H ra rx ∧ DqAll K H rx rs := by
        cases zr with
        | tup w1 w2 => exact ⟨_, _, rfl, w1, w2⟩
      have hall := behind_all hsame
      have lrs : rx.length = rs.length := hra.len
      have lr5 : rs.length ≤ 500000 := Nat.le_trans (bulk_len rs) szr
      refine ⟨_, rfl, ra, rfl, ⟨_, ex_t' s13 hrs⟩, fun D nD => ?_⟩
      refine it_gen (walk_tup (K := K) (a := ra) (xs := rx)) (fun i H' => H' D = some (.lst (((rs.take i).map (gainI pl)).map V.int)) ∧ Same H3 H') ⟨upd_same, same_upd nD⟩ (fun i H' _ z => ex_t' (s13.trans z.2) hrs) ?_ ?_
      · rintro i y H9 H4 hi ⟨gD, s4⟩ ⟨rfl, hy⟩
        obtain ⟨e, ee, he⟩ := hra.at hy
        obtain ⟨j, m, rfl, hm⟩ := hall e (List.mem_of_getElem? ee)
        cases he
        obtain ⟨mv, hmv⟩ : ∃ v, ms[j]? = some v := ⟨_, List.getElem?_eq_getElem (by rw [hml]; exact (List.getElem?_eq_some_iff.mp hm).1)⟩
        obtain ⟨dd, hdd, hdq⟩ := hma.at hmv
        rw [List.getElem?_map, hm] at hdd
        cases hdd
        have s14 := s13.trans s4
        obtain ⟨_, _, m3, m4, _, _⟩ := hO.m m (List.mem_of_getElem? hm)
        refine ⟨rfl, ?_⟩
        dsimp only [tYes]
        refine iteT ⟨.ref p, rfl, p, C, dx, _, _, rfl, s14 _ _ e1, T.cl, T.nM, pf_m _ _ _ _, .int (j : Int), rfl, vm, ms, (j : Int), mv, rfl, rfl, ex_t' s14 hms, atI_nat hmv, mv, m, rfl, hdq.up s14, by omega, by omega, _, gD, lt_sz (by simp; omega), ?_, ?_⟩
        · have hg : gainI pl (.int (j : Int)) = m.gain := by
            show ((pl.ways[((j : Int)).toNat]?).map Mv.gain).getD 0 = _
            rw [Int.toNat_natCast, hm]; rfl
          rw [upd_same, take_more ee]
          simp only [List.map_append, List.map_cons, List.map_nil, hg]
        · exact fun x o h => by rw [upd_ne (ne_of_none h nD)]; exact s4 _ _ h
      rintro H4 ⟨gD, s4⟩
      rw [lrs, List.take_length] at gD
      have s14 := s13.trans s4
      refine ⟨D, rs.map (gainI pl), rfl, sqOf gD, rfl, ?_⟩
      have hsum : (!decide (V.int (rs.map (gainI pl)).sum = V.int 0)) = decide (sumG pl rs ≠ 0) := by
        show (!decide (V.int (sumG pl rs) = V.int 0)) = _
        by_cases z : sumG pl rs = 0
        · rw [z]; rfl
        · have : ¬ (V.int (sumG pl rs) = V.int 0) := fun w => z (by injection w)
          rw [decide_eq_false this, decide_eq_true z]; rfl
      rw [hsum]
      refine ⟨_, rfl, ?_⟩
      by_cases hz : sumG pl rs ≠ 0
      case neg =>
        rw [decide_eq_false hz] at q ⊢
        exact iteF (q H4 s14)
      rw [decide_eq_true hz] at q ⊢
      rw [Bool.true_and] at q
      refine iteT ⟨_, rfl, _, rfl, _, rfl, p, pl, top, many, long, s0, vo, on, rfl, hP.up s14, hO, t1, t2, t3, zo.up s14, szo, fun H5 s5 => ?_⟩
      have s15 := s14.trans s5
      refine ⟨.ref p, rfl, p, C, dx, _, _, rfl, s15 _ _ e1, T.cl, T.nE, pf_e _ _ _ _, ve, _, rfl, .inr (ex_t' s15 hos), flat_opt _, flat_ixs _, ?_⟩
      have hfin : (if false = true then !inV (optV (behindD pl s0 on)) (ixs pl.outs) else inV (optV (behindD pl s0 on)) (ixs pl.outs)) = endB pl (behindD pl s0 on) := by rw [if_neg (by decide), inV_opt]
      rw [hfin]
      exact q H5 s15
    | _ => exact iteT q1
end
end KP
namespace KP
open PySem PySem.Spec PyProof.Rows L2 EL
open Evl (pss_cut)
abbrev sBoundsHold : Stmt := topS 46
theorem scBoundsHold : FnScope ["pacer", "bounds", "leaving", "low", "high", "part", "begin", "state", "_", "gain", "further"] ["pacer", "bounds"] (defScope sBoundsHold) := ⟨rfl, rfl, rfl, by decide +kernel, rfl, by decide +kernel, by decide +kernel⟩
theorem wipe_set_out {σ : L2.St} {i : Nat} {x : Option V} : ∀ {vs : List Nat}, i ∉ vs → wipe (σ.set i x) vs = (wipe σ vs).set i x
  | [], _ => rfl
  | v :: r, h => by
    rw [List.mem_cons, not_or] at h
    show (wipe (σ.set i x) r).set v none = ((wipe σ r).set v none).set i x
    rw [wipe_set_out h.2, List.set_comm _ _ h.1]
theorem wipe_set {σ : L2.St} {i : Nat} {x : Option V} : ∀ {vs : List Nat}, i ∈ vs → wipe (σ.set i x) vs = wipe σ vs
  | [], h => nomatch h
  | v :: r, h => by
    show (wipe (σ.set i x) r).set v none = (wipe σ r).set v none
    by_cases hr : i ∈ r
    · rw [wipe_set hr]
    · rcases List.mem_cons.mp h with e | e
      · subst e
        rw [wipe_set_out hr, List.set_set]
      · exact absurd e hr
abbrev T3i := Int × Int × Int
abbrev tripD (t : T3i) : PyData := .tuple [.int t.1, .int t.2.1, .int t.2.2]
theorem bound_trip {d : PyData} (h : isBoundD d = true) : ∃ t : T3i, d = tripD t ∧ t.2.1 ≤ t.2.2 := by
  unfold isBoundD at h
  split at h
  · rename_i a b c
    simp only [Bool.and_eq_true, decide_eq_true_eq] at h
    obtain ⟨⟨h1, h2, h3⟩, h4⟩ := h
    obtain ⟨i, rfl⟩ := isInt_of h1
    obtain ⟨j, rfl⟩ := isInt_of h2
    obtain ⟨k, rfl⟩ := isInt_of h3
    exact ⟨(i, j, k), rfl, h4⟩
  · cases h
theorem bounds_trips : ∀ {ds : List PyData}, ds.all isBoundD = true → ∃ ts : List T3i, ds = ts.map tripD ∧ ∀ t ∈ ts, t.2.1 ≤ t.2.2
  | [], _ => ⟨[], rfl, fun _ h => nomatch h⟩
  | d :: r, h => by
    rw [List.all_cons, Bool.and_eq_true] at h
    obtain ⟨t, rfl, ht⟩ := bound_trip h.1
    obtain ⟨ts, rfl, hts⟩ := bounds_trips h.2
    exact ⟨t :: ts, rfl, fun x hx => by
      rcases List.mem_cons.mp hx with rfl | hx
      · exact ht
      · exact hts x hx⟩
theorem trips_fn : ∀ {us : List Nat} {ts : List T3i}, us.Nodup → ts.map (·.1) = us.map (fun n : Nat => (n : Int)) → ∃ lo hi : Nat → Int, ts = us.map fun s : Nat => (((s : Int), lo s, hi s) : T3i)
  | [], [], _, _ => ⟨fun _ => 0, fun _ => 0, rfl⟩
  | [], _ :: _, _, h => by simp at h
  | _ :: _, [], _, h => by simp at h
  | s :: r, t :: ts, nd, h => by
    rw [List.nodup_cons] at nd
    rw [List.map_cons, List.map_cons] at h
    injection h with h1 h2
    obtain ⟨lo, hi, e⟩ := trips_fn nd.2 h2
    refine ⟨fun x => if x = s then t.2.1 else lo x, fun x => if x = s then t.2.2 else hi x, ?_⟩
    rw [List.map_cons]
    dsimp only
    rw [if_pos rfl, if_pos rfl]
    congr 1
    · exact Prod.ext h1 rfl
    · rw [e]
      refine List.map_congr_left fun x hx => ?_
      have : ¬ x = s := fun z => nd.1 (z ▸ hx)
      rw [if_neg this, if_neg this]
theorem eqv_ints : ∀ a b : List Int, PyData.eqvAll (a.map PyData.int) (b.map PyData.int) = decide (a = b)
  | [], [] => by simp [PyData.eqvAll]
  | [], _ :: _ => by simp [PyData.eqvAll]
  | _ :: _, [] => by simp [PyData.eqvAll]
  | x :: a, y :: b => by
    rw [List.map_cons, List.map_cons, PyData.eqvAll, eqv_ints a b]
    by_cases h : x = y
    · subst h; simp [PyData.eqv]
    · simp [PyData.eqv, h]
open Classical in
noncomputable def boundsB (pl : Plan) (us : List Nat) (d : PyData) : Bool := decide (∃ lo hi : Nat → Int, d = .tuple (us.map (bndD lo hi)) ∧ BndOk pl us lo hi)
theorem boundsB_no {pl : Plan} {us : List Nat} {d : PyData} (h : ∀ lo hi : Nat → Int, d = .tuple (us.map (bndD lo hi)) → BndOk pl us lo hi → False) : boundsB pl us d = false := by
  simp only [boundsB, decide_eq_false_iff_not]
  exact fun ⟨lo, hi, h1, h2⟩ => h lo hi h1 h2
def begB (pl : Plan) (us : List Nat) (lo hi : Nat → Int) : List Bool := (pl.ins.filter fun b => decide (b ∈ us)).map fun b => decide (lo b ≤ 0) && decide (0 ≤ hi b)
def stB (pl : Plan) (us : List Nat) (lo hi : Nat → Int) (s : Nat) : List Bool := (leavL pl us s).map fun e => decide (lo e.2.2 ≤ lo s + e.2.1) && decide (hi e.2.2 ≥ hi s + e.2.1)
theorem bnd_agree {us : List Nat} {lo hi lo' hi' : Nat → Int} : us.map (bndD lo hi) = us.map (bndD lo' hi') → ∀ s ∈ us, lo s = lo' s ∧ hi s = hi' s := by
  induction us with
  | nil => intro _ s h; cases h
  | cons a r ih =>
    intro e s hs
    rw [List.map_cons, List.map_cons] at e
    injection e with e1 e2
    rcases List.mem_cons.mp hs with rfl | hs
    · injection e1 with e1
      injection e1 with _ e1
      injection e1 with q1 e1
      injection e1 with q2 _
      injection q1 with q1
      injection q2 with q2
      exact ⟨q1, q2⟩
    · exact ih e2 s hs
theorem boundsB_iff {pl : Plan} {us : List Nat} {lo hi : Nat → Int} (le : ∀ s ∈ us, lo s ≤ hi s) : boundsB pl us (.tuple (us.map (bndD lo hi))) = ((begB pl us lo hi).all id && (us.flatMap (stB pl us lo hi)).all id) := by
  rw [Bool.eq_iff_iff, Bool.and_eq_true, List.all_eq_true, List.all_eq_true]
  simp only [boundsB, decide_eq_true_eq]
  constructor
  · rintro ⟨lo', hi', e, B⟩
    have e : us.map (bndD lo hi) = us.map (bndD lo' hi') := by injection e
    have ag := bnd_agree e
    refine ⟨fun x hx => ?_, fun x hx => ?_⟩
    · unfold begB at hx
      obtain ⟨b, hb, rfl⟩ := List.mem_map.mp hx
      obtain ⟨h1, h2⟩ := List.mem_filter.mp hb
      have h2 : b ∈ us := by simpa using h2
      obtain ⟨a1, a2⟩ := ag b h2
      have := B.be b h1 h2
      show (decide (lo b ≤ 0) && decide (0 ≤ hi b)) = true
      rw [a1, a2, Bool.and_eq_true, decide_eq_true_eq, decide_eq_true_eq]
      exact this
    · obtain ⟨s, hs, hx⟩ := List.mem_flatMap.mp hx
      unfold stB at hx
      obtain ⟨e, he, rfl⟩ := List.mem_map.mp hx
      obtain ⟨m, _, _, _, h4, _, h6⟩ := mem_leav.mp he
      have hu : e.2.2 ∈ us := by rw [h6]; exact h4
      obtain ⟨a1, a2⟩ := ag s hs
      obtain ⟨a3, a4⟩ := ag _ hu
      have := B.st s hs e he
      show (decide (lo e.2.2 ≤ lo s + e.2.1) && decide (hi e.2.2 ≥ hi s + e.2.1)) = true
      rw [a1, a2, a3, a4, Bool.and_eq_true, decide_eq_true_eq, decide_eq_true_eq]
      exact this
  · rintro ⟨h1, h2⟩
    refine ⟨lo, hi, rfl, le, fun b hb hu => ?_, fun s hs e he => ?_⟩
    · have := h1 _ (List.mem_map.mpr ⟨b, List.mem_filter.mpr ⟨hb, by simpa using hu⟩, rfl⟩)
      have : (decide (lo b ≤ 0) && decide (0 ≤ hi b)) = true := this
      simpa using this
    · have := h2 _ (List.mem_flatMap.mpr ⟨s, hs, List.mem_map.mpr ⟨e, he, rfl⟩⟩)
      have : (decide (lo e.2.2 ≤ lo s + e.2.1) && decide (hi e.2.2 ≥ hi s + e.2.1)) = true := this
      simpa using this
abbrev numV (us : List Nat) (f : Nat → Int) : List (L2.Key × V) := us.map fun s : Nat => ((.inl (s : Int) : L2.Key), V.int (f s))
theorem numV_get (us : List Nat) (f : Nat → Int) (t : Nat) : valV (numV us f) (.inl (t : Int)) = if t ∈ us then some (.int (f t)) else none := by
  induction us with
  | nil => simp [numV, valV]
  | cons s r ih =>
    by_cases h : s = t
    · subst h
      simp [numV, valV]
    · have h2 : ¬ ((s : Int) = (t : Int)) := fun z => h (by omega)
      have h3 : ¬ t = s := fun z => h z.symm
      simp only [numV, valV] at ih ⊢
      rw [List.map_cons, List.find?_cons_of_neg (by simp [h2])]
      rw [ih]
      simp [h3]
theorem dq_trip {K : PySem.W.Frag} {H : Hp} {v : V} {t : T3i} (h : Dq K H v (tripD t)) : ∃ b, v = .ref b ∧ SqT K H b [.int t.1, .int t.2.1, .int t.2.2] := by
  cases h with
  | tup hs ha =>
    cases ha with
    | cons h1 r => cases r with
      | cons h2 r => cases r with
        | cons h3 r =>
          cases r; cases h1; cases h2; cases h3
          exact ⟨_, rfl, hs⟩
def fstI : PyData → Int
  | .tuple (.int i :: _) => i
  | _ => 0
theorem fst_trips (ts : List T3i) : (ts.map tripD).map fstI = ts.map (·.1) := by rw [List.map_map]; rfl
theorem fst_bnds (us : List Nat) (lo hi : Nat → Int) : (us.map (bndD lo hi)).map fstI = us.map fun n : Nat => (n : Int) := by rw [List.map_map]; rfl
def spBounds (K : PySem.W.Frag) (C : Addr) : Sp := fun vs H Q _ => ∃ (p : Addr) (pl : Plan) (top many long : Nat) (us : List Nat) (v : V) (d : PyData), vs = [.ref p, v] ∧ PacAt K C H p pl ∧ pl.Ok top many long ∧ top ≤ 50 ∧ many ≤ 50 ∧ long ≤ 50 ∧ UsefulL pl us ∧ Dq K H v d ∧ Sz d ∧
  ∀ H', Same H H' → Q (.bl (boundsB pl us d)) H'
section
variable {P : Program} {w : World} {K : PySem.W.Frag} {mg : Str → Option Value} {base : Heap}
theorem ok_BoundsHold {f C : Addr} {fd : FuncData} {k : Nat} (F : Fun K "bounds_hold" "bounds_hold" sBoundsHold f fd) (T : PTxt K C) (nisinstance : mg "isinstance" = none) (ntuple : mg "tuple" = none) (nall : mg "all" = none) (nlist : mg "list" = none) (CIsBound : Cal P w K mg base k "is_bound" ["thing"] (spLook K isBoundD)) (CUsefulMoves : Cal P w K mg base k "useful_moves" ["pacer"] (spUsefulMoves K C)) : FnOk P w K mg base CX0 (k + 1) f fd ["pacer", "bounds"] (spBounds K C) := by
  refine F.ok scBoundsHold (fun vs H Q E h => ?_) (fun cdv A outer s H vs Q E hr h => ?_)
  · obtain ⟨p, pl, top, many, long, us, v, d, rfl, _⟩ := h; rfl
  · obtain ⟨p, pl, top, many, long, us, v, d, rfl, hP, hO, t1, t2, t3, U, hd, hz, q⟩ := h
    have hu := hr.units
    have hu1 : (A.deeper (envOfC "bounds_hold" (defScope sBoundsHold) s.heap.objs.size f cdv)).units + 1 < cLine := by omega
    refine ⟨_, (pss_cons (ps_if (PW.pt (pw_or (pt_not (pt_val (pe_callB (show CallR _ _ (rIsi K) from call_isi) (by rfl) nisinstance (by decide +kernel) (pa_cons (pv 1) (pa_cons (pe_tyN (n := "tuple") ntuple (by decide +kernel)) pa_nil))))) (pw_or1 (pt_not (pt_val (pe_callB (cr_all rfl) (by rfl) nall (by decide +kernel) (pa_cons (pe_lc (own := [("part", 5)]) (g := (gName 5)) (by rfl) scBoundsHold.nd (pi_tup (pv 1)) (blkOk_by (own := [("part", 5)]) (N := ["pacer", "bounds", "leaving", "low", "high", "part", "begin", "state", "_", "gain", "further"]) (sc := defScope sBoundsHold) (by decide +kernel)) (fun _ _ _ _ _ => (pg_name (i := 5) scBoundsHold.nd rfl (by first | exact Or.inl rfl | exact Or.inr rfl))) (fun _ _ _ _ _ => pts_nil) (fun _ _ _ _ _ => (pe_cal CIsBound hr (by rfl) pass0 (pa_cons (pv 5) pa_nil)))) pa_nil))))))) (pss_one (ps_ret pe_bl)) pss_nil)
      (pss_cons (ps_set (i := 2) scBoundsHold.nd rfl (by first | exact Or.inl rfl | exact Or.inr rfl) (pe_cal CUsefulMoves hr (by rfl) pass0 (pa_cons (pv 0) pa_nil)))
      (pss_cons (ps_if (pt_cmpR (op_neD hu) (pe_lc (own := [("part", 5)]) (g := (gName 5)) (by rfl) scBoundsHold.nd (pi_tup (pv 1)) (blkOk_by (own := [("part", 5)]) (N := ["pacer", "bounds", "leaving", "low", "high", "part", "begin", "state", "_", "gain", "further"]) (sc := defScope sBoundsHold) (by decide +kernel)) (fun _ _ _ _ _ => (pg_name (i := 5) scBoundsHold.nd rfl (by first | exact Or.inl rfl | exact Or.inr rfl))) (fun _ _ _ _ _ => pts_nil) (fun _ _ _ _ _ => (pe_ix (show IxR _ (rIxT K) from ix_tup) (pv 5) pe_int (fun _ _ => rfl)))) (pe_callTy (call_listD rfl) (by rfl) nlist (by decide +kernel) (pa_cons (pv 2) pa_nil)) (nomark _)) (pss_one (ps_ret pe_bl)) pss_nil)
      (pss_cons (ps_set (i := 3) scBoundsHold.nd rfl (by first | exact Or.inl rfl | exact Or.inr rfl) (pe_dc (own := [("part", 5)]) (g := (gName 5)) (by rfl) scBoundsHold.nd (pi_tup (pv 1)) (blkOk_by (own := [("part", 5)]) (N := ["pacer", "bounds", "leaving", "low", "high", "part", "begin", "state", "_", "gain", "further"]) (sc := defScope sBoundsHold) (by decide +kernel)) (fun _ _ _ _ _ => (pg_name (i := 5) scBoundsHold.nd rfl (by first | exact Or.inl rfl | exact Or.inr rfl))) (fun _ _ _ _ _ => pts_nil) (fun _ _ _ _ _ => (pe_ix (show IxR _ (rIxT K) from ix_tup) (pv 5) pe_int (fun _ _ => rfl))) (fun _ _ _ _ _ => (pe_ix (show IxR _ (rIxT K) from ix_tup) (pv 5) pe_int (fun _ _ => rfl)))))
      (pss_cons (ps_set (i := 4) scBoundsHold.nd rfl (by first | exact Or.inl rfl | exact Or.inr rfl) (pe_dc (own := [("part", 5)]) (g := (gName 5)) (by rfl) scBoundsHold.nd (pi_tup (pv 1)) (blkOk_by (own := [("part", 5)]) (N := ["pacer", "bounds", "leaving", "low", "high", "part", "begin", "state", "_", "gain", "further"]) (sc := defScope sBoundsHold) (by decide +kernel)) (fun _ _ _ _ _ => (pg_name (i := 5) scBoundsHold.nd rfl (by first | exact Or.inl rfl | exact Or.inr rfl))) (fun _ _ _ _ _ => pts_nil) (fun _ _ _ _ _ => (pe_ix (show IxR _ (rIxT K) from ix_tup) (pv 5) pe_int (fun _ _ => rfl))) (fun _ _ _ _ _ => (pe_ix (show IxR _ (rIxT K) from ix_tup) (pv 5) pe_int (fun _ _ => rfl)))))
      (pss_one (ps_ret (pe_and (pe_callB (cr_all rfl) (by rfl) nall (by decide +kernel) (pa_cons (pe_lc (own := [("begin", 6)]) (g := (gName 6)) (by rfl) scBoundsHold.nd (pi_tup (pe_fld (pv 0) rfl)) (blkOk_by (own := [("begin", 6)]) (N := ["pacer", "bounds", "leaving", "low", "high", "part", "begin", "state", "_", "gain", "further"]) (sc := defScope sBoundsHold) (by decide +kernel)) (fun _ _ _ _ _ => (pg_name (i := 6) scBoundsHold.nd rfl (by first | exact Or.inl rfl | exact Or.inr rfl))) (fun _ _ _ _ _ => (pts_one (pt_cmp (pc_din hu1 (pv 6) (pv 2))))) (fun _ _ _ _ _ => (pe_chain op_le op_le (pe_dget hu1 (pv 3) (pv 6) (fun _ _ => rfl)) pe_int (pe_dget hu1 (pv 4) (pv 6) (fun _ _ => rfl))))) pa_nil)) (pe_one (pe_callB (cr_all rfl) (by rfl) nall (by decide +kernel) (pa_cons (pe_lock (pe_lc2 (own := [("state", 7), ("_", 8), ("gain", 9), ("further", 10)]) (vs1 := [8, 9, 10]) (g := (gName 7)) (g1 := (gTup K 3 (gCons (gName 8) (gCons (gName 9) (gCons (gName 10) gNil))))) (by rfl) scBoundsHold.nd (pi_keys (pv 2)) (blkOk_by (own := [("state", 7), ("_", 8), ("gain", 9), ("further", 10)]) (N := ["pacer", "bounds", "leaving", "low", "high", "part", "begin", "state", "_", "gain", "further"]) (sc := defScope sBoundsHold) (by decide +kernel)) (by decide) (fun _ _ _ _ _ => (pg_name (i := 7) scBoundsHold.nd rfl (by first | exact Or.inl rfl | exact Or.inr rfl))) (fun _ _ _ _ _ => pts_nil) (fun _ _ _ _ _ => (show PI _ _ _ (iList K (tDGet (tVar 2) (tVar 7))) from pi_list (pe_dget hu1 (pv 2) (pv 7) (fun _ _ => rfl)))) (fun _ _ _ _ _ => (pg_tup (by rfl) (pgs_cons (pg_name (i := 8) scBoundsHold.nd rfl (by first | exact Or.inl rfl | exact Or.inr rfl)) (pgs_cons (pg_name (i := 9) scBoundsHold.nd rfl (by first | exact Or.inl rfl | exact Or.inr rfl)) (pgs_cons (pg_name (i := 10) scBoundsHold.nd rfl (by first | exact Or.inl rfl | exact Or.inr rfl)) pgs_nil))))) (fun _ _ _ _ _ => pts_nil) (fun _ _ _ _ _ => (pe_and (pe_cmpR op_le (pe_dget hu1 (pv 3) (pv 10) (fun _ _ => rfl)) (pe_op op_add (pe_dget hu1 (pv 3) (pv 7) (fun _ _ => rfl)) (pv 9)) (nomark _)) (pe_one (pe_cmpR op_ge (pe_dget hu1 (pv 4) (pv 10) (fun _ _ => rfl)) (pe_op op_add (pe_dget hu1 (pv 4) (pv 7) (fun _ _ => rfl)) (pv 9)) (nomark _))))))) pa_nil))))))))))), ?_⟩
    refine ⟨v, rfl, v, .ty "tuple", _, _, _, rfl, .ty "tuple", tyx_of hd, kit_ty (kit_tuple d), _, rfl, ?_⟩
    cases d with
    | tuple ds =>
      cases hd with
      | tup hs ha =>
      rename_i a xs
      have hzz : PyData.bulkAll ds ≤ 500000 := hz
      have hlen : xs.length ≤ 500000 := by rw [ha.len]; exact Nat.le_trans (bulk_len ds) hzz
      refine iteF ⟨.ref a, rfl, a, rfl, ⟨xs, hs⟩, fun D nD => ?_⟩
      refine lc_it walk_tup (LcP D (fun _ H' => Same H H') (fun j v => ∃ e, ds[j]? = some e ∧ v = some (.bl (isBoundD e)))) (LcP.start (same_upd nD)) (fun i H' _ p => by obtain ⟨_, _, _, _, sm⟩ := p; exact ex_t' sm hs) ?_ ?_
      · rintro i y H1 H2 hi ⟨ys, hl, hR, hD, sm⟩ ⟨rfl, hy⟩
        obtain ⟨e, ee, he⟩ := ha.at hy
        refine ⟨rfl, ?_⟩
        dsimp only [tYes]
        refine iteT ?_
        refine ⟨y, rfl, y, e, rfl, he.up sm, sz_mem hzz e (List.mem_of_getElem? ee), fun H3 sm3 => ?_⟩
        exact lcp_some hl hR (sm3 _ _ hD) (by omega) ⟨e, ee, rfl⟩ fun b o q => by rw [upd_ne (ne_of_none q nD)]; exact sm3 _ _ (sm b o q)
      rintro H1 ⟨ys, hl, hR, hD, s1⟩
      have e1' := rows_map (f := fun e => some (V.bl (isBoundD e))) (l := ds) (by rw [hl, ha.len]) hR
      refine ⟨D, ds.map isBoundD, rfl, sqOf (by rw [hD, e1']; simp [List.filterMap_map, Function.comp_def]), _, rfl, ?_⟩
      have e2' : (ds.map isBoundD).all id = ds.all isBoundD := by simp [List.all_map, Function.comp_def]
      rw [e2']
      cases hall : ds.all isBoundD with
      | false =>
        refine iteT ?_
        have := q H1 s1
        rw [boundsB_no fun lo hi e B => ?_] at this
        · exact this
        · injection e with e
          rw [e] at hall
          have : (us.map (bndD lo hi)).all isBoundD = true := by
            rw [List.all_map, List.all_eq_true]
            intro s hs
            show ((true && (true && true)) && decide (lo s ≤ hi s)) = true
            simpa using B.le s hs
          rw [this] at hall; cases hall
      | true =>
      refine iteF ?_
      obtain ⟨ts, rfl, hts⟩ := bounds_trips hall
      refine ⟨_, rfl, p, pl, top, many, long, rfl, hP.up s1, hO, t1, t2, t3, fun dl H2 us' s2 ndl U' LA => ?_⟩
      obtain rfl : us = us' := asc_ext U.as U'.as fun s => by rw [U'.me, U.me]
      have s12 := s1.trans s2
      obtain ⟨ad, gl, hl⟩ := LA.at'
      have lus : us.length ≤ 50 := by
        have := asc_len (n := pl.wide) ⟨U.as, useful_lt hO U⟩
        have := hO.w2
        omega
      have lts : xs.length = ts.length := by rw [ha.len, List.length_map]
      have part : ∀ {G : Hp} {i : Nat} {y : V}, Same H G → xs[i]? = some y → ∃ t b, ts[i]? = some t ∧ y = .ref b ∧ SqT K G b [.int t.1, .int t.2.1, .int t.2.2] := fun {G i y} sm hy => by
        obtain ⟨e, ee, he⟩ := ha.at hy
        rw [List.getElem?_map] at ee
        cases z : ts[i]? with
        | none => rw [z] at ee; cases ee
        | some t =>
          rw [z] at ee
          cases ee
          obtain ⟨b, rfl, hb⟩ := dq_trip (he.up sm)
          exact ⟨t, b, rfl, rfl, hb⟩
      refine ⟨.ref a, rfl, a, rfl, ⟨xs, ex_t' s12 hs⟩, fun D2 nD2 => ?_⟩
      refine it_gen (walk_tup (K := K) (a := a) (xs := xs)) (fun i H' => H' D2 = some (.lst (((ts.take i).map (·.1)).map V.int)) ∧ Same H2 H') ⟨upd_same, same_upd nD2⟩ (fun i H' _ z => ex_t' (s12.trans z.2) hs) ?_ ?_
      · rintro i y H9 H3 hi ⟨gD, s3⟩ ⟨rfl, hy⟩
        obtain ⟨t, b, ht, rfl, hb⟩ := part (s12.trans s3) hy
        refine ⟨rfl, ?_⟩
        dsimp only [tYes]
        refine iteT ⟨_, rfl, b, _, 0, _, rfl, rfl, hb, atI_nat (j := 0) rfl, _, gD, lt_sz (by simp; omega), ?_, ?_⟩
        · rw [upd_same, take_more ht]
          simp only [List.map_append, List.map_cons, List.map_nil]
        · exact fun x o h => by rw [upd_ne (ne_of_none h nD2)]; exact s3 _ _ h
      rintro H3 ⟨gD2, s3⟩
      rw [lts, List.take_length] at gD2
      refine ⟨_, rfl, dl, _, rfl, .inl (s3 _ _ gl), fun l nl => ?_⟩
      have s4 : Same H3 (upd H3 l (.lst ((leavV us ad).map fun kv => kV kv.1))) := same_upd nl
      have g4 : upd H3 l (.lst ((leavV us ad).map fun kv => kV kv.1)) l = some (.lst ((us.map fun n : Nat => (n : Int)).map V.int)) := by
        rw [upd_same]; congr 2; unfold leavV; rw [List.map_map, List.map_map]; rfl
      have gD4 := s4 _ _ gD2
      generalize upd H3 l (.lst ((leavV us ad).map fun kv => kV kv.1)) = H4 at s4 g4 gD4 ⊢
      refine ⟨.list ((ts.map (·.1)).map PyData.int), .list ((us.map fun n : Nat => (n : Int)).map PyData.int), .lst (sqOf gD4) (dpInts _), .lst (sqOf g4) (dpInts _), shaped_ints _, shaped_ints _, _, rfl, ?_⟩
      have heq : PyData.eqv (.list ((ts.map (·.1)).map PyData.int)) (.list ((us.map fun n : Nat => (n : Int)).map PyData.int)) = decide (ts.map (·.1) = us.map fun n : Nat => (n : Int)) := by
        simp only [PyData.eqv]; exact eqv_ints _ _
      rw [heq]
      have s14 := s12.trans (s3.trans s4)
      by_cases hf : ts.map (·.1) = us.map fun n : Nat => (n : Int)
      case neg =>
        rw [decide_eq_false hf]
        refine iteT ?_
        have := q H4 s14
        rw [boundsB_no fun lo hi e B => hf ?_] at this
        · exact this
        · injection e with e
          rw [← fst_trips, e, fst_bnds]
      rw [decide_eq_true hf]
      refine iteF ?_
      have ndu := asc_nodup U.as
      obtain ⟨lo, hi, ets⟩ := trips_fn ndu hf
      have eds : ts.map tripD = us.map (bndD lo hi) := by rw [ets, List.map_map]; rfl
      have hle : ∀ s ∈ us, lo s ≤ hi s := fun s hs => by
        have := hts ((s : Int), lo s, hi s) (by rw [ets]; exact List.mem_map.mpr ⟨s, hs, rfl⟩)
        exact this
      rw [eds, boundsB_iff hle] at q
      have part2 : ∀ {G : Hp} {i : Nat} {y : V}, Same H G → xs[i]? = some y → ∃ s b, us[i]? = some s ∧ y = .ref b ∧ SqT K G b [.int (s : Int), .int (lo s), .int (hi s)] := fun {G i y} sm hy => by
        obtain ⟨t, b, ht, rfl, hb⟩ := part sm hy
        rw [ets, List.getElem?_map] at ht
        cases z : us[i]? with
        | none => rw [z] at ht; cases ht
        | some s => rw [z] at ht; cases ht; exact ⟨s, b, rfl, rfl, hb⟩
      have lxs : xs.length = us.length := by rw [lts, ets, List.length_map]
      refine ⟨_, rfl, a, rfl, ⟨xs, ex_t' s14 hs⟩, fun dlo nlo => ?_⟩
      refine dc_it walk_tup (fun i H' => H' dlo = some (.dK (numV (us.take i) lo)) ∧ Same H4 H') ⟨upd_same, same_upd nlo⟩ (fun i H' _ z => ex_t' (s14.trans z.2) hs) ?_ ?_
      · rintro i y H9 H5 hi' ⟨gD, s5⟩ ⟨rfl, hy⟩
        obtain ⟨s, b, hs', rfl, hb⟩ := part2 (s14.trans s5) hy
        refine ⟨rfl, ?_⟩
        dsimp only [tYes]
        refine iteT ⟨_, rfl, b, _, 0, _, rfl, rfl, hb, atI_nat (j := 0) rfl, _, rfl, b, _, 1, _, rfl, rfl, hb, atI_nat (j := 1) rfl, _, .inl (s : Int), rfl, gD, lt_sz (by simp; omega), ?_, ?_⟩
        · rw [upd_same, putK_new _ (by rw [numV_get, if_neg (take_notin ndu hs')]), take_more hs']
          simp only [numV, List.map_append, List.map_cons, List.map_nil]
        · exact fun x o h => by rw [upd_ne (ne_of_none h nlo)]; exact s5 _ _ h
      rintro H5 ⟨glo, s5⟩
      rw [lxs, List.take_length] at glo
      have s15 := s14.trans s5
      refine ⟨_, rfl, a, rfl, ⟨xs, ex_t' s15 hs⟩, fun dhi nhi => ?_⟩
      refine dc_it walk_tup (fun i H' => H' dhi = some (.dK (numV (us.take i) hi)) ∧ Same H5 H') ⟨upd_same, same_upd nhi⟩ (fun i H' _ z => ex_t' (s15.trans z.2) hs) ?_ ?_
      · rintro i y H9 H6 hi' ⟨gD, s6⟩ ⟨rfl, hy⟩
        obtain ⟨s, b, hs', rfl, hb⟩ := part2 (s15.trans s6) hy
        refine ⟨rfl, ?_⟩
        dsimp only [tYes]
        refine iteT ⟨_, rfl, b, _, 0, _, rfl, rfl, hb, atI_nat (j := 0) rfl, _, rfl, b, _, 2, _, rfl, rfl, hb, atI_nat (j := 2) rfl, _, .inl (s : Int), rfl, gD, lt_sz (by simp; omega), ?_, ?_⟩
        · rw [upd_same, putK_new _ (by rw [numV_get, if_neg (take_notin ndu hs')]), take_more hs']
          simp only [numV, List.map_append, List.map_cons, List.map_nil]
        · exact fun x o h => by rw [upd_ne (ne_of_none h nhi)]; exact s6 _ _ h
      rintro H6 ⟨ghi, s6⟩
      rw [lxs, List.take_length] at ghi
      have s16 := s15.trans s6
      have glo6 := s6 _ _ glo
      have gl6 := ((s3.trans s4).trans (s5.trans s6)) _ _ gl
      obtain ⟨dx, vb, vm, ve, e1, e2, e3, e4⟩ := (hP.up s16).at'
      obtain ⟨is, his, hia⟩ : ∃ is, SqT K H6 vb is ∧ DqAll K H6 is (nats pl.ins) := by
        cases e2 with
        | tup w1 w2 => exact ⟨_, w1, w2⟩
      obtain rfl := dqAll_nats hia
      have lI : pl.ins.length ≤ 50 := by
        have := asc_len hO.i
        have := hO.w2
        omega
      refine ⟨.ref p, rfl, p, C, dx, _, _, rfl, e1, T.cl, T.nB, pf_b _ _ _ _, vb, rfl, ⟨_, his⟩, fun D3 n3 => ?_⟩
      refine it_gen (walk_tup (K := K) (a := vb) (xs := pl.ins.map fun n : Nat => V.int (n : Int))) (fun i H' => H' D3 = some (.lst ((((pl.ins.take i).filter fun b => decide (b ∈ us)).map fun b => decide (lo b ≤ 0) && decide (0 ≤ hi b)).map V.bl)) ∧ Same H6 H') ⟨upd_same, same_upd n3⟩ (fun i H' _ z => ex_t' z.2 his) ?_ ?_
      · rintro i v H9 H7 hi' ⟨gD, s7⟩ ⟨rfl, hv⟩
        obtain ⟨b, hb, rfl⟩ : ∃ b, pl.ins[i]? = some b ∧ v = .int (b : Int) := by
          rw [List.getElem?_map] at hv
          cases e : pl.ins[i]? with
          | none => rw [e] at hv; cases hv
          | some b => rw [e] at hv; exact ⟨b, rfl, (Option.some.inj hv).symm⟩
        refine ⟨rfl, _, rfl, _, rfl, dl, _, rfl, DGet.k (k := .inl (b : Int)) (s7 _ _ gl6), ?_⟩
        rw [leav_get]
        have tk := take_more hb
        rw [List.length_map] at hi'
        by_cases hbu : b ∈ us
        · rw [if_pos hbu]
          have g1 : DGet H7 dlo (.int (b : Int)) (some (.int (lo b))) := by
            have := DGet.k (k := .inl (b : Int)) (s7 _ _ glo6)
            rw [numV_get, if_pos hbu] at this; exact this
          have g2 : DGet H7 dhi (.int (b : Int)) (some (.int (hi b))) := by
            have := DGet.k (k := .inl (b : Int)) (s7 _ _ ghi)
            rw [numV_get, if_pos hbu] at this; exact this
          have fin : ∀ c : Bool, c = (decide (lo b ≤ 0) && decide (0 ≤ hi b)) → ∃ acc, H7 D3 = some (.lst acc) ∧ acc.length < sizeLine ∧ (upd H7 D3 (.lst (acc ++ [V.bl c])) D3 = some (.lst ((((pl.ins.take (i + 1)).filter fun b => decide (b ∈ us)).map fun b => decide (lo b ≤ 0) && decide (0 ≤ hi b)).map V.bl)) ∧ Same H6 (upd H7 D3 (.lst (acc ++ [V.bl c])))) := fun c ec => by
            refine ⟨_, gD, lt_sz ?_, ?_, fun x o h => by rw [upd_ne (ne_of_none h n3)]; exact s7 _ _ h⟩
            · rw [List.length_map, List.length_map]
              have := List.length_filter_le (fun b => decide (b ∈ us)) (pl.ins.take i)
              rw [List.length_take] at this
              omega
            · rw [upd_same, tk, List.filter_append, ec]
              simp [hbu]
          refine ⟨_, rfl, iteT ⟨_, rfl, _, rfl, dlo, _, rfl, g1, _, _, rfl, rfl, _, rfl, ?_⟩⟩
          by_cases z : lo b ≤ 0
          · rw [decide_eq_true z]
            refine iteT ⟨_, rfl, _, rfl, dhi, _, rfl, g2, _, _, rfl, rfl, ?_⟩
            exact fin _ (by rw [decide_eq_true z, Bool.true_and])
          · rw [decide_eq_false z]
            exact iteF (fin _ (by rw [decide_eq_false z, Bool.false_and]))
        · rw [if_neg hbu]
          refine ⟨_, rfl, iteF ⟨?_, s7⟩⟩
          rw [gD, tk, List.filter_append]
          simp [hbu]
      rintro H7 ⟨gD3, s7⟩
      rw [List.length_map, List.take_length] at gD3
      refine ⟨D3, begB pl us lo hi, rfl, sqOf gD3, _, rfl, ?_⟩
      have s17 := s16.trans s7
      cases hb1 : (begB pl us lo hi).all id with
      | false =>
        rw [hb1, Bool.false_and] at q
        exact iteF (q H7 s17)
      | true =>
      rw [hb1, Bool.true_and] at q
      have gl7 := s7 _ _ gl6
      have glo7 := s7 _ _ glo6
      have ghi7 := s7 _ _ ghi
      have hl7 : ∀ s ∈ us, ∃ vs, H7 (ad s) = some (.lst vs) ∧ DqAll K H7 vs ((leavL pl us s).map lvD) := fun s hs => by
        obtain ⟨vs, w1, w2⟩ := hl s hs
        have sm := ((s3.trans s4).trans (s5.trans s6)).trans s7
        exact ⟨vs, sm _ _ w1, w2.up sm⟩
      refine iteT ⟨dl, _, gl7, trivial, fun od => ⟨_, rfl, dl, od, rfl, .inl ⟨_, upd_same, ?_⟩⟩⟩
      have sb : ∀ b o, b ≠ dl → H7 b = some o → upd H7 dl (.frz od (.dK (leavV us ad))) b = some o := fun b o h e => by rw [upd_ne h]; exact e
      have gb : upd H7 dl (.frz od (.dK (leavV us ad))) dl = some (.frz od (.dK (leavV us ad))) := upd_same
      have hlb : ∀ s ∈ us, ∃ vs, upd H7 dl (.frz od (.dK (leavV us ad))) (ad s) = some (.lst vs) ∧ DqAll K (upd H7 dl (.frz od (.dK (leavV us ad)))) vs ((leavL pl us s).map lvD) := fun s hs => by
        obtain ⟨vs, q1, q2⟩ := hl7 s hs
        have ne : ad s ≠ dl := fun e => by rw [e, gl7] at q1; cases q1
        exact ⟨vs, sb _ _ ne q1, dqAll_kpt (KpT.dK gl7) _ _ q2 (lv_noLD _)⟩
      have dlo_ne : dlo ≠ dl := fun e => by rw [e, (s3.trans s4) _ _ gl] at nlo; cases nlo
      have dhi_ne : dhi ≠ dl := fun e => by rw [e, ((s3.trans s4).trans s5) _ _ gl] at nhi; cases nhi
      have glob := sb _ _ dlo_ne glo7
      have ghib := sb _ _ dhi_ne ghi7
      have back : ∀ {G : Hp}, Same (upd H7 dl (.frz od (.dK (leavV us ad)))) G → Same H7 (upd G dl (.dK (leavV us ad))) := fun {G} sm b o e => by
        by_cases ed : b = dl
        · subst ed; rw [gl7] at e; cases e; exact upd_same
        · rw [upd_ne ed]; exact sm _ _ (sb b o ed e)
      generalize upd H7 dl (.frz od (.dK (leavV us ad))) = Hb at gb hlb glob ghib back ⊢
      intro D4 n4
      have hn := hO.n
      have lst : ∀ s, (stB pl us lo hi s).length = (leavL pl us s).length := fun s => by unfold stB; rw [List.length_map]
      have pre : ∀ l : List Nat, (l.flatMap (stB pl us lo hi)).length ≤ l.length * pl.ways.length := fun l => by
        induction l with
        | nil => simp
        | cons s r ih =>
          rw [List.flatMap_cons, List.length_append, List.length_cons, Nat.succ_mul, lst]
          have := leavL_len pl us s
          omega
      have hw : wipe ((((L2.start (["pacer", "bounds", "leaving", "low", "high", "part", "begin", "state", "_", "gain", "further"] : List Str) [V.ref p, V.ref a]).set 2 (some (V.ref dl))).set 3 (some (V.ref dlo))).set 4 (some (V.ref dhi))) (([("state", 7), ("_", 8), ("gain", 9), ("further", 10)] : List (Str × Nat)).map (fun x => x.2)) = [some (.ref p), some (.ref a), some (.ref dl), some (.ref dlo), some (.ref dhi), none, none, none, none, none, none] := rfl
      rw [hw]
      refine it_gen (walk_keys (d := dl) (o := od) (kvs := leavV us ad)) (fun i H' => H' D4 = some (.lst (((us.take i).flatMap (stB pl us lo hi)).map V.bl)) ∧ Same Hb H') ⟨upd_same, same_upd n4⟩ (fun i H' _ z => z.2 _ _ gb) ?_ ?_
      · rintro i v H9 H8 hi' ⟨gD, sm⟩ ⟨rfl, k0, v0, hkv, rfl⟩
        obtain ⟨s0, hs0, rfl⟩ : ∃ b, us[i]? = some b ∧ k0 = .inl (b : Int) := by
          rw [leavV, List.getElem?_map] at hkv
          cases e : us[i]? with
          | none => rw [e] at hkv; cases hkv
          | some b => rw [e] at hkv; cases hkv; exact ⟨b, rfl, rfl⟩
        have hs := List.mem_of_getElem? hs0
        obtain ⟨ls, q1, q2⟩ := hlb s0 hs
        refine ⟨rfl, ?_⟩
        dsimp only [tYes]
        refine iteT ⟨_, rfl, _, rfl, dl, .ref (ad s0), rfl, .inl ⟨_, .inl (s0 : Int), .inr ⟨od, sm _ _ gb⟩, rfl, (leav_get_pos hs).symm⟩, ad s0, rfl, ⟨_, sqOf (sm _ _ q1)⟩, ?_⟩
        have ll : ls.length = (leavL pl us s0).length := by rw [q2.len, List.length_map]
        refine it_gen (walk_list (K := K) (a := ad s0) (xs := ls)) (fun j H' => H' D4 = some (.lst (((us.take i).flatMap (stB pl us lo hi) ++ (stB pl us lo hi s0).take j).map V.bl)) ∧ Same Hb H') ⟨by rw [List.take_zero, List.append_nil]; exact gD, sm⟩ (fun j H' _ z => sqOf (z.2 _ _ q1)) ?_ ?_
        · rintro j v H9 H3' hj ⟨gD3, sm3⟩ ⟨rfl, hv⟩
          obtain ⟨dd, hdd, hdq⟩ := q2.at hv
          obtain ⟨e, he, rfl⟩ : ∃ e, (leavL pl us s0)[j]? = some e ∧ dd = lvD e := by
            rw [List.getElem?_map] at hdd
            cases q : (leavL pl us s0)[j]? with
            | none => rw [q] at hdd; cases hdd
            | some b => rw [q] at hdd; exact ⟨b, rfl, (Option.some.inj hdd).symm⟩
          obtain ⟨b, rfl, hs3⟩ := dq_lv (hdq.up sm3)
          obtain ⟨m, _, _, _, h4, _, h6⟩ := mem_leav.mp (List.mem_of_getElem? he)
          have hu2 : e.2.2 ∈ us := by rw [h6]; exact h4
          have gget : ∀ (dd : Addr) (f : Nat → Int) (x : Nat), Hb dd = some (.dK (numV us f)) → x ∈ us → DGet H3' dd (.int (x : Int)) (some (.int (f x))) := fun dd f x hh hx => by
            have := DGet.k (k := .inl (x : Int)) (sm3 _ _ hh)
            rw [numV_get, if_pos hx] at this; exact this
          have fin : ∀ c : Bool, c = (decide (lo e.2.2 ≤ lo s0 + e.2.1) && decide (hi e.2.2 ≥ hi s0 + e.2.1)) → ∃ acc, H3' D4 = some (.lst acc) ∧ acc.length < sizeLine ∧ (upd H3' D4 (.lst (acc ++ [V.bl c])) D4 = some (.lst (((us.take i).flatMap (stB pl us lo hi) ++ (stB pl us lo hi s0).take (j + 1)).map V.bl)) ∧ Same Hb (upd H3' D4 (.lst (acc ++ [V.bl c])))) := fun c ec => by
            refine ⟨_, gD3, lt_sz ?_, ?_, fun x o h => by rw [upd_ne (ne_of_none h n4)]; exact sm3 _ _ h⟩
            · have p1 := pre (us.take i)
              have p2 := leavL_len pl us s0
              have p3 := lst s0
              have p4 : (us.take i).length * pl.ways.length ≤ 2500 := Nat.mul_le_mul (by rw [List.length_take]; omega : (us.take i).length ≤ 50) (by omega : pl.ways.length ≤ 50)
              rw [List.length_map, List.length_append, List.length_take]
              omega
            · have hg : (stB pl us lo hi s0)[j]? = some c := by unfold stB; rw [List.getElem?_map, he, ec]; rfl
              rw [upd_same, take_more hg]
              simp only [List.map_append, List.map_cons, List.map_nil, List.append_assoc]
          refine ⟨b, _, rfl, hs3, rfl, _, _, rfl, _, _, rfl, _, _, rfl, rfl, rfl, ?_⟩
          dsimp only [tYes]
          refine iteT ⟨.ref dlo, rfl, ?_⟩
          refine ⟨.int (e.2.2 : Int), rfl, ?_⟩
          refine ⟨dlo, .int (lo e.2.2), rfl, gget dlo lo _ glob hu2, ?_⟩
          refine ⟨.ref dlo, rfl, ?_⟩
          refine ⟨.int (s0 : Int), rfl, ?_⟩
          refine ⟨dlo, .int (lo s0), rfl, gget dlo lo _ glob hs, ?_⟩
          refine ⟨.int e.2.1, rfl, ?_⟩
          refine ⟨lo s0, e.2.1, rfl, rfl, ?_⟩
          refine ⟨lo e.2.2, lo s0 + e.2.1, rfl, rfl, ?_⟩
          refine ⟨_, rfl, ?_⟩
          by_cases z : lo e.2.2 ≤ lo s0 + e.2.1
          · rw [decide_eq_true z]
            refine iteT ⟨.ref dhi, rfl, ?_⟩
            refine ⟨.int (e.2.2 : Int), rfl, ?_⟩
            refine ⟨dhi, .int (hi e.2.2), rfl, gget dhi hi _ ghib hu2, ?_⟩
            refine ⟨.ref dhi, rfl, ?_⟩
            refine ⟨.int (s0 : Int), rfl, ?_⟩
            refine ⟨dhi, .int (hi s0), rfl, gget dhi hi _ ghib hs, ?_⟩
            refine ⟨.int e.2.1, rfl, ?_⟩
            refine ⟨hi s0, e.2.1, rfl, rfl, ?_⟩
            refine ⟨hi e.2.2, hi s0 + e.2.1, rfl, rfl, ?_⟩
            exact fin _ (by rw [decide_eq_true z, Bool.true_and])
          · rw [decide_eq_false z]
            exact iteF (fin _ (by rw [decide_eq_false z, Bool.false_and]))
        · rintro H3' ⟨gD3, sm3⟩
          rw [ll, ← lst, List.take_length] at gD3
          exact ⟨by rw [take_more hs0, List.flatMap_append]; simpa using gD3, sm3⟩
      rintro H8 ⟨gD, sm⟩
      have e0 : (leavV us ad).length = us.length := by unfold leavV; rw [List.length_map]
      rw [e0, List.take_length] at gD
      have D4ne : D4 ≠ dl := fun e => by rw [e, gb] at n4; cases n4
      refine ⟨sm _ _ gb, D4, us.flatMap (stB pl us lo hi), rfl, sqOf (by rw [upd_ne D4ne]; exact gD), ?_⟩
      exact q _ (s17.trans (back sm))
    | _ =>
      refine iteT ?_
      have := q H (Same.refl H)
      rw [boundsB_no fun lo hi e _ => by cases e] at this
      exact this
end
end KP
namespace KP
open PySem PySem.Spec PyProof.Rows L2 EL
open Evl (pss_cut)
abbrev sJudgeHolds : Stmt := topS 33
theorem scJudgeHolds : FnScope ["pacer", "thing"] ["pacer", "thing"] (defScope sJudgeHolds) := ⟨rfl, rfl, rfl, by decide +kernel, rfl, by decide +kernel, by decide +kernel⟩
def strIs (x : Str) : PyData → Bool
  | .str y => decide (y = x)
  | _ => false
theorem dq_strIs {K : PySem.W.Frag} {H : Hp} {v : V} {d : PyData} (h : Dq K H v d) (x : Str) : decide (v = .str x) = strIs x d := by
  cases h with
  | str y =>
    show decide (V.str y = V.str x) = decide (y = x)
    exact decide_eq_decide.mpr ⟨fun z => by injection z, fun z => by rw [z]⟩
  | _ => exact decide_eq_false fun z => by cases z
noncomputable def holdsB (pl : Plan) (us : List Nat) : PyData → Bool
  | .tuple [x, b] => strIs "leads" x && boundsB pl us b
  | .tuple [x, b, th, rg, on] => strIs "ring" x && ringB pl [x, b, th, rg, on]
  | _ => false
def spJudgeHolds (K : PySem.W.Frag) (C : Addr) : Sp := fun vs H Q _ => ∃ (p : Addr) (pl : Plan) (top many long : Nat) (us : List Nat) (v : V) (d : PyData), vs = [.ref p, v] ∧ PacAt K C H p pl ∧ pl.Ok top many long ∧ top ≤ 50 ∧ many ≤ 50 ∧ long ≤ 50 ∧ UsefulL pl us ∧ Dq K H v d ∧ Sz d ∧
  ∀ H', Same H H' → Q (.bl (holdsB pl us d)) H'
section
variable {P : Program} {w : World} {K : PySem.W.Frag} {mg : Str → Option Value} {base : Heap}
theorem ok_JudgeHolds {f C : Addr} {fd : FuncData} {k : Nat} (F : Fun K "judge_holds" "judge_holds" sJudgeHolds f fd) (nisinstance : mg "isinstance" = none) (ntuple : mg "tuple" = none) (nlen : mg "len" = none) (m_LEADS : StrAt mg "LEADS" "leads") (m_RING : StrAt mg "RING" "ring") (CBoundsHold : Cal P w K mg base k "bounds_hold" ["pacer", "bounds"] (spBounds K C)) (CRingHolds : Cal P w K mg base k "ring_holds" ["pacer", "paper"] (spRingHolds K C)) : FnOk P w K mg base CX0 (k + 1) f fd ["pacer", "thing"] (spJudgeHolds K C) := by
  refine F.ok scJudgeHolds (fun vs H Q E h => ?_) (fun cdv A outer s H vs Q E hr h => ?_)
  · obtain ⟨p, pl, top, many, long, us, v, d, rfl, _⟩ := h; rfl
  · obtain ⟨p, pl, top, many, long, us, v, d, rfl, hP, hO, t1, t2, t3, U, hd, hz, q⟩ := h
    have hu := hr.units
    have hu2 : (A.deeper (envOfC "judge_holds" (defScope sJudgeHolds) s.heap.objs.size f cdv)).units + 64 < cLine := by omega
    refine ⟨_, (pss_cons (ps_if (pt_not (pt_val (pe_callB (show CallR _ _ (rIsi K) from call_isi) (by rfl) nisinstance (by decide +kernel) (pa_cons (pv 1) (pa_cons (pe_tyN (n := "tuple") ntuple (by decide +kernel)) pa_nil))))) (pss_one (ps_ret pe_bl)) pss_nil)
      (pss_cons (ps_if (PW.pt (pw_and (pt_cmpR op_eq (pe_callB (show CallR _ _ (rLenK K) from call_len) (by rfl) nlen (by decide +kernel) (pa_cons (pv 1) pa_nil)) pe_int (nomark _)) (pw_and1 (pt_cmpR (show OpR _ _ (rEqS K) from op_eqS hu2) (pe_ix (show IxR _ (rIxT K) from ix_tup) (pv 1) pe_int (fun _ _ => rfl)) (pe_gstr m_LEADS) (nomark _))))) (pss_one (ps_ret (pe_cal CBoundsHold hr (by rfl) pass0 (pa_cons (pv 0) (pa_cons (pe_ix (show IxR _ (rIxT K) from ix_tup) (pv 1) pe_int (fun _ _ => rfl)) pa_nil))))) pss_nil)
      (pss_one (ps_ret (pe_and (pe_cmpR op_eq (pe_callB (show CallR _ _ (rLenK K) from call_len) (by rfl) nlen (by decide +kernel) (pa_cons (pv 1) pa_nil)) pe_int (nomark _)) (pe_and (pe_cmpR (show OpR _ _ (rEqS K) from op_eqS hu2) (pe_ix (show IxR _ (rIxT K) from ix_tup) (pv 1) pe_int (fun _ _ => rfl)) (pe_gstr m_RING) (nomark _)) (pe_one (pe_cal CRingHolds hr (by rfl) pass0 (pa_cons (pv 0) (pa_cons (pv 1) pa_nil)))))))))), ?_⟩
    refine ⟨v, rfl, v, .ty "tuple", _, _, _, rfl, .ty "tuple", tyx_of hd, kit_ty (kit_tuple d), _, rfl, ?_⟩
    have q0 := q H (Same.refl H)
    cases d with
    | tuple ds =>
      have hd0 := hd
      cases hd with
      | tup hs ha =>
      rename_i a xs
      have hzz : PyData.bulkAll ds ≤ 500000 := hz
      refine iteF ⟨.ref a, rfl, .ref a, _, rfl, .inr ⟨xs, hs, rfl⟩, rfl, _, rfl, ?_⟩
      have hl2 : decide (V.int (xs.length : Nat) = V.int 2) = decide (ds.length = 2) := by
        rw [ha.len]
        exact decide_eq_decide.mpr ⟨fun z => by injection z with z; omega, fun z => by rw [z]; rfl⟩
      have hl5 : decide (V.int (xs.length : Nat) = V.int 5) = decide (ds.length = 5) := by
        rw [ha.len]
        exact decide_eq_decide.mpr ⟨fun z => by injection z with z; omega, fun z => by rw [z]; rfl⟩
      rw [hl2]
      by_cases l2 : ds.length = 2
      case pos =>
        rw [decide_eq_true l2]
        match ds, l2 with
        | [x, b], _ =>
        cases ha with
        | cons z1 r => cases r with
          | cons z2 r =>
        cases r
        rename_i v1 v2
        have hx := dq_strIs z1 "leads"
        refine iteT ⟨.ref a, rfl, a, _, 0, v1, rfl, rfl, hs, atI_nat (j := 0) rfl, ⟨_, z1⟩, ⟨_, rfl⟩, _, rfl, ?_⟩
        rw [hx]
        have e : holdsB pl us (.tuple [x, b]) = (strIs "leads" x && boundsB pl us b) := rfl
        rw [e] at q q0
        cases hsx : strIs "leads" x with
        | true =>
          rw [hsx, Bool.true_and] at q
          refine iteT ⟨_, rfl, .ref a, rfl, a, _, 1, v2, rfl, rfl, hs, atI_nat (j := 1) rfl, p, pl, top, many, long, us, v2, b, rfl, hP, hO, t1, t2, t3, U, z2, sz_mem hzz b (by simp), fun H1 s1 => ?_⟩
          exact q H1 s1
        | false =>
          rw [hsx, Bool.false_and] at q0
          exact iteF ⟨.ref a, rfl, .ref a, _, rfl, .inr ⟨_, hs, rfl⟩, rfl, _, rfl, iteF q0⟩
      case neg =>
        rw [decide_eq_false l2]
        refine iteF (iteF ⟨.ref a, rfl, .ref a, _, rfl, .inr ⟨xs, hs, rfl⟩, rfl, _, rfl, ?_⟩)
        rw [hl5]
        by_cases l5 : ds.length = 5
        case neg =>
          rw [decide_eq_false l5]
          have e : holdsB pl us (.tuple ds) = false := by
            unfold holdsB
            split
            · rename_i h; injection h with h; rw [h] at l2; exact absurd rfl l2
            · rename_i h; injection h with h; rw [h] at l5; exact absurd rfl l5
            · rfl
          rw [e] at q0
          exact iteF q0
        rw [decide_eq_true l5]
        match ds, l5 with
        | [x, b, th, rg, on], _ =>
        cases ha with
        | cons z1 r =>
        rename_i v1 rest
        have hx := dq_strIs z1 "ring"
        refine iteT ⟨.ref a, rfl, a, _, 0, v1, rfl, rfl, hs, atI_nat (j := 0) rfl, ⟨_, z1⟩, ⟨_, rfl⟩, _, rfl, ?_⟩
        rw [hx]
        have e : holdsB pl us (.tuple [x, b, th, rg, on]) = (strIs "ring" x && ringB pl [x, b, th, rg, on]) := rfl
        rw [e] at q q0
        cases hsx : strIs "ring" x with
        | true =>
          rw [hsx, Bool.true_and] at q
          refine iteT ⟨_, rfl, _, rfl, p, pl, top, many, long, .ref a, [x, b, th, rg, on], rfl, hP, hO, t1, t2, t3, hd0, hz, rfl, fun H1 s1 => ?_⟩
          exact q H1 s1
        | false =>
          rw [hsx, Bool.false_and] at q0
          exact iteF q0
    | _ => exact iteT q0
end
end KP
namespace KP
open PySem PySem.Spec PyProof.Rows L2 EL
open Evl (pss_cut)
abbrev sLCode : Stmt := topS 69
theorem scLCode : FnScope ["_law_w"] ["_law_w"] (defScope sLCode) := ⟨rfl, rfl, rfl, by decide +kernel, rfl, by decide +kernel, by decide +kernel⟩
abbrev sLGain : Stmt := topS 74
theorem scLGain : FnScope ["_law_w", "_law_lot", "_law_k"] ["_law_w", "_law_lot"] (defScope sLGain) := ⟨rfl, rfl, rfl, by decide +kernel, rfl, by decide +kernel, by decide +kernel⟩
abbrev sLSpotBehind : Stmt := topS 75
theorem scLSpotBehind : FnScope ["_law_w", "_law_spot", "_law_lot", "_law_k"] ["_law_w", "_law_spot", "_law_lot"] (defScope sLSpotBehind) := ⟨rfl, rfl, rfl, by decide +kernel, rfl, by decide +kernel, by decide +kernel⟩
/-- a world: the law's own dict of a pacer -/
structure WorldAt (K : PySem.W.Frag) (H : Hp) (p : Addr) (pl : Plan) : Prop where
  at' : ∃ vi vw vo : Addr, H p = some (.dK [(.inr "count", .int (pl.wide : Int)), (.inr "starts", .ref vi), (.inr "goes", .ref vw), (.inr "lasts", .ref vo)]) ∧
    Dq K H (.ref vi) (.tuple (nats pl.ins)) ∧ Dq K H (.ref vw) (.tuple (pl.ways.map mvD)) ∧ Dq K H (.ref vo) (.tuple (nats pl.outs))
theorem WorldAt.up {K : PySem.W.Frag} {H H' : Hp} {p : Addr} {pl : Plan} (h : WorldAt K H p pl) (s : Same H H') : WorldAt K H' p pl := by
  obtain ⟨vi, vw, vo, h1, h2, h3, h4⟩ := h.at'
  exact ⟨vi, vw, vo, s _ _ h1, h2.up s, h3.up s, h4.up s⟩
theorem WorldAt.get {K : PySem.W.Frag} {H : Hp} {p : Addr} {pl : Plan} (h : WorldAt K H p pl) : ∃ vi vw vo : Addr, DGet H p (.str "count") (some (.int (pl.wide : Int))) ∧ DGet H p (.str "starts") (some (.ref vi)) ∧ DGet H p (.str "goes") (some (.ref vw)) ∧ DGet H p (.str "lasts") (some (.ref vo)) ∧
    Dq K H (.ref vi) (.tuple (nats pl.ins)) ∧ Dq K H (.ref vw) (.tuple (pl.ways.map mvD)) ∧ Dq K H (.ref vo) (.tuple (nats pl.outs)) := by
  obtain ⟨vi, vw, vo, h1, h2, h3, h4⟩ := h.at'
  have n1 : ¬ ("count" : Str) = "starts" := by decide +kernel
  have n2 : ¬ ("count" : Str) = "goes" := by decide +kernel
  have n3 : ¬ ("starts" : Str) = "goes" := by decide +kernel
  have n4 : ¬ ("count" : Str) = "lasts" := by decide +kernel
  have n5 : ¬ ("starts" : Str) = "lasts" := by decide +kernel
  have n6 : ¬ ("goes" : Str) = "lasts" := by decide +kernel
  refine ⟨vi, vw, vo, ?_, ?_, ?_, ?_, h2, h3, h4⟩
  · have := DGet.k (k := .inr "count") h1
    simpa [valV, kV] using this
  · have := DGet.k (k := .inr "starts") h1
    simpa [valV, kV, n1] using this
  · have := DGet.k (k := .inr "goes") h1
    simpa [valV, kV, n2, n3] using this
  · have := DGet.k (k := .inr "lasts") h1
    simpa [valV, kV, n4, n5, n6] using this
def spCodeW (K : PySem.W.Frag) (C : Addr) : Sp := fun vs H Q _ => ∃ (p : Addr) (pl : Plan) (top many long : Nat), vs = [.ref p] ∧ WorldAt K H p pl ∧ pl.Ok top many long ∧ top ≤ 50 ∧ many ≤ 50 ∧ long ≤ 50 ∧
  ∀ x H', Same H H' → H x = none → PacAt K C H' x pl → Q (.ref x) H'
def spSpotL (K : PySem.W.Frag) : Sp := fun vs H Q _ => ∃ (p : Addr) (pl : Plan) (top many long : Nat) (s : Nat) (v : V) (d : PyData), vs = [.ref p, .int (s : Int), v] ∧ WorldAt K H p pl ∧ pl.Ok top many long ∧ top ≤ 50 ∧ many ≤ 50 ∧ long ≤ 50 ∧ Dq K H v d ∧ Sz d ∧
  ∀ H', Same H H' → Q (optV (behindD pl s d)) H'
section
variable {P : Program} {w : World} {K : PySem.W.Frag} {mg : Str → Option Value} {base : Heap}
theorem ok_LCode {f C : Addr} {fd : FuncData} {k : Nat} (F : Fun K "_law_code" "_law_code" sLCode f fd) (CC : CalC P w K mg base k C) : FnOk P w K mg base CX0 (k + 2) f fd ["_law_w"] (spCodeW K C) := by
  refine F.ok scLCode (fun vs H Q E h => ?_) (fun cdv A outer s H vs Q E hr1 h => ?_)
  · obtain ⟨p, pl, top, many, long, rfl, _⟩ := h; rfl
  · obtain ⟨p, pl, top, many, long, rfl, hP, hO, h1, h2, h3, kQ⟩ := h
    have hu := hr1.units
    have hu1 : (A.deeper (envOfC "_law_code" (defScope sLCode) s.heap.objs.size f cdv)).units + 1 < cLine := by omega
    refine ⟨_, (pss_one (ps_ret (pe_pac CC hr1 (by rfl) pass0 (pa_cons (pe_dget hu1 (pv 0) pe_str (fun _ _ => rfl)) (pa_cons (pe_dget hu1 (pv 0) pe_str (fun _ _ => rfl)) (pa_cons (pe_dget hu1 (pv 0) pe_str (fun _ _ => rfl)) (pa_cons (pe_dget hu1 (pv 0) pe_str (fun _ _ => rfl)) pa_nil))))))), ?_⟩
    obtain ⟨vi, vw, vo, g1, g2, g3, g4, d1, d2, d3⟩ := hP.get
    refine ⟨_, rfl, p, _, rfl, g1, _, rfl, p, _, rfl, g2, _, rfl, p, _, rfl, g3, _, rfl, p, _, rfl, g4, ?_⟩
    exact ⟨pl, top, many, long, .ref vi, .ref vw, .ref vo, rfl, d1, d2, d3, hO, h1, h2, h3, kQ⟩
theorem ok_LSpotBehind {f : Addr} {fd : FuncData} {k : Nat} (F : Fun K "_law_spot_behind" "_law_spot_behind" sLSpotBehind f fd) (nisinstance : mg "isinstance" = none) (ntuple : mg "tuple" = none) (nint : mg "int" = none) (nbool : mg "bool" = none) (nlen : mg "len" = none) : FnOk P w K mg base CX0 (k + 1) f fd ["_law_w", "_law_spot", "_law_lot"] (spSpotL K) := by
  refine F.ok scLSpotBehind (fun vs H Q E h => ?_) (fun cdv A outer s H vs Q E hr h => ?_)
  · obtain ⟨p, pl, top, many, long, st, v, d, rfl, _⟩ := h; rfl
  · obtain ⟨p, pl, top, many, long, st, v, d, rfl, hP, hO, t1, t2, t3, hd, hz, q⟩ := h
    have hu := hr.units
    have hu1 : (A.deeper (envOfC "_law_spot_behind" (defScope sLSpotBehind) s.heap.objs.size f cdv)).units + 1 < cLine := by omega
    refine ⟨_, (pss_cons (ps_if (pt_not (pt_val (pe_callB (show CallR _ _ (rIsi K) from call_isi) (by rfl) nisinstance (by decide +kernel) (pa_cons (pv 2) (pa_cons (pe_tyN (n := "tuple") ntuple (by decide +kernel)) pa_nil))))) (pss_one (ps_ret pe_non)) pss_nil)
      (pss_cons (ps_for PassesOwn.never rfl (pi_tup (pv 2)) (pg_name (i := 3) scLSpotBehind.nd rfl (by first | exact Or.inl rfl | exact Or.inr rfl)) (pss_cons (ps_if (PW.pt (pw_or (pt_not (pt_val (pe_callB (show CallR _ _ (rIsi K) from call_isi) (by rfl) nisinstance (by decide +kernel) (pa_cons (pv 3) (pa_cons (pe_tyN (n := "int") nint (by decide +kernel)) pa_nil))))) (pw_or (pt_val (pe_callB (show CallR _ _ (rIsi K) from call_isi) (by rfl) nisinstance (by decide +kernel) (pa_cons (pv 3) (pa_cons (pe_tyN (n := "bool") nbool (by decide +kernel)) pa_nil)))) (pw_or1 (pt_not (pt_chain op_le op_lt pe_int (pv 3) (pe_callB (show CallR _ _ (rLenK K) from call_len) (by rfl) nlen (by decide +kernel) (pa_cons (pe_dget hu1 (pv 0) pe_str (fun _ _ => rfl)) pa_nil)))))))) (pss_one (ps_ret pe_non)) pss_nil)
      (pss_cons (ps_if (pt_cmpR op_ne (pe_ix (show IxR _ (rIxT K) from ix_tup) (pe_ix (show IxR _ (rIxT K) from ix_tup) (pe_dget hu1 (pv 0) pe_str (fun _ _ => rfl)) (pv 3) (fun _ _ => rfl)) pe_int (fun _ _ => rfl)) (pv 1) (nomark _)) (pss_one (ps_ret pe_non)) pss_nil)
      (pss_one (ps_set (i := 1) scLSpotBehind.nd rfl (by first | exact Or.inl rfl | exact Or.inr rfl) (pe_ix (show IxR _ (rIxT K) from ix_tup) (pe_ix (show IxR _ (rIxT K) from ix_tup) (pe_dget hu1 (pv 0) pe_str (fun _ _ => rfl)) (pv 3) (fun _ _ => rfl)) pe_int (fun _ _ => rfl)))))))
      (pss_one (ps_ret (pv 1))))), ?_⟩
    refine ⟨v, rfl, v, .ty "tuple", _, _, _, rfl, .ty "tuple", tyx_of hd, kit_ty (kit_tuple d), _, rfl, ?_⟩
    obtain ⟨vi, vw, vo, g1, g2, g3, g4, d1, d2, d3⟩ := hP.get
    obtain ⟨ms, hms, hma⟩ : ∃ ms, SqT K H vw ms ∧ DqAll K H ms (pl.ways.map mvD) := by
      cases d2 with
      | tup w1 w2 => exact ⟨_, w1, w2⟩
    have hml : ms.length = pl.ways.length := by rw [hma.len, List.length_map]
    cases d with
    | tuple ds =>
      cases hd with
      | tup hs ha =>
      rename_i a xs
      refine iteF ?_
      refine ⟨_, rfl, a, rfl, ⟨_, hs⟩, ?_⟩
      refine for_it walk_tup (fun i σ H' => ∃ (y3 : Option V) (s' : Nat), σ = [some (.ref p), some (.int (s' : Int)), some (.ref a), y3] ∧ H' = H ∧ behindL pl st ds = behindL pl s' (ds.drop i))
        ⟨_, st, rfl, rfl, by rw [List.drop_zero]⟩ (fun i σ H' _ z => by obtain ⟨_, _, _, rfl, _⟩ := z; exact hs) ?_ ?_
      · rintro i y σ H9 H2 hi ⟨y3, s', rfl, rfl, hb⟩ ⟨rfl, hy⟩
        obtain ⟨e, ee, he⟩ := ha.at hy
        have hdr : ds.drop i = e :: ds.drop (i + 1) := by
          obtain ⟨hlt, h2⟩ := List.getElem?_eq_some_iff.mp ee
          rw [List.drop_eq_getElem_cons hlt, h2]
        rw [hdr] at hb
        have hb : behindL pl st ds = (ixOk pl s' e).bind fun m => behindL pl m.t (ds.drop (i + 1)) := hb
        have bad : ixOk pl s' e = none → Q .non H2 := fun z => by
          have := q H2 (Same.refl _)
          have e5 : behindD pl st (.tuple ds) = none := by show behindL pl st ds = none; rw [hb, z]; rfl
          rw [e5] at this
          exact this
        refine ⟨y, rfl, y, .ty "int", _, _, _, rfl, .ty "int", tyx_of he, kit_ty (kit_int e), _, rfl, ?_⟩
        cases e with
        | int n =>
          refine iteF ⟨y, rfl, y, .ty "bool", _, _, _, rfl, .ty "bool", tyx_of he, kit_ty (kit_bool (.int n)), _, rfl, iteF ?_⟩
          cases he
          refine ⟨_, rfl, _, _, rfl, rfl, _, rfl, ?_⟩
          by_cases h0 : 0 ≤ n
          case neg =>
            rw [decide_eq_false h0]
            refine iteF ⟨_, rfl, iteT ?_⟩
            exact bad (by rw [ixOk_int, if_neg (fun z => h0 z.1)])
          rw [decide_eq_true h0]
          refine iteT ⟨_, rfl, p, _, rfl, g3, .ref vw, _, rfl, .inr ⟨ms, hms, rfl⟩, _, _, rfl, rfl, _, rfl, ?_⟩
          rw [hml]
          by_cases h1 : n < (pl.ways.length : Int)
          case neg =>
            rw [decide_eq_false h1]
            exact iteT (bad (by rw [ixOk_int, if_neg (fun z => h1 z.2)]))
          rw [decide_eq_true h1]
          obtain ⟨j, rfl⟩ : ∃ j : Nat, n = (j : Int) := ⟨n.toNat, by omega⟩
          obtain ⟨m, hm⟩ : ∃ m, pl.ways[j]? = some m := ⟨_, List.getElem?_eq_getElem (by omega)⟩
          obtain ⟨mv, hmv⟩ : ∃ v, ms[j]? = some v := ⟨_, List.getElem?_eq_getElem (by rw [hml]; omega)⟩
          obtain ⟨dd, hdd, hdq⟩ := hma.at hmv
          rw [List.getElem?_map, hm] at hdd
          cases hdd
          obtain ⟨e, rfl, hab⟩ := dq_mv hdq
          have ik : ixOk pl s' (.int (j : Int)) = if m.s = s' then some m else none := by
            rw [ixOk_int, if_pos ⟨h0, h1⟩, Int.toNat_natCast, hm, Option.bind_some]
          refine iteF ⟨_, rfl, p, _, rfl, g3, .int (j : Int), rfl, vw, ms, (j : Int), .ref e, rfl, rfl, hms, atI_nat hmv, e, _, 0, _, rfl, rfl, hab, atI_nat (j := 0) rfl, _, rfl, rfl, _, rfl, ?_⟩
          have hde : (!decide (V.int (m.s : Int) = V.int (s' : Int))) = decide (¬ m.s = s') := by
            by_cases e : m.s = s'
            · rw [e]; simp
            · have : ¬ (V.int (m.s : Int) = V.int (s' : Int)) := fun z => e (by injection z with z; omega)
              rw [decide_eq_false this, decide_eq_true e]; rfl
          rw [hde]
          by_cases hs' : m.s = s'
          case neg =>
            rw [decide_eq_true hs']
            exact iteT (bad (by rw [ik, if_neg hs']))
          rw [decide_eq_false (not_not_intro hs')]
          rw [if_pos hs'] at ik
          refine iteF ⟨_, rfl, p, _, rfl, g3, .int (j : Int), rfl, vw, ms, (j : Int), .ref e, rfl, rfl, hms, atI_nat hmv, e, _, 3, _, rfl, rfl, hab, atI_nat (j := 3) rfl, ?_⟩
          exact ⟨_, m.t, rfl, rfl, by rw [hb, ik]; rfl⟩
        | bool b =>
          exact iteF ⟨y, rfl, y, .ty "bool", _, _, _, rfl, .ty "bool", tyx_of he, kit_ty (kit_bool (.bool b)), _, rfl, iteT (bad rfl)⟩
        | _ => exact iteT (bad rfl)
      · rintro σ H2 ⟨y3, s', rfl, rfl, hb⟩
        have hl : xs.length = ds.length := ha.len
        rw [hl, List.drop_length] at hb
        have e5 : behindD pl st (.tuple ds) = some s' := hb
        have := q H2 (Same.refl _)
        rw [e5] at this
        exact ⟨_, rfl, this⟩
    | _ =>
      exact iteT (q H (Same.refl H))
end
end KP
namespace KP
open PySem PySem.Spec PyProof.Rows L2 EL
open Evl (pss_cut)
def spGainL (K : PySem.W.Frag) : Sp := fun vs H Q _ => ∃ (p : Addr) (pl : Plan) (top many long : Nat) (v : V) (rs : List PyData), vs = [.ref p, v] ∧ WorldAt K H p pl ∧ pl.Ok top many long ∧ top ≤ 50 ∧ many ≤ 50 ∧ long ≤ 50 ∧ Dq K H v (.tuple rs) ∧ rs.length ≤ 500000 ∧ (∀ d ∈ rs, ∃ (j : Nat) (m : Mv), d = .int (j : Int) ∧ pl.ways[j]? = some m) ∧
  ∀ H', Same H H' → Q (.int (sumG pl rs)) H'
section
variable {P : Program} {w : World} {K : PySem.W.Frag} {mg : Str → Option Value} {base : Heap}
theorem ok_LGain {f : Addr} {fd : FuncData} {k : Nat} (F : Fun K "_law_gain" "_law_gain" sLGain f fd) (nsum : mg "sum" = none) (nlen : mg "len" = none) : FnOk P w K mg base CX0 (k + 1) f fd ["_law_w", "_law_lot"] (spGainL K) := by
  refine F.ok scLGain (fun vs H Q E h => ?_) (fun cdv A outer s H vs Q E hr h => ?_)
  · obtain ⟨p, pl, top, many, long, v, rs, rfl, _⟩ := h; rfl
  · obtain ⟨p, pl, top, many, long, v, rs, rfl, hP, hO, t1, t2, t3, hd, hl, hall, q⟩ := h
    have hu := hr.units
    have hu1 : (A.deeper (envOfC "_law_gain" (defScope sLGain) s.heap.objs.size f cdv)).units + 1 < cLine := by omega
    refine ⟨_, (pss_one (ps_ret (pe_callB (show CallR _ _ (rSum K) from cr_sum rfl) (by rfl) nsum (by decide +kernel) (pa_cons (pe_lc (own := [("_law_k", 2)]) (g := (gName 2)) (by rfl) scLGain.nd (pi_tup (pv 1)) (blkOk_by (own := [("_law_k", 2)]) (N := ["_law_w", "_law_lot", "_law_k"]) (sc := defScope sLGain) (by decide +kernel)) (fun _ _ _ _ _ => (pg_name (i := 2) scLGain.nd rfl (by first | exact Or.inl rfl | exact Or.inr rfl))) (fun _ _ _ _ _ => pts_nil) (fun _ _ _ _ _ => (pe_op op_sub (pe_callB (show CallR _ _ (rLenK K) from call_len) (by rfl) nlen (by decide +kernel) (pa_cons (pe_ix (show IxR _ (rIxT K) from ix_tup) (pe_ix (show IxR _ (rIxT K) from ix_tup) (pe_dget hu1 (pv 0) pe_str (fun _ _ => rfl)) (pv 2) (fun _ _ => rfl)) pe_int (fun _ _ => rfl)) pa_nil)) (pe_callB (show CallR _ _ (rLenK K) from call_len) (by rfl) nlen (by decide +kernel) (pa_cons (pe_ix (show IxR _ (rIxT K) from ix_tup) (pe_ix (show IxR _ (rIxT K) from ix_tup) (pe_dget hu1 (pv 0) pe_str (fun _ _ => rfl)) (pv 2) (fun _ _ => rfl)) pe_int (fun _ _ => rfl)) pa_nil))))) pa_nil)))), ?_⟩
    obtain ⟨vi, vw, vo, g1, g2, g3, g4, d1, d2, d3⟩ := hP.get
    obtain ⟨ms, hms, hma⟩ : ∃ ms, SqT K H vw ms ∧ DqAll K H ms (pl.ways.map mvD) := by
      cases d2 with
      | tup w1 w2 => exact ⟨_, w1, w2⟩
    have hml : ms.length = pl.ways.length := by rw [hma.len, List.length_map]
    obtain ⟨ra, rx, rfl, hrs, hra⟩ : ∃ ra rx, v = .ref ra ∧ SqT K H ra rx ∧ DqAll K H rx rs := by
      cases hd with
      | tup w1 w2 => exact ⟨_, _, rfl, w1, w2⟩
    have lrs : rx.length = rs.length := hra.len
    have get : ∀ {G : Hp}, Same H G → DGet G p (.str "goes") (some (.ref vw)) := fun {G} sm => by
      obtain ⟨ui, uw, uo, _, _, w3, _⟩ := (hP.up sm).get
      obtain ⟨_, _, _, z1, z2, z3, z4⟩ := hP.at'
      have a1 := g3
      rcases g3 with ⟨kvs, k, e, ek, ev⟩ | ⟨kvs, k, b, e, ek, eb, ev⟩
      · refine .inl ⟨kvs, k, ?_, ek, ev⟩
        rcases e with e | ⟨o, e⟩
        · exact .inl (sm _ _ e)
        · exact .inr ⟨o, sm _ _ e⟩
      · cases ek
    refine ⟨_, rfl, ra, rfl, ⟨_, hrs⟩, fun D nD => ?_⟩
    refine it_gen (walk_tup (K := K) (a := ra) (xs := rx)) (fun i H' => H' D = some (.lst (((rs.take i).map (gainI pl)).map V.int)) ∧ Same H H') ⟨upd_same, same_upd nD⟩ (fun i H' _ z => ex_t' z.2 hrs) ?_ ?_
    · rintro i y H9 H4 hi ⟨gD, s4⟩ ⟨rfl, hy⟩
      obtain ⟨e, ee, he⟩ := hra.at hy
      obtain ⟨j, m, rfl, hm⟩ := hall e (List.mem_of_getElem? ee)
      cases he
      obtain ⟨mv, hmv⟩ : ∃ v, ms[j]? = some v := ⟨_, List.getElem?_eq_getElem (by rw [hml]; exact (List.getElem?_eq_some_iff.mp hm).1)⟩
      obtain ⟨dd, hdd, hdq⟩ := hma.at hmv
      rw [List.getElem?_map, hm] at hdd
      cases hdd
      obtain ⟨e, rfl, hab⟩ := dq_mv (hdq.up s4)
      obtain ⟨_, _, m3, m4, _, _⟩ := hO.m m (List.mem_of_getElem? hm)
      have y1 : (⟨m.l.toArray⟩ : Str).length = m.l.length := by rw [str_len]
      have y2 : (⟨m.r.toArray⟩ : Str).length = m.r.length := by rw [str_len]
      refine ⟨rfl, ?_⟩
      dsimp only [tYes]
      refine iteT ⟨_, rfl, p, _, rfl, get s4, .int (j : Int), rfl, vw, ms, (j : Int), .ref e, rfl, rfl, ex_t' s4 hms, atI_nat hmv, e, _, 1, _, rfl, rfl, hab, atI_nat (j := 1) rfl, _, _, rfl, ⟨len_sz (by omega), rfl⟩, _, rfl, p, _, rfl, get s4, .int (j : Int), rfl, vw, ms, (j : Int), .ref e, rfl, rfl, ex_t' s4 hms, atI_nat hmv, e, _, 2, _, rfl, rfl, hab, atI_nat (j := 2) rfl, _, _, rfl, ⟨len_sz (by omega), rfl⟩, _, _, rfl, rfl, _, gD, lt_sz (by simp; omega), ?_, ?_⟩
      · have hg : gainI pl (.int (j : Int)) = m.gain := by
          show ((pl.ways[((j : Int)).toNat]?).map Mv.gain).getD 0 = _
          rw [Int.toNat_natCast, hm]; rfl
        rw [upd_same, take_more ee, y1, y2]
        simp only [List.map_append, List.map_cons, List.map_nil, hg]
        rfl
      · exact fun x o h => by rw [upd_ne (ne_of_none h nD)]; exact s4 _ _ h
    rintro H4 ⟨gD, s4⟩
    rw [lrs, List.take_length] at gD
    exact ⟨D, rs.map (gainI pl), rfl, sqOf gD, q H4 s4⟩
end
end KP
namespace KP
open PySem PySem.Spec PyProof.Rows L2 EL
open Evl (pss_cut)
abbrev sLUsed : Stmt := topS 70
theorem scLUsed : FnScope ["_law_w", "_law_ahead", "_law_backs", "_law_go", "_law_near", "_law_x", "_law_y", "_law_far", "_law_spot"] ["_law_w"] (defScope sLUsed) := ⟨rfl, rfl, rfl, by decide +kernel, rfl, by decide +kernel, by decide +kernel⟩
def ShutE (es : Edges) (S : List Nat) : Prop := ∀ e ∈ es, e.1 ∈ S → e.2 ∈ S
def cntS (n : Nat) (S : List Nat) : Nat := ((List.range n).filter fun s => decide (s ∉ S)).length
theorem cntS_le (n : Nat) (S : List Nat) : cntS n S ≤ n := by
  have := List.length_filter_le (fun s => decide (s ∉ S)) (List.range n)
  rw [List.length_range] at this
  exact this
theorem cntS_zero {n : Nat} {S : List Nat} {es : Edges} (hes : ∀ e ∈ es, e.2 < n) (h : cntS n S = 0) : ShutE es S := fun e he _ => by
  unfold cntS at h
  have h0 := List.eq_nil_of_length_eq_zero h
  by_cases q : e.2 ∈ S
  · exact q
  · have : e.2 ∈ (List.range n).filter fun s => decide (s ∉ S) := List.mem_filter.mpr ⟨List.mem_range.mpr (hes e he), by simpa using q⟩
    rw [h0] at this
    cases this
theorem cntS_less {n : Nat} {S S' : List Nat} {es : Edges} (hes : ∀ e ∈ es, e.2 < n) (sub : ∀ s ∈ S, s ∈ S') (al : ∀ e ∈ es, e.1 ∈ S → e.2 ∈ S') (ns : ¬ ShutE es S) : cntS n S' < cntS n S := by
  unfold cntS
  refine filter_lt (fun m _ h => ?_) ?_
  · have h : m ∉ S' := by simpa using h
    have : m ∉ S := fun z => h (sub _ z)
    simpa using this
  · refine Classical.byContradiction fun z => ns fun e he ht => ?_
    refine Classical.byContradiction fun q => z ⟨e.2, List.mem_range.mpr (hes e he), by simpa using q, by simpa using al e he ht⟩
/-- one of the two searches, between rounds -/
structure SeaO (es : Edges) (ss : List Nat) (n i : Nat) (S : List Nat) : Prop where
  st : ∀ s ∈ ss, s ∈ S
  re : ∀ s ∈ S, GR es ss s
  go : ShutE es S ∨ cntS n S + i ≤ n
/-- .. within a round: es the moves gone through -/
structure SeaI (es dn : Edges) (ss S0 S : List Nat) : Prop where
  sub : ∀ s ∈ S0, s ∈ S
  re : ∀ s ∈ S, GR es ss s
  al : ∀ e ∈ dn, e.1 ∈ S0 → e.2 ∈ S
  same : ShutE es S0 → S = S0
theorem SeaI.old {es dn : Edges} {ss S0 S : List Nat} {e : Nat × Nat} (h : SeaI es dn ss S0 S) (n : ¬ (e.1 ∈ S ∧ e.2 ∉ S)) : SeaI es (dn ++ [e]) ss S0 S :=
  ⟨h.sub, h.re, fun x hx h0 => by
    rcases List.mem_append.mp hx with z | z
    · exact h.al x z h0
    · rw [List.mem_singleton.mp z] at h0 ⊢
      exact Classical.byContradiction fun q => n ⟨h.sub _ h0, q⟩, h.same⟩
theorem SeaI.new {es dn : Edges} {ss S0 S : List Nat} {e : Nat × Nat} (h : SeaI es dn ss S0 S) (he : e ∈ es) (h1 : e.1 ∈ S) (h2 : e.2 ∉ S) : SeaI es (dn ++ [e]) ss S0 (S ++ [e.2]) :=
  ⟨fun s hs => List.mem_append_left _ (h.sub s hs), fun s hs => by
    rcases List.mem_append.mp hs with z | z
    · exact h.re s z
    · rw [List.mem_singleton.mp z]; exact .step (h.re _ h1) he, fun x hx h0 => by
    rcases List.mem_append.mp hx with z | z
    · exact List.mem_append_left _ (h.al x z h0)
    · rw [List.mem_singleton.mp z]; exact List.mem_append_right _ List.mem_cons_self, fun z => by
    have e0 := h.same z
    rw [e0] at h1 h2
    exact absurd (z e he h1) h2⟩
theorem SeaI.fin {es : Edges} {ss S0 S : List Nat} {n i : Nat} (hes : ∀ e ∈ es, e.2 < n) (o : SeaO es ss n i S0) (h : SeaI es es ss S0 S) : SeaO es ss n (i + 1) S := by
  refine ⟨fun s hs => h.sub s (o.st s hs), h.re, ?_⟩
  by_cases z : ShutE es S0
  · rw [h.same z]; exact .inl z
  · rcases o.go with g | g
    · exact absurd g z
    · have := cntS_less hes h.sub h.al z
      exact .inr (by omega)
theorem SeaO.done {es : Edges} {ss S : List Nat} {n : Nat} (hes : ∀ e ∈ es, e.2 < n) (o : SeaO es ss n n S) (s : Nat) : s ∈ S ↔ GR es ss s := by
  have shut : ShutE es S := by
    rcases o.go with g | g
    · exact g
    · exact cntS_zero hes (by omega)
  refine ⟨o.re s, fun h => ?_⟩
  induction h with
  | base h => exact o.st _ h
  | step _ he ih => exact shut _ he ih
theorem inI_mem (x : Nat) (S : List Nat) : inI (x : Int) S = decide (x ∈ S) := by
  unfold inI
  rw [Bool.eq_iff_iff, List.any_eq_true, decide_eq_true_eq]
  constructor
  · rintro ⟨y, hy, e⟩
    have : (y : Int) = (x : Int) := by simpa using e
    have : y = x := by omega
    exact this ▸ hy
  · intro h
    exact ⟨x, h, by simp⟩
theorem in_F (x : Nat) (S : List Nat) : (if false = true then !inV (.int (x : Int)) (ixs S) else inV (.int (x : Int)) (ixs S)) = decide (x ∈ S) := by rw [if_neg (by decide), inV_int, inI_mem]
theorem in_T (x : Nat) (S : List Nat) : (if true = true then !inV (.int (x : Int)) (ixs S) else inV (.int (x : Int)) (ixs S)) = decide (x ∉ S) := by rw [if_pos rfl, inV_int, inI_mem]; simp
theorem ixs_snoc (S : List Nat) (x : Nat) : ixs S ++ [V.int (x : Int)] = ixs (S ++ [x]) := by unfold ixs; rw [List.map_append]; rfl
theorem dget_up {H G : Hp} {p : Addr} {x : Str} {v : Option V} (g : DGet H p (.str x) v) (sm : Same H G) : DGet G p (.str x) v := by
  rcases g with ⟨kvs, k, e, ek, ev⟩ | ⟨kvs, k, b, e, ek, eb, ev⟩
  · refine .inl ⟨kvs, k, ?_, ek, ev⟩
    rcases e with e | ⟨o, e⟩
    · exact .inl (sm _ _ e)
    · exact .inr ⟨o, sm _ _ e⟩
  · cases ek
def spUsedL (K : PySem.W.Frag) : Sp := fun vs H Q _ => ∃ (p : Addr) (pl : Plan) (top many long : Nat) (us : List Nat), vs = [.ref p] ∧ WorldAt K H p pl ∧ pl.Ok top many long ∧ top ≤ 50 ∧ many ≤ 50 ∧ long ≤ 50 ∧ UsefulL pl us ∧
  ∀ l H', Same H H' → H l = none → H' l = some (.lst (ixs us)) → Q (.ref l) H'
section
variable {P : Program} {w : World} {K : PySem.W.Frag} {mg : Str → Option Value} {base : Heap}
theorem ok_LUsed {f : Addr} {fd : FuncData} {k : Nat} (F : Fun K "_law_used" "_law_used" sLUsed f fd) (nlist : mg "list" = none) (nrange : mg "range" = none) : FnOk P w K mg base CX0 (k + 1) f fd ["_law_w"] (spUsedL K) := by
  refine F.ok scLUsed (fun vs H Q E h => ?_) (fun cdv A outer s H vs Q E hr h => ?_)
  · obtain ⟨p, pl, top, many, long, us, rfl, _⟩ := h; rfl
  · obtain ⟨p, pl, top, many, long, us, rfl, hP, hO, t1, t2, t3, U, kQ⟩ := h
    have hu := hr.units
    have hu1 : (A.deeper (envOfC "_law_used" (defScope sLUsed) s.heap.objs.size f cdv)).units + 1 < cLine := by omega
    refine ⟨_, (pss_cons (ps_asg (pe_tup (pa_cons (pe_callTy call_list_of (by rfl) nlist (by decide +kernel) (pa_cons (pe_dget hu1 (pv 0) pe_str (fun _ _ => rfl)) pa_nil)) (pa_cons (pe_callTy call_list_of (by rfl) nlist (by decide +kernel) (pa_cons (pe_dget hu1 (pv 0) pe_str (fun _ _ => rfl)) pa_nil)) pa_nil))) (pg_tup (by rfl) (pgs_cons (pg_name (i := 1) scLUsed.nd rfl (by first | exact Or.inl rfl | exact Or.inr rfl)) (pgs_cons (pg_name (i := 2) scLUsed.nd rfl (by first | exact Or.inl rfl | exact Or.inr rfl)) pgs_nil))))
      (pss_cons (ps_for PassesOwn.never rfl (pi_range1 rfl nrange (pa_cons (pe_dget hu1 (pv 0) pe_str (fun _ _ => rfl)) pa_nil)) (pg_name (i := 3) scLUsed.nd rfl (by first | exact Or.inl rfl | exact Or.inr rfl)) (pss_one (ps_for PassesOwn.never rfl (pi_tup (pe_dget hu1 (pv 0) pe_str (fun _ _ => rfl))) (pg_tup (by rfl) (pgs_cons (pg_name (i := 4) scLUsed.nd rfl (by first | exact Or.inl rfl | exact Or.inr rfl)) (pgs_cons (pg_name (i := 5) scLUsed.nd rfl (by first | exact Or.inl rfl | exact Or.inr rfl)) (pgs_cons (pg_name (i := 6) scLUsed.nd rfl (by first | exact Or.inl rfl | exact Or.inr rfl)) (pgs_cons (pg_name (i := 7) scLUsed.nd rfl (by first | exact Or.inl rfl | exact Or.inr rfl)) pgs_nil))))) (pss_cut (ps_if (PW.pt (pw_and (pt_cmpR op_in_seq (pv 4) (pv 1) (by rfl)) (pw_and1 (pt_cmpR op_notIn_seq (pv 7) (pv 1) (by rfl))))) (pss_one (ps_expr (pe_bm PySem.F.plainAttrs_list PySem.F.slot_list_append PySem.F.type_list_append mt_append (pv 1) (pa_cons (pv 7) pa_nil)))) pss_nil)
      (pss_one (ps_if (PW.pt (pw_and (pt_cmpR op_in_seq (pv 7) (pv 2) (by rfl)) (pw_and1 (pt_cmpR op_notIn_seq (pv 4) (pv 2) (by rfl))))) (pss_one (ps_expr (pe_bm PySem.F.plainAttrs_list PySem.F.slot_list_append PySem.F.type_list_append mt_append (pv 2) (pa_cons (pv 4) pa_nil)))) pss_nil))))))
      (pss_one (ps_ret (pe_lc (own := [("_law_spot", 8)]) (g := (gName 8)) (by rfl) scLUsed.nd (pi_range1 rfl nrange (pa_cons (pe_dget hu1 (pv 0) pe_str (fun _ _ => rfl)) pa_nil)) (blkOk_by (own := [("_law_spot", 8)]) (N := ["_law_w", "_law_ahead", "_law_backs", "_law_go", "_law_near", "_law_x", "_law_y", "_law_far", "_law_spot"]) (sc := defScope sLUsed) (by decide +kernel)) (fun _ _ _ _ _ => (pg_name (i := 8) scLUsed.nd rfl (by first | exact Or.inl rfl | exact Or.inr rfl))) (fun _ _ _ _ _ => (pts_one (PW.pt (pw_and (pt_cmpR (show OpR _ _ (rIn K false) from op_in_seq) (pv 8) (pv 1) (by rfl)) (pw_and1 (pt_cmpR (show OpR _ _ (rIn K false) from op_in_seq) (pv 8) (pv 2) (by rfl))))))) (fun _ _ _ _ _ => (pv 8))))))), ?_⟩
    obtain ⟨vi, vw, vo, g1, g2, g3, g4, d1, d2, d3⟩ := hP.get
    have two : 2 ≤ sizeLine := by decide
    obtain ⟨ms, hms, hma⟩ : ∃ ms, SqT K H vw ms ∧ DqAll K H ms (pl.ways.map mvD) := by
      cases d2 with
      | tup w1 w2 => exact ⟨_, w1, w2⟩
    obtain ⟨is, his, hia⟩ : ∃ is, SqT K H vi is ∧ DqAll K H is (nats pl.ins) := by
      cases d1 with
      | tup w1 w2 => exact ⟨_, w1, w2⟩
    obtain rfl := dqAll_nats hia
    obtain ⟨os, hos, hoa⟩ : ∃ os, SqT K H vo os ∧ DqAll K H os (nats pl.outs) := by
      cases d3 with
      | tup w1 w2 => exact ⟨_, w1, w2⟩
    obtain rfl := dqAll_nats hoa
    have hml : ms.length = pl.ways.length := by rw [hma.len, List.length_map]
    have hn := hO.n
    have hw2 := hO.w2
    have li := asc_len hO.i
    have lo := asc_len hO.o
    refine ⟨_, rfl, p, _, rfl, g2, vi, _, rfl, .inr his, fun LA nA => ?_⟩
    have sA : Same H (upd H LA (.lst (pl.ins.map fun n : Nat => V.int (n : Int)))) := same_upd nA
    have gA : upd H LA (.lst (pl.ins.map fun n : Nat => V.int (n : Int))) LA = some (.lst (ixs pl.ins)) := upd_same
    generalize upd H LA (.lst (pl.ins.map fun n : Nat => V.int (n : Int))) = H1 at sA gA ⊢
    refine ⟨_, rfl, p, _, rfl, dget_up g4 sA, vo, _, rfl, .inr (ex_t' sA hos), fun LB nB => ?_⟩
    have sB : Same H1 (upd H1 LB (.lst (pl.outs.map fun n : Nat => V.int (n : Int)))) := same_upd nB
    have gB : upd H1 LB (.lst (pl.outs.map fun n : Nat => V.int (n : Int))) LB = some (.lst (ixs pl.outs)) := upd_same
    have nBH : H LB = none := sA.free nB
    have nAB : LA ≠ LB := ne_of_none gA nB
    generalize upd H1 LB (.lst (pl.outs.map fun n : Nat => V.int (n : Int))) = H2 at sB gB ⊢
    refine ⟨two, fun T nT => ?_⟩
    have sT : Same H2 (upd H2 T (.tup [.ref LA, .ref LB])) := same_upd nT
    have gT : upd H2 T (.tup [.ref LA, .ref LB]) T = some (.tup [.ref LA, .ref LB]) := upd_same
    generalize upd H2 T (.tup [.ref LA, .ref LB]) = H3 at sT gT ⊢
    refine ⟨T, _, rfl, stOf gT, rfl, _, _, rfl, _, _, rfl, rfl, ?_⟩
    have s3 : Same H H3 := (sA.trans sB).trans sT
    have hes : ∀ e ∈ useE pl, e.2 < pl.wide := fun e he => by
      obtain ⟨m, hm, rfl⟩ := List.mem_map.mp he
      exact (hO.m m hm).2.1
    have hfs : ∀ e ∈ flipE (useE pl), e.2 < pl.wide := fun e he => by
      unfold flipE useE at he
      rw [List.map_map] at he
      obtain ⟨m, hm, rfl⟩ := List.mem_map.mp he
      exact (hO.m m hm).1
    refine ⟨_, rfl, p, _, rfl, dget_up g1 s3, ?_⟩
    refine ⟨(pl.wide : Int), rfl, by omega, by omega, ?_⟩
    rw [show ((pl.wide : Int)).toNat = pl.wide from Int.toNat_natCast _]
    have hmul : pl.wide * pl.ways.length ≤ 2500 := Nat.mul_le_mul (by omega : pl.wide ≤ 50) (by omega : pl.ways.length ≤ 50)
    refine for_it (walk_range (n := pl.wide)) (fun i σ H' => ∃ (X Y : List Nat) (y3 y4 y5 y6 y7 : Option V), σ = [some (.ref p), some (.ref LA), some (.ref LB), y3, y4, y5, y6, y7, none] ∧ Same H H' ∧ H' LA = some (.lst (ixs X)) ∧ H' LB = some (.lst (ixs Y)) ∧ SeaO (useE pl) pl.ins pl.wide i X ∧ SeaO (flipE (useE pl)) pl.outs pl.wide i Y ∧ X.length ≤ 50 + i * pl.ways.length ∧ Y.length ≤ 50 + i * pl.ways.length)
      ⟨_, _, _, _, _, _, _, rfl, s3, sT _ _ (sB _ _ gA), sT _ _ gB, ⟨fun s h => h, fun s h => .base h, .inr (by have := cntS_le pl.wide pl.ins; omega)⟩, ⟨fun s h => h, fun s h => .base h, .inr (by have := cntS_le pl.wide pl.outs; omega)⟩, by omega, by omega⟩ (fun _ _ _ _ _ => trivial) ?_ ?_
    · rintro i y σ H9 H4 hi ⟨X0, Y0, y3, y4, y5, y6, y7, rfl, s4, gA4, gB4, oX, oY, lX, lY⟩ ⟨rfl, rfl⟩
      have hmi : (i + 1) * pl.ways.length ≤ 2500 := Nat.mul_le_mul (by omega : i + 1 ≤ 50) (by omega : pl.ways.length ≤ 50)
      rw [Nat.add_mul, Nat.one_mul] at hmi
      refine ⟨_, rfl, p, _, rfl, dget_up g3 s4, vw, rfl, ⟨_, ex_t' s4 hms⟩, ?_⟩
      refine for_it walk_tup (fun j σ H' => ∃ (X Y : List Nat) (y3 y4 y5 y6 y7 : Option V), σ = [some (.ref p), some (.ref LA), some (.ref LB), y3, y4, y5, y6, y7, none] ∧ Same H H' ∧ H' LA = some (.lst (ixs X)) ∧ H' LB = some (.lst (ixs Y)) ∧ SeaI (useE pl) ((useE pl).take j) pl.ins X0 X ∧ SeaI (flipE (useE pl)) ((flipE (useE pl)).take j) pl.outs Y0 Y ∧ X.length ≤ 50 + i * pl.ways.length + j ∧ Y.length ≤ 50 + i * pl.ways.length + j)
        ⟨X0, Y0, _, _, _, _, _, rfl, s4, gA4, gB4, ⟨fun s h => h, oX.re, (fun e he => by rw [List.take_zero] at he; cases he), fun _ => rfl⟩, ⟨fun s h => h, oY.re, (fun e he => by rw [List.take_zero] at he; cases he), fun _ => rfl⟩, by omega, by omega⟩ (fun j σ H' _ z => by obtain ⟨_, _, _, _, _, _, _, _, sm, _⟩ := z; exact ex_t' sm hms) ?_ ?_
      · rintro j v σ H9 H5 hj ⟨X, Y, y3, y4, y5, y6, y7, rfl, s5, gA5, gB5, iX, iY, kX, kY⟩ ⟨rfl, hv⟩
        obtain ⟨dd, hdd, hdq⟩ := hma.at hv
        obtain ⟨m, hm, rfl⟩ := mv_get hdd
        obtain ⟨e, rfl, hab⟩ := dq_mv (hdq.up s5)
        have hmem := List.mem_of_getElem? hm
        have t1' : (useE pl).take (j + 1) = (useE pl).take j ++ [(m.s, m.t)] := take_more (by unfold useE; rw [List.getElem?_map, hm]; rfl)
        have t2' : (flipE (useE pl)).take (j + 1) = (flipE (useE pl)).take j ++ [(m.t, m.s)] := take_more (by unfold flipE useE; rw [List.map_map, List.getElem?_map, hm]; rfl)
        have e1 : (m.s, m.t) ∈ useE pl := List.mem_map.mpr ⟨m, hmem, rfl⟩
        have e2 : (m.t, m.s) ∈ flipE (useE pl) := List.mem_map.mpr ⟨(m.s, m.t), e1, rfl⟩
        rw [hml] at hj
        refine ⟨e, _, rfl, hab, rfl, _, _, rfl, _, _, rfl, _, _, rfl, _, _, rfl, rfl, ?_⟩
        refine ⟨fun σ' H' => ∃ X', σ' = [some (.ref p), some (.ref LA), some (.ref LB), y3, some (.int (m.s : Int)), some (.str ⟨m.l.toArray⟩), some (.str ⟨m.r.toArray⟩), some (.int (m.t : Int)), none] ∧ Same H H' ∧ H' LA = some (.lst (ixs X')) ∧ H' LB = some (.lst (ixs Y)) ∧ SeaI (useE pl) ((useE pl).take (j + 1)) pl.ins X0 X' ∧ X'.length ≤ 50 + i * pl.ways.length + (j + 1), ?_, ?_⟩
        · refine ⟨_, rfl, _, rfl, LA, _, rfl, .inl (sqOf gA5), rfl, flat_ixs _, _, rfl, ?_⟩
          rw [in_F]
          by_cases h1 : m.s ∈ X
          · rw [decide_eq_true h1]
            refine iteT ⟨_, rfl, _, rfl, LA, _, rfl, .inl (sqOf gA5), rfl, flat_ixs _, _, rfl, ?_⟩
            rw [in_T]
            by_cases h2 : m.t ∈ X
            · rw [decide_eq_false (not_not_intro h2)]
              exact iteF ⟨X, rfl, s5, gA5, gB5, by rw [t1']; exact iX.old (fun z => z.2 h2), by omega⟩
            · rw [decide_eq_true h2]
              refine iteT ⟨.ref LA, rfl, .inl ⟨rfl, _, sqOf gA5⟩, _, rfl, LA, _, _, rfl, rfl, gA5, lt_sz (by rw [List.length_map]; omega), X ++ [m.t], rfl, fun x o h => by rw [upd_ne (ne_of_none h nA)]; exact s5 _ _ h, by rw [upd_same, ixs_snoc], by rw [upd_ne nAB.symm]; exact gB5, by rw [t1']; exact iX.new e1 h1 h2, by rw [List.length_append]; show _ + 1 ≤ _; omega⟩
          · rw [decide_eq_false h1]
            exact iteF (iteF ⟨X, rfl, s5, gA5, gB5, by rw [t1']; exact iX.old (fun z => h1 z.1), by omega⟩)
        · rintro σ' H6 ⟨X', rfl, s6, gA6, gB6, iX', kX'⟩
          refine ⟨_, rfl, _, rfl, LB, _, rfl, .inl (sqOf gB6), rfl, flat_ixs _, _, rfl, ?_⟩
          rw [in_F]
          by_cases h1 : m.t ∈ Y
          · rw [decide_eq_true h1]
            refine iteT ⟨_, rfl, _, rfl, LB, _, rfl, .inl (sqOf gB6), rfl, flat_ixs _, _, rfl, ?_⟩
            rw [in_T]
            by_cases h2 : m.s ∈ Y
            · rw [decide_eq_false (not_not_intro h2)]
              exact iteF ⟨X', Y, _, _, _, _, _, rfl, s6, gA6, gB6, iX', by rw [t2']; exact iY.old (fun z => z.2 h2), kX', by omega⟩
            · rw [decide_eq_true h2]
              refine iteT ⟨.ref LB, rfl, .inl ⟨rfl, _, sqOf gB6⟩, _, rfl, LB, _, _, rfl, rfl, gB6, lt_sz (by rw [List.length_map]; omega), X', Y ++ [m.s], _, _, _, _, _, rfl, fun x o h => by rw [upd_ne (ne_of_none h nBH)]; exact s6 _ _ h, by rw [upd_ne nAB]; exact gA6, by rw [upd_same, ixs_snoc], iX', by rw [t2']; exact iY.new e2 h1 h2, kX', by rw [List.length_append]; show _ + 1 ≤ _; omega⟩
          · rw [decide_eq_false h1]
            exact iteF (iteF ⟨X', Y, _, _, _, _, _, rfl, s6, gA6, gB6, iX', by rw [t2']; exact iY.old (fun z => h1 z.1), kX', by omega⟩)
      · rintro σ H5 ⟨X, Y, y3, y4, y5, y6, y7, rfl, s5, gA5, gB5, iX, iY, kX, kY⟩
        rw [hml] at iX iY kX kY
        have f1 : (useE pl).take pl.ways.length = useE pl := by rw [List.take_of_length_le]; unfold useE; rw [List.length_map]; exact Nat.le_refl _
        have f2 : (flipE (useE pl)).take pl.ways.length = flipE (useE pl) := by rw [List.take_of_length_le]; unfold flipE useE; rw [List.length_map, List.length_map]; exact Nat.le_refl _
        rw [f1] at iX
        rw [f2] at iY
        refine ⟨X, Y, _, _, _, _, _, rfl, s5, gA5, gB5, iX.fin hes oX, iY.fin hfs oY, ?_, ?_⟩
        · rw [Nat.add_mul, Nat.one_mul, ← Nat.add_assoc]; exact kX
        · rw [Nat.add_mul, Nat.one_mul, ← Nat.add_assoc]; exact kY
    · rintro σ H5 ⟨X, Y, y3, y4, y5, y6, y7, rfl, s5, gA5, gB5, oX, oY, lX, lY⟩
      have mem : ∀ x : Nat, (x ∈ X ∧ x ∈ Y) ↔ x ∈ us := fun x => by rw [oX.done hes, oY.done hfs, U.me]
      refine ⟨_, rfl, p, _, rfl, dget_up g1 s5, (pl.wide : Int), rfl, by omega, by omega, fun D nD => ?_⟩
      rw [show ((pl.wide : Int)).toNat = pl.wide from Int.toNat_natCast _]
      refine it_gen (walk_range (n := pl.wide)) (fun i H' => H' D = some (.lst (ixs ((List.range i).filter fun x => decide (x ∈ us)))) ∧ Same H5 H') ⟨upd_same, same_upd nD⟩ (fun _ _ _ _ => trivial) ?_ ?_
      · rintro i y H9 H6 hi ⟨gD, sm⟩ ⟨rfl, rfl⟩
        show gName 8 (V.int (0 + (i : Int))) _ _ _
        rw [Int.zero_add]
        have rs : (List.range (i + 1)).filter (fun x => decide (x ∈ us)) = (List.range i).filter (fun x => decide (x ∈ us)) ++ (if i ∈ us then [i] else []) := by
          rw [List.range_succ, List.filter_append]
          by_cases h : i ∈ us <;> simp [h]
        have ln : (ixs ((List.range i).filter fun x => decide (x ∈ us))).length ≤ i := by
          unfold ixs
          rw [List.length_map]
          have := List.length_filter_le (fun x => decide (x ∈ us)) (List.range i)
          rw [List.length_range] at this
          exact this
        have no : ¬ i ∈ us → H6 D = some (.lst (ixs ((List.range (i + 1)).filter fun x => decide (x ∈ us)))) ∧ Same H5 H6 := fun h => by
          rw [rs, if_neg h, List.append_nil]; exact ⟨gD, sm⟩
        refine ⟨rfl, _, rfl, _, rfl, LA, _, rfl, .inl (sqOf (sm _ _ gA5)), rfl, flat_ixs _, _, rfl, ?_⟩
        rw [in_F]
        by_cases h1 : i ∈ X
        · rw [decide_eq_true h1]
          refine iteT ⟨_, rfl, _, rfl, LB, _, rfl, .inl (sqOf (sm _ _ gB5)), rfl, flat_ixs _, _, rfl, ?_⟩
          rw [in_F]
          by_cases h2 : i ∈ Y
          · rw [decide_eq_true h2]
            refine iteT ⟨_, rfl, _, gD, lt_sz (by omega), ?_, ?_⟩
            · rw [upd_same, rs, if_pos ((mem i).mp ⟨h1, h2⟩), ← ixs_snoc]
            · exact fun x o h => by rw [upd_ne (ne_of_none h nD)]; exact sm _ _ h
          · rw [decide_eq_false h2]
            exact iteF (no fun z => h2 ((mem i).mpr z).2)
        · rw [decide_eq_false h1]
          exact iteF (iteF (no fun z => h1 ((mem i).mpr z).1))
      rintro H6 ⟨gD, sm⟩
      have e : (List.range pl.wide).filter (fun x => decide (x ∈ us)) = us := asc_ext (List.Pairwise.sublist List.filter_sublist List.pairwise_lt_range) U.as fun x => by
        rw [List.mem_filter, List.mem_range, decide_eq_true_eq]
        exact ⟨fun z => z.2, fun z => ⟨useful_lt hO U x z, z⟩⟩
      rw [e] at gD
      exact kQ D H6 (s5.trans sm) (s5.free nD) gD
end
end KP
/-! a ring with a gain: a short one; bounds that hold: none -/
namespace KP
open PySem PySem.Spec PyProof.Rows L2 EL
theorem goes_cons {pl : Plan} {s i t : Nat} {is : List Nat} : goesTo pl s (i :: is) = some t ↔ ∃ m, pl.ways[i]? = some m ∧ m.s = s ∧ goesTo pl m.t is = some t := by
  show ((pl.ways[i]?).bind fun m => if m.s = s then goesTo pl m.t is else none) = some t ↔ _
  cases h : pl.ways[i]? with
  | none => simp
  | some m =>
    rw [Option.bind_some]
    by_cases e : m.s = s
    · rw [if_pos e]; exact ⟨fun z => ⟨m, rfl, e, z⟩, fun ⟨m', h1, _, h3⟩ => by cases h1; exact h3⟩
    · rw [if_neg e]; exact ⟨fun z => (by cases z), fun ⟨m', h1, h2, _⟩ => by cases h1; exact absurd h2 e⟩
theorem goes_app {pl : Plan} : ∀ {a b : List Nat} {s t : Nat}, goesTo pl s (a ++ b) = some t ↔ ∃ u, goesTo pl s a = some u ∧ goesTo pl u b = some t
  | [], b, s, t => ⟨fun h => ⟨s, rfl, h⟩, fun ⟨u, h1, h2⟩ => (by cases h1; exact h2)⟩
  | i :: a, b, s, t => by
    rw [List.cons_append, goes_cons]
    constructor
    · rintro ⟨m, h1, h2, h3⟩
      obtain ⟨u, h4, h5⟩ := goes_app.mp h3
      exact ⟨u, goes_cons.mpr ⟨m, h1, h2, h4⟩, h5⟩
    · rintro ⟨u, h1, h2⟩
      obtain ⟨m, h3, h4, h5⟩ := goes_cons.mp h1
      exact ⟨m, h3, h4, goes_app.mpr ⟨u, h5, h2⟩⟩
theorem gsum_app (pl : Plan) : ∀ a b : List Nat, gsum pl (a ++ b) = gsum pl a + gsum pl b
  | [], b => by show gsum pl b = 0 + _; omega
  | i :: a, b => by
    show _ + gsum pl (a ++ b) = _ + gsum pl a + _
    rw [gsum_app pl a b]; omega
theorem goes_gr {pl : Plan} {ss : List Nat} : ∀ {a : List Nat} {s t : Nat}, goesTo pl s a = some t → GR (useE pl) ss s → GR (useE pl) ss t
  | [], _, _, h, g => by cases h; exact g
  | i :: a, s, t, h, g => by
    obtain ⟨m, h1, rfl, h3⟩ := goes_cons.mp h
    exact goes_gr h3 (.step g (List.mem_map.mpr ⟨m, List.mem_of_getElem? h1, rfl⟩))
theorem goes_rg {pl : Plan} {ss : List Nat} : ∀ {a : List Nat} {s t : Nat}, goesTo pl s a = some t → GR (flipE (useE pl)) ss t → GR (flipE (useE pl)) ss s
  | [], _, _, h, g => by cases h; exact g
  | i :: a, s, t, h, g => by
    obtain ⟨m, h1, rfl, h3⟩ := goes_cons.mp h
    exact .step (goes_rg h3 g) (List.mem_map.mpr ⟨(m.s, m.t), List.mem_map.mpr ⟨m, List.mem_of_getElem? h1, rfl⟩, rfl⟩)
theorem nodup_sub : ∀ {l us : List Nat}, l.Nodup → (∀ x ∈ l, x ∈ us) → l.length ≤ us.length
  | [], _, _, _ => Nat.zero_le _
  | x :: r, us, nd, h => by
    rw [List.nodup_cons] at nd
    have hx := h x List.mem_cons_self
    have := nodup_sub (l := r) (us := us.erase x) nd.2 fun y hy => (List.mem_erase_of_ne (fun e : y = x => nd.1 (e ▸ hy))).mpr (h y (List.mem_cons_of_mem _ hy))
    rw [List.length_erase_of_mem hx] at this
    have := List.length_pos_of_mem hx
    rw [List.length_cons]; omega
theorem dup_of {l : List Nat} (h : ¬ l.Nodup) : ∃ (i j x : Nat), i < j ∧ l[i]? = some x ∧ l[j]? = some x := by
  refine Classical.byContradiction fun no => h ?_
  unfold List.Nodup
  rw [List.pairwise_iff_getElem]
  intro i j hi hj lt e
  exact no ⟨i, j, l[i], lt, List.getElem?_eq_getElem hi, by rw [e]; exact List.getElem?_eq_getElem hj⟩
/-- where the first k moves lead -/
def stAt (pl : Plan) (s : Nat) (is : List Nat) (k : Nat) : Nat := (goesTo pl s (is.take k)).getD 0
theorem stAt_eq {pl : Plan} {s t : Nat} {is : List Nat} (h : goesTo pl s is = some t) (k : Nat) : goesTo pl s (is.take k) = some (stAt pl s is k) ∧ goesTo pl (stAt pl s is k) (is.drop k) = some t := by
  rw [← List.take_append_drop k is] at h
  obtain ⟨u, h1, h2⟩ := goes_app.mp h
  unfold stAt
  rw [h1]
  exact ⟨rfl, h2⟩
/-- a closed walk with a gain, among the useful states: a short one -/
theorem short_ring {pl : Plan} {us : List Nat} (U : UsefulL pl us) : ∀ (n : Nat) (s : Nat) (is : List Nat), is.length ≤ n → s ∈ us → goesTo pl s is = some s → gsum pl is ≠ 0 → ∃ s' is', s' ∈ us ∧ goesTo pl s' is' = some s' ∧ gsum pl is' ≠ 0 ∧ is'.length ≤ us.length
  | 0, s, is, hl, hs, _, hg => by
    obtain rfl := List.eq_nil_of_length_eq_zero (Nat.le_zero.mp hl)
    exact absurd rfl hg
  | n + 1, s, is, hl, hs, hw, hg => by
    by_cases hsh : is.length ≤ us.length
    · exact ⟨s, is, hs, hw, hg, hsh⟩
    have inu : ∀ k, stAt pl s is k ∈ us := fun k => by
      obtain ⟨h1, h2⟩ := stAt_eq hw k
      obtain ⟨g1, g2⟩ := (U.me s).mp hs
      exact (U.me _).mpr ⟨goes_gr h1 g1, goes_rg h2 g2⟩
    have nnd : ¬ ((List.range is.length).map (stAt pl s is)).Nodup := fun nd => by
      have := nodup_sub nd (fun x hx => by obtain ⟨k, _, rfl⟩ := List.mem_map.mp hx; exact inu k)
      rw [List.length_map, List.length_range] at this
      exact hsh this
    obtain ⟨i, j, x, lt, hi, hj⟩ := dup_of nnd
    have hjl : j < is.length := by
      have := (List.getElem?_eq_some_iff.mp hj).1
      rwa [List.length_map, List.length_range] at this
    rw [List.getElem?_map, List.getElem?_range (by omega)] at hi hj
    have hi : stAt pl s is i = x := Option.some.inj hi
    have hj : stAt pl s is j = x := Option.some.inj hj
    obtain ⟨a1, a2⟩ := stAt_eq hw i
    obtain ⟨b1, b2⟩ := stAt_eq hw j
    rw [hi] at a1 a2
    rw [hj] at b1 b2
    -- the part between
    have e1 : is.take j = is.take i ++ (is.drop i).take (j - i) := by
      rw [← List.take_add, Nat.add_sub_cancel' (Nat.le_of_lt lt)]
    rw [e1] at b1
    obtain ⟨u, c1, c2⟩ := goes_app.mp b1
    rw [a1] at c1
    cases c1
    have e2 : gsum pl is = gsum pl ((is.drop i).take (j - i)) + gsum pl (is.take i ++ is.drop j) := by
      have : is = is.take j ++ is.drop j := (List.take_append_drop j is).symm
      rw [this, e1, gsum_app, gsum_app]
      simp only [← e1, List.take_append_drop]
      rw [gsum_app]
      omega
    by_cases z : gsum pl ((is.drop i).take (j - i)) = 0
    · refine short_ring U n s (is.take i ++ is.drop j) (by rw [List.length_append, List.length_take, List.length_drop]; omega) hs (goes_app.mpr ⟨x, a1, b2⟩) ?_
      intro w
      exact hg (by rw [e2, z, w]; rfl)
    · exact short_ring U n x ((is.drop i).take (j - i)) (by rw [List.length_take, List.length_drop]; omega) (hi ▸ inu i) c2 z
/-- bounds that hold leave no ring a gain -/
theorem bnd_walk {pl : Plan} {us : List Nat} {lo hi : Nat → Int} (U : UsefulL pl us) (B : BndOk pl us lo hi) : ∀ {is : List Nat} {s t : Nat}, s ∈ us → t ∈ us → goesTo pl s is = some t → lo t ≤ lo s + gsum pl is ∧ hi s + gsum pl is ≤ hi t
  | [], s, t, _, _, h => by
    cases h
    show lo s ≤ lo s + 0 ∧ hi s + 0 ≤ hi s
    omega
  | i :: is, s, t, hs, ht, h => by
    obtain ⟨m, h1, rfl, h3⟩ := goes_cons.mp h
    have hmu : m.t ∈ us := (U.me _).mpr ⟨.step ((U.me _).mp hs).1 (List.mem_map.mpr ⟨m, List.mem_of_getElem? h1, rfl⟩), goes_rg h3 ((U.me _).mp ht).2⟩
    have b := B.st m.s hs (i, m.gain, m.t) (mem_leav.mpr ⟨m, h1, rfl, hs, hmu, rfl, rfl⟩)
    have c := bnd_walk U B hmu ht h3
    have e : gsum pl (i :: is) = m.gain + gsum pl is := by
      show ((pl.ways[i]?).map Mv.gain).getD 0 + _ = _
      rw [h1]; rfl
    rw [e]
    have b1 : lo m.t ≤ lo m.s + m.gain := b.1
    have b2 : hi m.s + m.gain ≤ hi m.t := b.2
    omega
theorem bnd_ring {pl : Plan} {us : List Nat} {lo hi : Nat → Int} (U : UsefulL pl us) (B : BndOk pl us lo hi) {s : Nat} {is : List Nat} (hs : s ∈ us) (h : goesTo pl s is = some s) : gsum pl is = 0 := by
  have := bnd_walk U B hs hs h
  omega
end KP
namespace KP
open PySem PySem.Spec PyProof.Rows L2 EL
open Evl (pss_cut)
abbrev sLWord : Stmt := topS 65
theorem scLWord : FnScope ["_law_deck_here", "_law_signs", "_law_many", "_law_k"] ["_law_deck_here", "_law_signs", "_law_many"] (defScope sLWord) := ⟨rfl, rfl, rfl, by decide +kernel, rfl, by decide +kernel, by decide +kernel⟩
/-- a word of so many of the given signs -/
def spWordN : Sp := fun vs H Q _ => ∃ (a q : Addr) (m n : Nat) (z : Str), vs = [.ref a, .str z, .int (n : Int)] ∧ Dw a q m H ∧ m + 1000 < 1000000000 ∧ n ≤ 100 ∧ z.length ≠ 0 ∧ z.length ≤ 1000 ∧
  ∀ (cs : List Nat) H', cs.length = n → (∀ c ∈ cs, c ∈ z.cps.toList) → Off a q H H' → Dw a q (m + n) H' → Q (.str ⟨cs.toArray⟩) H'
section
variable {P : Program} {w : World} {K : PySem.W.Frag} {mg : Str → Option Value} {base : Heap}
theorem ok_LWord {f : Addr} {fd : FuncData} {k : Nat} (F : Fun K "_law_word" "_law_word" sLWord f fd) (nrange : mg "range" = none) (CLPick : Cal P w K mg base k "_law_pick" ["_law_deck_here", "_law_some"] (spPick K)) : FnOk P w K mg base CX0 (k + 1) f fd ["_law_deck_here", "_law_signs", "_law_many"] spWordN := by
  refine F.ok scLWord (fun vs H Q E h => ?_) (fun cdv A outer s H vs Q E hr h => ?_)
  · obtain ⟨a, q, m, t, z, rfl, _⟩ := h; rfl
  · obtain ⟨a, q, m, n, z, rfl, hD, hm, hn, hz0, hz1, kQ⟩ := h
    have hu := hr.units
    refine ⟨_, (pss_one (ps_ret (pe_join pe_str (pe_lc (own := [("_law_k", 3)]) (g := (gName 3)) (by rfl) scLWord.nd (pi_range1 rfl nrange (pa_cons (pv 2) pa_nil)) (blkOk_by (own := [("_law_k", 3)]) (N := ["_law_deck_here", "_law_signs", "_law_many", "_law_k"]) (sc := defScope sLWord) (by decide +kernel)) (fun _ _ _ _ _ => (pg_name (i := 3) scLWord.nd rfl (by first | exact Or.inl rfl | exact Or.inr rfl))) (fun _ _ _ _ _ => pts_nil) (fun _ _ _ _ _ => (pe_cal CLPick hr (by rfl) pass0 (pa_cons (pv 0) (pa_cons (pv 1) pa_nil)))))))), ?_⟩
    refine ⟨⟨_, rfl⟩, _, rfl, (n : Int), rfl, by omega, by omega, fun D nD => ?_⟩
    have nH : H D = none := nD
    have na := hD.na nD
    rw [show ((n : Int)).toNat = n from Int.toNat_natCast n]
    refine lc_it walk_range (LcP D (fun i H' => Off a q H H' ∧ Dw a q (m + i) H') (fun j v => ∃ c, c ∈ z.cps.toList ∧ v = some (.str ⟨#[c]⟩))) (LcP.start ⟨offUpd (Off.refl H) nH, hD.upd na.1 na.2⟩) (fun _ _ _ _ => trivial) ?_ ?_
    · rintro i y H2 H3 hi ⟨ys, hl, hR, hD2, o2, D2⟩ ⟨rfl, rfl⟩
      refine ⟨rfl, ?_⟩
      dsimp only [tYes]
      refine iteT ?_
      refine ⟨.ref a, rfl, _, rfl, a, q, m + i, _, rfl, D2, by omega, .inr ⟨z, rfl, hz0, by omega, fun j c H4 hc o4 D4 => ?_⟩⟩
      have o5 := o2.trans o4
      exact lcp_some hl hR (o4 _ _ na.1 na.2 hD2) (by omega) ⟨c, List.mem_of_getElem? hc, rfl⟩ ⟨offUpd o5 nH, D4.upd na.1 na.2⟩
    rintro H2 ⟨ys, hl, hR, hD2, o2, D2⟩
    obtain ⟨cs, e1, e2, e3⟩ := rows_signs hR
    rw [e1] at hD2
    refine ⟨_, D, cs.map (fun c => (⟨#[c]⟩ : Str)), rfl, rfl, .inl (sqOf hD2), ?_, ?_⟩
    · rw [ones, List.length_map]
      show _ + _ * 0 ≤ _
      omega
    · rw [join_signs]
      exact kQ cs H2 (by omega) e3 o2 D2
end
end KP
namespace KP
open PySem PySem.Spec PyProof.Rows L2 EL
open Evl (pss_cut)
abbrev sLWithSpots : Stmt := topS 67
theorem scLWithSpots : FnScope ["_law_deck_here", "_law_count", "_law_goes", "_law_starts", "_law_lasts", "_law_spot"] ["_law_deck_here", "_law_count", "_law_goes"] (defScope sLWithSpots) := ⟨rfl, rfl, rfl, by decide +kernel, rfl, by decide +kernel, by decide +kernel⟩
theorem mergeW (x y z u : V) : mergeK [] [(.inr "count", x), (.inr "starts", y), (.inr "goes", z), (.inr "lasts", u)] = ([(.inr "count", x), (.inr "starts", y), (.inr "goes", z), (.inr "lasts", u)] : List (Key × V)) := by
  have n1 : ¬ ("count" : Str) = "starts" := by decide +kernel
  have n2 : ¬ ("count" : Str) = "goes" := by decide +kernel
  have n3 : ¬ ("starts" : Str) = "goes" := by decide +kernel
  have n4 : ¬ ("count" : Str) = "lasts" := by decide +kernel
  have n5 : ¬ ("starts" : Str) = "lasts" := by decide +kernel
  have n6 : ¬ ("goes" : Str) = "lasts" := by decide +kernel
  simp [mergeK, putK, n1, n2, n3, n4, n5, n6]
def spWithSpots (K : PySem.W.Frag) : Sp := fun vs H Q _ => ∃ (a q g : Addr) (m wide top many long : Nat) (gs : List V) (ws : List Mv), vs = [.ref a, .int (wide : Int), .ref g] ∧ Dw a q m H ∧ m + 1000 < 1000000000 ∧ 1 ≤ wide ∧ wide ≤ top ∧ top ≤ 50 ∧ H g = some (.lst gs) ∧ g ≠ a ∧ g ≠ q ∧ DqAll K (hi a q g H) gs (ws.map mvD) ∧ ws.length ≤ many ∧ many ≤ 50 ∧ (∀ w ∈ ws, okMv wide long w) ∧
  ∀ (p : Addr) (pl : Plan) H', pl.Ok top many long → WorldAt K (hid a q H') p pl → Off a q H H' → Dw a q (m + 100) H' → Q (.ref p) H'
section
variable {P : Program} {w : World} {K : PySem.W.Frag} {mg : Str → Option Value} {base : Heap}
theorem ok_LWithSpots {f : Addr} {fd : FuncData} {k : Nat} (F : Fun K "_law_with_spots" "_law_with_spots" sLWithSpots f fd) (nrange : mg "range" = none) (ntuple : mg "tuple" = none) (CLDraw : Cal P w K mg base k "_law_draw" ["_law_deck_here", "_law_below"] spDraw) : FnOk P w K mg base CX0 (k + 1) f fd ["_law_deck_here", "_law_count", "_law_goes"] (spWithSpots K) := by
  refine F.ok scLWithSpots (fun vs H Q E h => ?_) (fun cdv A outer s H vs Q E hr h => ?_)
  · obtain ⟨a, q, g, m, wide, top, many, long, gs, ws, rfl, _⟩ := h; rfl
  · obtain ⟨a, q, g, m, wide, top, many, long, gs, ws, rfl, hD, hm, hw1, hw2, ht, gG, ga, gq, hgs, hws, hmy, hok, kQ⟩ := h
    have hu := hr.units
    refine ⟨_, (pss_cons (ps_set (i := 3) scLWithSpots.nd rfl (by first | exact Or.inl rfl | exact Or.inr rfl) (pe_callTy call_tuple_of (by rfl) ntuple (by decide +kernel) (pa_cons (pe_lc (own := [("_law_spot", 5)]) (g := (gName 5)) (by rfl) scLWithSpots.nd (pi_range1 rfl nrange (pa_cons (pv 1) pa_nil)) (blkOk_by (own := [("_law_spot", 5)]) (N := ["_law_deck_here", "_law_count", "_law_goes", "_law_starts", "_law_lasts", "_law_spot"]) (sc := defScope sLWithSpots) (by decide +kernel)) (fun _ _ _ _ _ => (pg_name (i := 5) scLWithSpots.nd rfl (by first | exact Or.inl rfl | exact Or.inr rfl))) (fun _ _ _ _ _ => (pts_one (PW.pt (pw_or (pt_cmpR op_eq (pv 5) pe_int (nomark _)) (pw_or1 (pt_cmpR op_eq (pe_cal CLDraw hr (by rfl) pass0 (pa_cons (pv 0) (pa_cons pe_int pa_nil))) pe_int (nomark _))))))) (fun _ _ _ _ _ => (pv 5))) pa_nil)))
      (pss_cons (ps_set (i := 4) scLWithSpots.nd rfl (by first | exact Or.inl rfl | exact Or.inr rfl) (pe_callTy call_tuple_of (by rfl) ntuple (by decide +kernel) (pa_cons (pe_lc (own := [("_law_spot", 5)]) (g := (gName 5)) (by rfl) scLWithSpots.nd (pi_range1 rfl nrange (pa_cons (pv 1) pa_nil)) (blkOk_by (own := [("_law_spot", 5)]) (N := ["_law_deck_here", "_law_count", "_law_goes", "_law_starts", "_law_lasts", "_law_spot"]) (sc := defScope sLWithSpots) (by decide +kernel)) (fun _ _ _ _ _ => (pg_name (i := 5) scLWithSpots.nd rfl (by first | exact Or.inl rfl | exact Or.inr rfl))) (fun _ _ _ _ _ => (pts_one (pt_cmpR op_eq (pe_cal CLDraw hr (by rfl) pass0 (pa_cons (pv 0) (pa_cons pe_int pa_nil))) pe_int (nomark _)))) (fun _ _ _ _ _ => (pv 5))) pa_nil)))
      (pss_one (ps_ret (pe_disp (pps_cons pe_str (pv 1) (pps_cons pe_str (pv 3) (pps_cons pe_str (pe_callTy call_tuple_of (by rfl) ntuple (by decide +kernel) (pa_cons (pv 2) pa_nil)) (pps_cons pe_str (pv 4) pps_nil)))) rfl rfl (by simp) (by decide)))))), ?_⟩
    refine ⟨_, rfl, (wide : Int), rfl, by omega, by omega, fun D nD => ?_⟩
    have naD := hD.na nD
    rw [show (wide : Int).toNat = wide from Int.toNat_natCast wide]
    refine lc_it walk_range (LcP D (fun i H' => EL.Off a q H H' ∧ Dw a q (m + i) H') (fun j v => v = none ∨ v = some (.int ((0 + j : Nat) : Int)))) (LcP.start ⟨offUpd (.refl _) nD, hD.upd (o := .lst []) naD.1 naD.2⟩) (fun _ _ _ _ => trivial) ?_ ?_
    · rintro i y H' H'' hil ⟨ys, hl, hR, hDD, oo, DD⟩ ⟨rfl, rfl⟩
      refine ⟨rfl, _, rfl, rfl, _, rfl, ?_⟩
      by_cases h0 : V.int (0 + (i : Int)) = V.int 0
      · rw [decide_eq_true h0]
        exact iteT (iteT ⟨_, rfl, lcp_some hl hR hDD (by omega) (.inr (by simp)) ⟨offUpd oo nD, (DD.upd naD.1 naD.2).mono (by omega)⟩⟩)
      rw [decide_eq_false h0]
      refine iteF ⟨.ref a, rfl, a, q, _, 4, rfl, DD, by omega, by decide, by decide, fun b H5 b0 b1 o5 D5 => ⟨rfl, _, rfl, ?_⟩⟩
      have hD5 := o5 _ _ naD.1 naD.2 hDD
      by_cases hb : V.int b = V.int 0
      · rw [decide_eq_true hb]
        exact iteT ⟨_, rfl, lcp_some hl hR hD5 (by omega) (.inr (by simp)) ⟨offUpd (oo.trans o5) nD, (D5.upd naD.1 naD.2).mono (by omega)⟩⟩
      · rw [decide_eq_false hb]
        exact iteF (lcp_none hl hR hD5 (.inl rfl) ⟨oo.trans o5, D5.mono (by omega)⟩)
    rintro H1 ⟨ys, hl, hR, hDD, o1, D1⟩
    obtain ⟨is, f1, f2, f3, f4⟩ := rows_sub 0 hR
    rw [f1] at hDD
    refine ⟨D, _, rfl, .inl ⟨sqOf hDD, fun pi npi => ?_⟩⟩
    have s2 : Same H1 (upd H1 pi (.tup (is.map fun (n : Nat) => V.int (n : Int)))) := same_upd npi
    have g2 : upd H1 pi (.tup (is.map fun (n : Nat) => V.int (n : Int))) pi = some (.tup (is.map fun (n : Nat) => V.int (n : Int))) := upd_same
    have napi := D1.na npi
    generalize upd H1 pi (.tup (is.map fun (n : Nat) => V.int (n : Int))) = H2 at s2 g2 ⊢
    have D2 := D1.same s2
    have o2 : EL.Off a q H H2 := o1.trans (.of_same s2)
    refine ⟨_, rfl, (wide : Int), rfl, by omega, by omega, fun D' nD' => ?_⟩
    have naD' := D2.na nD'
    rw [show (wide : Int).toNat = wide from Int.toNat_natCast wide]
    refine lc_it walk_range (LcP D' (fun i H' => EL.Off a q H2 H' ∧ Dw a q ((m + wide) + i) H') (fun j v => v = none ∨ v = some (.int ((0 + j : Nat) : Int)))) (LcP.start ⟨offUpd (.refl _) nD', D2.upd (o := .lst []) naD'.1 naD'.2⟩) (fun _ _ _ _ => trivial) ?_ ?_
    · rintro i y H' H'' hil ⟨ys, hl, hR, hDD, oo, DD⟩ ⟨rfl, rfl⟩
      refine ⟨rfl, .ref a, rfl, a, q, _, 2, rfl, DD, by omega, by decide, by decide, fun b H5 b0 b1 o5 D5 => ⟨rfl, _, rfl, ?_⟩⟩
      have hD5 := o5 _ _ naD'.1 naD'.2 hDD
      by_cases hb : V.int b = V.int 0
      · rw [decide_eq_true hb]
        refine iteT ⟨_, rfl, lcp_some hl hR hD5 (by omega) (.inr (by simp)) ⟨offUpd (oo.trans o5) nD', (D5.upd naD'.1 naD'.2).mono (by omega)⟩⟩
      · rw [decide_eq_false hb]
        exact iteF (lcp_none hl hR hD5 (.inl rfl) ⟨oo.trans o5, D5.mono (by omega)⟩)
    rintro H3 ⟨ys', hl', hR', hDD', o3, D3⟩
    obtain ⟨os, e1, e2, e3, e4⟩ := rows_sub 0 hR'
    rw [e1] at hDD'
    refine ⟨D', _, rfl, .inl ⟨sqOf hDD', fun po npo => ?_⟩⟩
    have s4 : Same H3 (upd H3 po (.tup (os.map fun (n : Nat) => V.int (n : Int)))) := same_upd npo
    have g4 : upd H3 po (.tup (os.map fun (n : Nat) => V.int (n : Int))) po = some (.tup (os.map fun (n : Nat) => V.int (n : Int))) := upd_same
    have napo := D3.na npo
    generalize upd H3 po (.tup (os.map fun (n : Nat) => V.int (n : Int))) = H4 at s4 g4 ⊢
    have D4 := D3.same s4
    have o24 : EL.Off a q H2 H4 := o3.trans (.of_same s4)
    have o4 := o2.trans o24
    refine fun pd npd => ?_
    have npd0 : H pd = none := offNone o4 D4 npd
    have nad := D4.na npd
    have s5 : Same H4 (upd H4 pd (.dK [])) := same_upd npd
    have g5 : upd H4 pd (.dK []) pd = some (.dK []) := upd_same
    generalize upd H4 pd (.dK []) = H5 at s5 g5 ⊢
    have D5 := D4.same s5
    have gG5 := s5 _ _ (o4 _ _ ga gq gG)
    refine ⟨_, rfl, _, rfl, _, rfl, g, gs, rfl, .inl ⟨sqOf gG5, fun pg npg => ?_⟩⟩
    have napg := D5.na npg
    have s6 : Same H5 (upd H5 pg (.tup gs)) := same_upd npg
    have g6 : upd H5 pg (.tup gs) pg = some (.tup gs) := upd_same
    generalize upd H5 pg (.tup gs) = H6 at s6 g6 ⊢
    have D6 := D5.same s6
    have gpd6 := s6 _ _ g5
    refine ⟨_, rfl, gpd6, [(.inr "count", .int (wide : Int)), (.inr "starts", .ref pi), (.inr "goes", .ref pg), (.inr "lasts", .ref po)], rfl, by simp, ?_⟩
    rw [mergeW]
    have o46 : EL.Off a q H4 H6 := (EL.Off.of_same s5).trans (.of_same s6)
    have o6 : EL.Off a q H H6 := o4.trans o46
    have hO : EL.Off a q H (upd H6 pd (.dK [(.inr "count", .int (wide : Int)), (.inr "starts", .ref pi), (.inr "goes", .ref pg), (.inr "lasts", .ref po)])) := offUpd o6 npd0
    have hid6 : ∀ (b : Addr) (o : HO), b ≠ a → b ≠ q → b ≠ pd → H6 b = some o → hid a q (upd H6 pd (.dK [(.inr "count", .int (wide : Int)), (.inr "starts", .ref pi), (.inr "goes", .ref pg), (.inr "lasts", .ref po)])) b = some o := fun b o h1 h2 h3 h => by rw [hid_ne h1 h2, upd_ne h3]; exact h
    have gpi : H6 pi = some (.tup (is.map fun (n : Nat) => V.int (n : Int))) := o46 _ _ napi.1 napi.2 (o24 _ _ napi.1 napi.2 g2)
    have gpo : H6 po = some (.tup (os.map fun (n : Nat) => V.int (n : Int))) := o46 _ _ napo.1 napo.2 g4
    have npi' : pi ≠ pd := ne_of_none (o24 _ _ napi.1 napi.2 g2) npd
    have npo' : po ≠ pd := ne_of_none g4 npd
    have npg' : pg ≠ pd := fun e => by rw [e, g5] at npg; cases npg
    refine kQ pd ⟨wide, is, ws, os⟩ _ ⟨hw1, hw2, ⟨f2, fun x m => by have := f3 x m; show x < wide; omega⟩, ⟨e2, fun x m => by have := e3 x m; show x < wide; omega⟩, hws, hok⟩
      ⟨pi, pg, po, hid_ne (H := upd H6 pd _) nad.1 nad.2 ▸ upd_same, .tup (stOf (hid6 _ _ napi.1 napi.2 npi' gpi)) (nats_dqAll is), .tup (stOf (hid6 _ _ napg.1 napg.2 npg' g6)) ?_, .tup (stOf (hid6 _ _ napo.1 napo.2 npo' gpo)) (nats_dqAll os)⟩ hO ((D6.upd nad.1 nad.2).mono (by omega))
    refine hgs.up fun b o hb => ?_
    obtain ⟨_, _, hb2⟩ := hid_some hb
    obtain ⟨h1, h2, h3⟩ := hid_some hb2
    exact hid6 b o h1 h2 (ne_of_none h3 npd0) (o6 b o h1 h2 h3)
end
end KP
namespace KP
open PySem PySem.Spec PyProof.Rows L2 EL
open Evl (pss_cut)
abbrev sLEvenWorld : Stmt := topS 66
theorem scLEvenWorld : FnScope ["_law_deck_here", "_law_count", "_law_heights_here", "_law_goes", "_law_k", "_law_near", "_law_far", "_law_gain_here", "_law_least_one", "_law_many", "_law_spot"] ["_law_deck_here"] (defScope sLEvenWorld) := ⟨rfl, rfl, rfl, by decide +kernel, rfl, by decide +kernel, by decide +kernel⟩
theorem ab_of {cs : List Nat} (h : ∀ c ∈ cs, c ∈ ("ab" : Str).cps.toList) : ∀ c ∈ cs, c = 97 ∨ c = 98 := fun c m => by
  have key : ∀ x ∈ ("ab" : Str).cps.toList, x = 97 ∨ x = 98 := by decide
  exact key c (h c m)
/-- a world, drawn -/
def spWorld (K : PySem.W.Frag) (c : Nat) : Sp := fun vs H Q _ => ∃ (a q : Addr) (m : Nat), vs = [.ref a] ∧ Dw a q m H ∧ m + 2 * c < 1000000000 ∧
  ∀ (p : Addr) (pl : Plan) H', pl.Ok 3 5 2 → WorldAt K (hid a q H') p pl → Off a q H H' → Dw a q (m + c) H' → Q (.ref p) H'
section
variable {P : Program} {w : World} {K : PySem.W.Frag} {mg : Str → Option Value} {base : Heap}
theorem ok_LEvenWorld {f : Addr} {fd : FuncData} {k : Nat} (F : Fun K "_law_even_world" "_law_even_world" sLEvenWorld f fd) (nrange : mg "range" = none) (nmax : mg "max" = none) (CLDraw : Cal P w K mg base k "_law_draw" ["_law_deck_here", "_law_below"] spDraw) (CLWord : Cal P w K mg base k "_law_word" ["_law_deck_here", "_law_signs", "_law_many"] spWordN) (CLWithSpots : Cal P w K mg base k "_law_with_spots" ["_law_deck_here", "_law_count", "_law_goes"] (spWithSpots K)) : FnOk P w K mg base CX0 (k + 1) f fd ["_law_deck_here"] (spWorld K 3000) := by
  refine F.ok scLEvenWorld (fun vs H Q E h => ?_) (fun cdv A outer s H vs Q E hr h => ?_)
  · obtain ⟨a, q, m, rfl, _⟩ := h; rfl
  · obtain ⟨a, q, m, rfl, hD, hm, kQ⟩ := h
    have hu := hr.units
    refine ⟨_, (pss_cons (ps_set (i := 1) scLEvenWorld.nd rfl (by first | exact Or.inl rfl | exact Or.inr rfl) (pe_op op_add pe_int (pe_cal CLDraw hr (by rfl) pass0 (pa_cons (pv 0) (pa_cons pe_int pa_nil)))))
      (pss_cons (ps_setLc (i := 2) (own := [("_law_spot", 10)]) (g := (gName 10)) (by rfl) scLEvenWorld.nd rfl rfl (sw_true rfl rfl rfl (by decide +kernel)) (pi_range1 rfl nrange (pa_cons (pv 1) pa_nil)) (blkOk_by (own := [("_law_spot", 10)]) (N := ["_law_deck_here", "_law_count", "_law_heights_here", "_law_goes", "_law_k", "_law_near", "_law_far", "_law_gain_here", "_law_least_one", "_law_many", "_law_spot"]) (sc := defScope sLEvenWorld) (by decide +kernel)) (fun _ _ _ _ _ => (pg_name (i := 10) scLEvenWorld.nd rfl (by first | exact Or.inl rfl | exact Or.inr rfl))) (fun _ _ _ _ _ => pts_nil) (fun _ _ _ _ _ => (pe_op op_sub (pe_cal CLDraw hr (by rfl) pass0 (pa_cons (pv 0) (pa_cons pe_int pa_nil))) pe_int)))
      (pss_cons (ps_set (i := 3) scLEvenWorld.nd rfl (by first | exact Or.inl rfl | exact Or.inr rfl) (pe_lst pa_nil))
      (pss_cons (ps_for PassesOwn.never rfl (pi_range1 rfl nrange (pa_cons (pe_cal CLDraw hr (by rfl) pass0 (pa_cons (pv 0) (pa_cons pe_int pa_nil))) pa_nil)) (pg_name (i := 4) scLEvenWorld.nd rfl (by first | exact Or.inl rfl | exact Or.inr rfl)) (pss_cons (ps_par (i := 5) (j := 6) (by rfl) scLEvenWorld.nd rfl rfl (by decide) rfl rfl (pa_cons (pe_cal CLDraw hr (by rfl) pass0 (pa_cons (pv 0) (pa_cons (pv 1) pa_nil))) (pa_cons (pe_cal CLDraw hr (by rfl) pass0 (pa_cons (pv 0) (pa_cons (pv 1) pa_nil))) pa_nil)) (by rfl))
      (pss_cons (ps_set (i := 7) scLEvenWorld.nd rfl (by first | exact Or.inl rfl | exact Or.inr rfl) (pe_op op_sub (pe_ix (show IxR _ (rIxL K) from ix_list) (pv 2) (pv 6) (fun _ _ => rfl)) (pe_ix (show IxR _ (rIxL K) from ix_list) (pv 2) (pv 5) (fun _ _ => rfl))))
      (pss_cons (ps_set (i := 8) scLEvenWorld.nd rfl (by first | exact Or.inl rfl | exact Or.inr rfl) (pe_callB (call_max2 rfl) (by rfl) nmax (by decide +kernel) (pa_cons pe_int (pa_cons (pe_op op_sub pe_int (pv 7)) pa_nil))))
      (pss_cons (ps_set (i := 9) scLEvenWorld.nd rfl (by first | exact Or.inl rfl | exact Or.inr rfl) (pe_op op_add (pv 8) (pe_cal CLDraw hr (by rfl) pass0 (pa_cons (pv 0) (pa_cons (pe_op op_sub pe_int (pe_callB (call_max2 rfl) (by rfl) nmax (by decide +kernel) (pa_cons (pv 7) (pa_cons (pe_op op_sub pe_int (pv 7)) pa_nil)))) pa_nil)))))
      (pss_one (ps_expr (pe_bm PySem.F.plainAttrs_list PySem.F.slot_list_append PySem.F.type_list_append mt_append (pv 3) (pa_cons (pe_tup (pa_cons (pv 5) (pa_cons (pe_cal CLWord hr (by rfl) pass0 (pa_cons (pv 0) (pa_cons pe_str (pa_cons (pe_op op_add (pv 9) (pv 7)) pa_nil)))) (pa_cons (pe_cal CLWord hr (by rfl) pass0 (pa_cons (pv 0) (pa_cons pe_str (pa_cons (pv 9) pa_nil)))) (pa_cons (pv 6) pa_nil))))) pa_nil)))))))))
      (pss_one (ps_ret (pe_cal CLWithSpots hr (by rfl) pass0 (pa_cons (pv 0) (pa_cons (pv 1) (pa_cons (pv 3) pa_nil)))))))))), ?_⟩
    refine ⟨.ref a, rfl, a, q, m, 3, rfl, hD, by omega, by decide, by decide, fun j H1 j0 j1 o1 D1 => ⟨_, _, rfl, rfl, ?_⟩⟩
    obtain ⟨j, rfl⟩ := Int.eq_ofNat_of_zero_le j0
    show gName 1 (V.int (1 + (j : Int))) _ _ _
    rw [show (1 : Int) + (j : Int) = ((j + 1 : Nat) : Int) by omega]
    have hw2 : j + 1 ≤ 3 := by omega
    generalize hwd : j + 1 = wide at hw2
    have hw1 : 1 ≤ wide := by omega
    refine ⟨_, rfl, (wide : Int), rfl, by omega, by omega, fun D nD => ?_⟩
    have naD := D1.na nD
    have nDH := offNone o1 D1 nD
    rw [show (wide : Int).toNat = wide from Int.toNat_natCast wide]
    refine it_gen (walk_range (n := wide)) (fun i H' => ∃ hs : List Int, hs.length = i ∧ (∀ x ∈ hs, -1 ≤ x ∧ x ≤ 1) ∧ H' D = some (.lst (hs.map V.int)) ∧ EL.Off a q H H' ∧ Dw a q (m + 1 + i) H') ⟨[], rfl, (fun _ h => nomatch h), upd_same, offUpd o1 nDH, D1.upd naD.1 naD.2⟩ (fun _ _ _ _ => trivial) ?_ ?_
    · rintro i y H' H'' hil ⟨hs, l1, l2, gD, oo, DD⟩ ⟨rfl, rfl⟩
      refine ⟨rfl, ?_⟩
      dsimp only [tYes]
      refine iteT ⟨.ref a, rfl, a, q, _, 3, rfl, DD, by omega, by decide, by decide, fun b H5 b0 b1 o5 D5 => ⟨_, _, rfl, rfl, hs.map V.int, o5 _ _ naD.1 naD.2 gD, lt_sz (by rw [List.length_map]; omega), ?_⟩⟩
      refine ⟨hs ++ [b - 1], by rw [List.length_append, l1]; rfl, fun x hx => ?_, by rw [upd_same, List.map_append]; rfl, offUpd (oo.trans o5) nDH, (D5.upd naD.1 naD.2).mono (by omega)⟩
      rcases List.mem_append.mp hx with z | z
      · exact l2 x z
      · rw [List.mem_singleton.mp z]; omega
    rintro H2 ⟨hs, l1, l2, gD, o2, D2⟩
    refine ⟨Nat.zero_le _, fun l nl => ?_⟩
    have nlH := offNone o2 D2 nl
    have na := D2.na nl
    have nDl : D ≠ l := ne_of_none gD nl
    have o3 : EL.Off a q H (upd H2 l (.lst [])) := offUpd o2 nlH
    have g3 : upd H2 l (.lst []) l = some (.lst []) := upd_same
    have gD3 : upd H2 l (.lst []) D = some (.lst (hs.map V.int)) := by rw [upd_ne nDl]; exact gD
    have D3 := D2.upd (o := .lst []) na.1 na.2
    generalize upd H2 l (.lst []) = H3 at o3 g3 gD3 D3 ⊢
    refine ⟨.ref a, rfl, a, q, _, 6, rfl, D3, by omega, by decide, by decide, fun c H4 c0 c1 o4 D4 => ?_⟩
    obtain ⟨c, rfl⟩ := Int.eq_ofNat_of_zero_le c0
    refine ⟨_, rfl, by omega, by omega, ?_⟩
    rw [show ((c : Nat) : Int).toNat = c from Int.toNat_natCast c]
    have hc : c ≤ 5 := by omega
    refine for_it walk_range (fun i σ H' => ∃ (y4 y5 y6 y7 y8 y9 : Option V) (vs : List V) (ws : List Mv), σ = [some (.ref a), some (.int (wide : Int)), some (.ref D), some (.ref l), y4, y5, y6, y7, y8, y9, none] ∧ Dw a q (m + 10 + 200 * i) H' ∧ EL.Off a q H H' ∧ H' D = some (.lst (hs.map V.int)) ∧ H' l = some (.lst vs) ∧ DqAll K (hi a q l H') vs (List.map mvD ws) ∧ ws.length = i ∧ ∀ w ∈ ws, okMv wide 2 w)
      ⟨none, none, none, none, none, none, [], [], rfl, D4.mono (by omega), o3.trans o4, o4 _ _ naD.1 naD.2 gD3, o4 _ _ na.1 na.2 g3, .nil, rfl, fun _ m => (List.not_mem_nil m).elim⟩ (fun _ _ _ _ _ => trivial) ?_ ?_
    · rintro i y σ H5 H6 hil ⟨y4, y5, y6, y7, y8, y9, vs, ws, rfl, D5, o5, gD5, g5, A5, hws, hok⟩ ⟨rfl, rfl⟩
      have hvl : vs.length = i := by rw [A5.len, List.length_map, hws]
      refine ⟨.ref a, rfl, _, rfl, a, q, _, _, rfl, D5, by omega, by omega, by omega, fun s0 H7 s0a s0b o7 D7 => ?_⟩
      obtain ⟨s0, rfl⟩ := Int.eq_ofNat_of_zero_le s0a
      refine ⟨.ref a, rfl, _, rfl, a, q, _, _, rfl, D7, by omega, by omega, by omega, fun t0 H8 t0a t0b o8 D8 => ?_⟩
      obtain ⟨t0, rfl⟩ := Int.eq_ofNat_of_zero_le t0a
      have gD8 := o8 _ _ naD.1 naD.2 (o7 _ _ naD.1 naD.2 gD5)
      obtain ⟨hx, ehx⟩ : ∃ x, hs[t0]? = some x := ⟨_, List.getElem?_eq_getElem (by omega)⟩
      obtain ⟨hy, ehy⟩ : ∃ x, hs[s0]? = some x := ⟨_, List.getElem?_eq_getElem (by omega)⟩
      have bx := l2 hx (List.mem_of_getElem? ehx)
      have byy := l2 hy (List.mem_of_getElem? ehy)
      refine ⟨_, _, rfl, .ref D, rfl, .int (t0 : Int), rfl, D, _, (t0 : Int), .int hx, rfl, rfl, sqOf gD8, atI_nat (by rw [List.getElem?_map, ehx]; rfl), .ref D, rfl, .int (s0 : Int), rfl, D, _, (s0 : Int), .int hy, rfl, rfl, sqOf gD8, atI_nat (by rw [List.getElem?_map, ehy]; rfl), _, _, rfl, rfl, ?_⟩
      have gb : -2 ≤ hx - hy ∧ hx - hy ≤ 2 := by omega
      refine ⟨_, rfl, 0, hx - hy, rfl, rfl, 0, 0 - (hx - hy), rfl, ?_⟩
      have e1 : (if 0 - (hx - hy) > (0 : Int) then 0 - (hx - hy) else 0) = if hx - hy < 0 then -(hx - hy) else 0 := by split <;> split <;> omega
      rw [e1]
      generalize hle : (if hx - hy < 0 then -(hx - hy) else 0 : Int) = least
      have lb : 0 ≤ least ∧ 0 ≤ least + (hx - hy) ∧ least ≤ 2 := by rw [← hle]; split <;> omega
      refine ⟨_, rfl, .ref a, rfl, _, rfl, _, rfl, 0, hx - hy, rfl, rfl, hx - hy, 0 - (hx - hy), rfl, 3, _, rfl, rfl, a, q, _, _, rfl, D8, by omega, by split <;> omega, by split <;> omega, fun dd H9 d0 d1 o9 D9 => ⟨least, dd, rfl, rfl, ?_⟩⟩
      obtain ⟨n1, hn1⟩ : ∃ n1 : Nat, least + dd + (hx - hy) = (n1 : Int) := ⟨(least + dd + (hx - hy)).toNat, by omega⟩
      obtain ⟨n2, hn2⟩ : ∃ n2 : Nat, least + dd = (n2 : Int) := ⟨(least + dd).toNat, by omega⟩
      have nb : n1 ≤ 2 ∧ n2 ≤ 2 := by
        rw [← hle] at hn1 hn2
        split at d1 <;> split at hn1 <;> split at hn2 <;> omega
      have o59 := (o7.trans o8).trans o9
      have g9 := o59 _ _ na.1 na.2 g5
      refine ⟨.ref l, rfl, .inl ⟨rfl, _, sqOf g9⟩, _, rfl, .ref a, rfl, _, rfl, _, rfl, _, _, rfl, rfl, a, q, _, n1, "ab", (by rw [← hn1]; rfl), D9, by omega, by omega, by decide, by decide, fun x1 HA hx1 hx1c oA DA => ?_⟩
      refine ⟨.ref a, rfl, _, rfl, a, q, _, n2, "ab", (by rw [← hn2]; rfl), DA, by omega, by omega, by decide, by decide, fun x2 HB hx2 hx2c oB DB => ?_⟩
      have o69 := o59.trans (oA.trans oB)
      have OB := o5.trans o69
      have gB := o69 _ _ na.1 na.2 g5
      have gDB := o69 _ _ naD.1 naD.2 gD5
      have XB : Dx a q l _ HB := ⟨DB, .inr ⟨na.1, na.2, _, gB⟩⟩
      refine ⟨_, rfl, len_sz (by show 4 ≤ 1000000; decide), fun p np => ?_⟩
      have sC := same_upd (o := .tup [.int (s0 : Int), .str ⟨x1.toArray⟩, .str ⟨x2.toArray⟩, .int (t0 : Int)]) np
      have gC : upd HB p (.tup [.int (s0 : Int), .str ⟨x1.toArray⟩, .str ⟨x2.toArray⟩, .int (t0 : Int)]) p = some (.tup [.int (s0 : Int), .str ⟨x1.toArray⟩, .str ⟨x2.toArray⟩, .int (t0 : Int)]) := upd_same
      generalize upd HB p (.tup [.int (s0 : Int), .str ⟨x1.toArray⟩, .str ⟨x2.toArray⟩, .int (t0 : Int)]) = HC at sC gC ⊢
      have XC := XB.same sC
      have Dl : D ≠ l := fun e => nDl e
      refine ⟨l, vs, _, rfl, rfl, sC _ _ gB, lt_sz (by omega), ?_⟩
      refine ⟨_, _, _, _, _, _, vs ++ [.ref p], ws ++ [⟨s0, x1, x2, t0⟩], rfl, (XC.dw.upd na.1 na.2).mono (by omega), offUpd (OB.trans (.of_same sC)) nlH, by rw [upd_ne Dl]; exact sC _ _ gDB, upd_same, ?_, by rw [List.length_append, hws]; rfl, fun w hw => ?_⟩
      · rw [hi_upd, List.map_append]
        exact DqAll.snoc (A5.up (off_hi (o69.trans (.of_same sC)))) (.tup (stOf (hi_of XB np gC)) (.cons (.int _) (.cons (.str _) (.cons (.str _) (.cons (.int _) .nil)))))
      · rcases List.mem_append.mp hw with hw | hw
        · exact hok w hw
        · obtain rfl : w = ⟨s0, x1, x2, t0⟩ := by simpa using hw
          exact ⟨by show s0 < wide; omega, by show t0 < wide; omega, by show x1.length ≤ 2; omega, by show x2.length ≤ 2; omega, ab_of hx1c, ab_of hx2c⟩
    · rintro σ H5 ⟨y4, y5, y6, y7, y8, y9, vs, ws, rfl, D5, o5, gD5, g5, A5, hws, hok⟩
      refine ⟨.ref a, rfl, _, rfl, _, rfl, a, q, l, _, wide, 3, 5, 2, vs, ws, rfl, D5, by omega, hw1, hw2, by decide, g5, na.1, na.2, A5, by omega, by decide, hok, fun p pl H6 hO W o6 D6 => ?_⟩
      exact kQ p pl H6 hO W (o5.trans o6) (D6.mono (by omega))
end
end KP
namespace KP
open PySem PySem.Spec PyProof.Rows L2 EL
open Evl (pss_cut)
abbrev sLWorld : Stmt := topS 68
theorem scLWorld : FnScope ["_law_deck_here", "_law_count", "_law_goes", "_law_k", "_law_near", "_law_words", "_law_side"] ["_law_deck_here"] (defScope sLWorld) := ⟨rfl, rfl, rfl, by decide +kernel, rfl, by decide +kernel, by decide +kernel⟩
section
variable {P : Program} {w : World} {K : PySem.W.Frag} {mg : Str → Option Value} {base : Heap}
theorem ok_LWorld {f : Addr} {fd : FuncData} {k : Nat} (F : Fun K "_law_world" "_law_world" sLWorld f fd) (nrange : mg "range" = none) (CLDraw : Cal P w K mg base k "_law_draw" ["_law_deck_here", "_law_below"] spDraw) (CLWord : Cal P w K mg base k "_law_word" ["_law_deck_here", "_law_signs", "_law_many"] spWordN) (CLWithSpots : Cal P w K mg base k "_law_with_spots" ["_law_deck_here", "_law_count", "_law_goes"] (spWithSpots K)) (CLEvenWorld : Cal P w K mg base k "_law_even_world" ["_law_deck_here"] (spWorld K 3000)) : FnOk P w K mg base CX0 (k + 1) f fd ["_law_deck_here"] (spWorld K 5000) := by
  refine F.ok scLWorld (fun vs H Q E h => ?_) (fun cdv A outer s H vs Q E hr h => ?_)
  · obtain ⟨a, q, m, rfl, _⟩ := h; rfl
  · obtain ⟨a, q, m, rfl, hD, hm, kQ⟩ := h
    have hu := hr.units
    refine ⟨_, (pss_cons (ps_if (pt_cmpR op_eq (pe_cal CLDraw hr (by rfl) pass0 (pa_cons (pv 0) (pa_cons pe_int pa_nil))) pe_int (nomark _)) (pss_one (ps_ret (pe_cal CLEvenWorld hr (by rfl) pass0 (pa_cons (pv 0) pa_nil)))) pss_nil)
      (pss_cons (ps_par (i := 1) (j := 2) (by rfl) scLWorld.nd rfl rfl (by decide) rfl rfl (pa_cons (pe_op op_add pe_int (pe_cal CLDraw hr (by rfl) pass0 (pa_cons (pv 0) (pa_cons pe_int pa_nil)))) (pa_cons (pe_lst pa_nil) pa_nil)) (by rfl))
      (pss_cons (ps_for PassesOwn.never rfl (pi_range1 rfl nrange (pa_cons (pe_cal CLDraw hr (by rfl) pass0 (pa_cons (pv 0) (pa_cons pe_int pa_nil))) pa_nil)) (pg_name (i := 3) scLWorld.nd rfl (by first | exact Or.inl rfl | exact Or.inr rfl)) (pss_cons (ps_par (i := 4) (j := 5) (by rfl) scLWorld.nd rfl rfl (by decide) rfl rfl (pa_cons (pe_cal CLDraw hr (by rfl) pass0 (pa_cons (pv 0) (pa_cons (pv 1) pa_nil))) (pa_cons (pe_lc (own := [("_law_side", 6)]) (g := (gName 6)) (by rfl) scLWorld.nd (pi_range1 rfl nrange (pa_cons pe_int pa_nil)) (blkOk_by (own := [("_law_side", 6)]) (N := ["_law_deck_here", "_law_count", "_law_goes", "_law_k", "_law_near", "_law_words", "_law_side"]) (sc := defScope sLWorld) (by decide +kernel)) (fun _ _ _ _ _ => (pg_name (i := 6) scLWorld.nd rfl (by first | exact Or.inl rfl | exact Or.inr rfl))) (fun _ _ _ _ _ => pts_nil) (fun _ _ _ _ _ => (pe_cal CLWord hr (by rfl) pass0 (pa_cons (pv 0) (pa_cons pe_str (pa_cons (pe_cal CLDraw hr (by rfl) pass0 (pa_cons (pv 0) (pa_cons pe_int pa_nil))) pa_nil)))))) pa_nil)) (by rfl))
      (pss_one (ps_expr (pe_bm PySem.F.plainAttrs_list PySem.F.slot_list_append PySem.F.type_list_append mt_append (pv 2) (pa_cons (pe_tup (pa_cons (pv 4) (pa_cons (pe_ix (show IxR _ (rIxL K) from ix_list) (pv 5) pe_int (fun _ _ => rfl)) (pa_cons (pe_ix (show IxR _ (rIxL K) from ix_list) (pv 5) pe_int (fun _ _ => rfl)) (pa_cons (pe_cal CLDraw hr (by rfl) pass0 (pa_cons (pv 0) (pa_cons (pv 1) pa_nil))) pa_nil))))) pa_nil))))))
      (pss_one (ps_ret (pe_cal CLWithSpots hr (by rfl) pass0 (pa_cons (pv 0) (pa_cons (pv 1) (pa_cons (pv 2) pa_nil))))))))), ?_⟩
    refine ⟨.ref a, rfl, a, q, m, 2, rfl, hD, by omega, by decide, by decide, fun b H0 b0 b1 o0 D0 => ⟨rfl, _, rfl, ?_⟩⟩
    by_cases hb : V.int b = V.int 0
    · rw [decide_eq_true hb]
      exact iteT ⟨_, rfl, a, q, m + 1, rfl, D0, by omega, fun p pl H1 hO W o1 D1 => kQ p pl H1 hO W (o0.trans o1) (D1.mono (by omega))⟩
    rw [decide_eq_false hb]
    refine iteF ⟨.ref a, rfl, a, q, _, 3, rfl, D0, by omega, by decide, by decide, fun j H1 j0 j1 o1 D1 => ⟨_, _, rfl, rfl, ?_⟩⟩
    obtain ⟨j, rfl⟩ := Int.eq_ofNat_of_zero_le j0
    obtain ⟨wide, hwd⟩ : ∃ wide, wide = j + 1 := ⟨_, rfl⟩
    have hv : (1 : Int) + (j : Int) = (wide : Int) := by omega
    have hw1 : 1 ≤ wide := by omega
    have hw2 : wide ≤ 3 := by omega
    refine ⟨Nat.zero_le _, fun l nl => ⟨.int (wide : Int), .ref l, (by show [V.int (1 + (j : Int)), V.ref l] = _; rw [hv]), ?_⟩⟩
    have o2 := o0.trans o1
    have nlH := offNone o2 D1 nl
    have na := D1.na nl
    have o3 : EL.Off a q H (upd H1 l (.lst [])) := offUpd o2 nlH
    have g3 : upd H1 l (.lst []) l = some (.lst []) := upd_same
    have D3 := D1.upd (o := .lst []) na.1 na.2
    generalize upd H1 l (.lst []) = H3 at o3 g3 D3 ⊢
    refine ⟨.ref a, rfl, a, q, _, 6, rfl, D3, by omega, by decide, by decide, fun c H4 c0 c1 o4 D4 => ?_⟩
    obtain ⟨c, rfl⟩ := Int.eq_ofNat_of_zero_le c0
    refine ⟨_, rfl, by omega, by omega, ?_⟩
    rw [show ((c : Nat) : Int).toNat = c from Int.toNat_natCast c]
    have hc : c ≤ 5 := by omega
    refine for_it walk_range (fun i σ H' => ∃ (y3 y4 y5 : Option V) (vs : List V) (ws : List Mv), σ = [some (.ref a), some (.int (wide : Int)), some (.ref l), y3, y4, y5, none] ∧ Dw a q (m + 10 + 200 * i) H' ∧ EL.Off a q H H' ∧ H' l = some (.lst vs) ∧ DqAll K (hi a q l H') vs (List.map mvD ws) ∧ ws.length = i ∧ ∀ w ∈ ws, okMv wide 2 w)
      ⟨none, none, none, [], [], rfl, D4.mono (by omega), o3.trans o4, o4 _ _ na.1 na.2 g3, .nil, rfl, fun _ m => (List.not_mem_nil m).elim⟩ (fun _ _ _ _ _ => trivial) ?_ ?_
    · rintro i y σ H5 H6 hil ⟨y3, y4, y5, vs, ws, rfl, D5, o5, g5, A5, hws, hok⟩ ⟨rfl, rfl⟩
      have hvl : vs.length = i := by rw [A5.len, List.length_map, hws]
      refine ⟨.ref a, rfl, _, rfl, a, q, _, _, rfl, D5, by omega, by omega, by omega, fun s0 H7 s0a s0b o7 D7 => ?_⟩
      obtain ⟨s0, rfl⟩ := Int.eq_ofNat_of_zero_le s0a
      refine ⟨2, rfl, by omega, by omega, fun L nL => ?_⟩
      have naL := D7.na nL
      have g7 := o7 _ _ na.1 na.2 g5
      have nLl : l ≠ L := ne_of_none g7 nL
      have nLH := offNone (o5.trans o7) D7 nL
      refine it_gen (walk_range (n := 2)) (fun u H' => ∃ zs : List (List Nat), zs.length = u ∧ (∀ z ∈ zs, z.length ≤ 2 ∧ ∀ c ∈ z, c ∈ ("ab" : Str).cps.toList) ∧ H' L = some (.lst (zs.map fun z => V.str ⟨z.toArray⟩)) ∧ EL.Off a q H6 H' ∧ Dw a q (m + 11 + 200 * i + 20 * u) H') ⟨[], rfl, (fun _ h => nomatch h), upd_same, offUpd o7 (offNone o7 D7 nL), (D7.upd naL.1 naL.2).mono (by omega)⟩ (fun _ _ _ _ => trivial) ?_ ?_
      · rintro j2 y H8 H9 hj2 ⟨zs, z1, z2, gL, o8, D8⟩ ⟨rfl, rfl⟩
        refine ⟨rfl, ?_⟩
        dsimp only [tYes]
        refine iteT ⟨.ref a, rfl, .ref a, rfl, a, q, _, 3, rfl, D8, by omega, by decide, by decide, fun n HA n0 n1 oA DA => ?_⟩
        obtain ⟨n, rfl⟩ := Int.eq_ofNat_of_zero_le n0
        refine ⟨a, q, _, n, "ab", rfl, DA, by omega, by omega, by decide, by decide, fun x1 HB hx1 hx1c oB DB => ?_⟩
        have gB := (oA.trans oB) _ _ naL.1 naL.2 gL
        refine ⟨_, gB, lt_sz (by rw [List.length_map]; omega), zs ++ [x1], by rw [List.length_append, z1]; rfl, fun z hz => ?_, by rw [upd_same, List.map_append]; rfl, offUpd (o8.trans (oA.trans oB)) (offNone o7 D7 nL), (DB.upd naL.1 naL.2).mono (by omega)⟩
        rcases List.mem_append.mp hz with w | w
        · exact z2 z w
        · obtain rfl : z = x1 := by simpa using w
          exact ⟨by omega, hx1c⟩
      rintro H8 ⟨zs, z1, z2, gL, o8, D8⟩
      obtain ⟨x1, x2, rfl⟩ : ∃ x1 x2, zs = [x1, x2] := by
        match zs, z1 with
        | [x1, x2], _ => exact ⟨x1, x2, rfl⟩
      have b1 := z2 x1 (by simp)
      have b2 := z2 x2 (by simp)
      have g8 := o8 _ _ na.1 na.2 g5
      refine ⟨_, _, rfl, ?_⟩
      have o58 := o8
      refine ⟨.ref l, rfl, .inl ⟨rfl, _, sqOf g8⟩, _, rfl, .ref L, rfl, L, _, 0, _, rfl, rfl, sqOf gL, atI_nat (j := 0) rfl, .ref L, rfl, L, _, 1, _, rfl, rfl, sqOf gL, atI_nat (j := 1) rfl, .ref a, rfl, _, rfl, a, q, _, _, rfl, D8, by omega, by omega, by omega, fun t0 HB t0a t0b oB DB => ?_⟩
      obtain ⟨t0, rfl⟩ := Int.eq_ofNat_of_zero_le t0a
      have OB := o5.trans (o58.trans oB)
      have gB := oB _ _ na.1 na.2 g8
      have XB : Dx a q l _ HB := ⟨DB, .inr ⟨na.1, na.2, _, gB⟩⟩
      refine ⟨len_sz (by show 4 ≤ 1000000; decide), fun p np => ?_⟩
      have sC := same_upd (o := .tup [.int (s0 : Int), .str ⟨x1.toArray⟩, .str ⟨x2.toArray⟩, .int (t0 : Int)]) np
      have gC : upd HB p (.tup [.int (s0 : Int), .str ⟨x1.toArray⟩, .str ⟨x2.toArray⟩, .int (t0 : Int)]) p = some (.tup [.int (s0 : Int), .str ⟨x1.toArray⟩, .str ⟨x2.toArray⟩, .int (t0 : Int)]) := upd_same
      dsimp only [tNil]
      generalize upd HB p (.tup [.int (s0 : Int), .str ⟨x1.toArray⟩, .str ⟨x2.toArray⟩, .int (t0 : Int)]) = HC at sC gC ⊢
      have XC := XB.same sC
      refine ⟨l, vs, _, rfl, rfl, sC _ _ gB, lt_sz (by omega), ?_⟩
      refine ⟨_, _, _, vs ++ [.ref p], ws ++ [⟨s0, x1, x2, t0⟩], rfl, (XC.dw.upd na.1 na.2).mono (by omega), offUpd (OB.trans (.of_same sC)) nlH, upd_same, ?_, by rw [List.length_append, hws]; rfl, fun w hw => ?_⟩
      · rw [hi_upd, List.map_append]
        exact DqAll.snoc (A5.up (off_hi ((o58.trans oB).trans (.of_same sC)))) (.tup (stOf (hi_of XB np gC)) (.cons (.int _) (.cons (.str _) (.cons (.str _) (.cons (.int _) .nil)))))
      · rcases List.mem_append.mp hw with hw | hw
        · exact hok w hw
        · obtain rfl : w = ⟨s0, x1, x2, t0⟩ := by simpa using hw
          exact ⟨by show s0 < wide; omega, by show t0 < wide; omega, b1.1, b2.1, ab_of b1.2, ab_of b2.2⟩
    · rintro σ H5 ⟨y3, y4, y5, vs, ws, rfl, D5, o5, g5, A5, hws, hok⟩
      refine ⟨.ref a, rfl, _, rfl, _, rfl, a, q, l, _, wide, 3, 5, 2, vs, ws, rfl, D5, by omega, hw1, hw2, by decide, g5, na.1, na.2, A5, by omega, by decide, hok, fun p pl H6 hO W o6 D6 => ?_⟩
      exact kQ p pl H6 hO W (o5.trans o6) (D6.mono (by omega))

end
end KP
/-! walks among the useful states, move by move; how many rows there are -/
namespace KP
open PySem PySem.Spec PyProof.Rows L2 EL
abbrev T3 := Nat × Int × Nat
def inU (us : List Nat) (m : Mv) : Bool := decide (m.s ∈ us) && decide (m.t ∈ us)
def someF (us : List Nat) (m : Mv) : Option T3 := if inU us m = true then some (m.s, m.gain, m.t) else none
def someL (pl : Plan) (us : List Nat) : List T3 := pl.ways.filterMap (someF us)
theorem mem_some {pl : Plan} {us : List Nat} {e : T3} : e ∈ someL pl us ↔ ∃ m ∈ pl.ways, m.s ∈ us ∧ m.t ∈ us ∧ e = (m.s, m.gain, m.t) := by
  unfold someL
  rw [List.mem_filterMap]
  constructor
  · rintro ⟨m, hm, h⟩
    unfold someF inU at h
    split at h
    · next c =>
      rw [Bool.and_eq_true, decide_eq_true_eq, decide_eq_true_eq] at c
      exact ⟨m, hm, c.1, c.2, (Option.some.inj h).symm⟩
    · cases h
  · rintro ⟨m, hm, h1, h2, rfl⟩
    refine ⟨m, hm, ?_⟩
    unfold someF inU
    rw [if_pos (by rw [Bool.and_eq_true, decide_eq_true_eq, decide_eq_true_eq]; exact ⟨h1, h2⟩)]
theorem some_len (pl : Plan) (us : List Nat) : (someL pl us).length ≤ pl.ways.length := List.length_filterMap_le _ _
def WlkE (som : List T3) (s : Nat) : Nat → Nat → Int → Prop
  | 0, t, g => t = s ∧ g = 0
  | k + 1, t, g => ∃ n g0 d, WlkE som s k n g0 ∧ (n, d, t) ∈ som ∧ g = g0 + d
theorem wlk_goes {pl : Plan} {us : List Nat} {s : Nat} (hs : s ∈ us) : ∀ {k t : Nat} {g : Int}, WlkE (someL pl us) s k t g → t ∈ us ∧ ∃ is, is.length = k ∧ goesTo pl s is = some t ∧ gsum pl is = g
  | 0, t, g, h => by
    obtain ⟨rfl, rfl⟩ := h
    exact ⟨hs, [], rfl, rfl, rfl⟩
  | k + 1, t, g, h => by
    obtain ⟨n, g0, d, h1, h2, rfl⟩ := h
    obtain ⟨hn, is, e1, e2, e3⟩ := wlk_goes hs h1
    obtain ⟨m, hm, _, ht, e⟩ := mem_some.mp h2
    cases e
    obtain ⟨i, hi⟩ := List.mem_iff_getElem?.mp hm
    refine ⟨ht, is ++ [i], by rw [List.length_append, e1]; rfl, goes_app.mpr ⟨_, e2, goes_cons.mpr ⟨m, hi, rfl, rfl⟩⟩, ?_⟩
    rw [gsum_app, e3]
    show _ + (((pl.ways[i]?).map Mv.gain).getD 0 + 0) = _
    rw [hi]
    show _ + (m.gain + 0) = _
    omega
theorem goes_us {pl : Plan} {us : List Nat} (U : UsefulL pl us) {s t u : Nat} {a b : List Nat} (hs : s ∈ us) (ht : t ∈ us) (h1 : goesTo pl s a = some u) (h2 : goesTo pl u b = some t) : u ∈ us :=
  (U.me _).mpr ⟨goes_gr h1 ((U.me _).mp hs).1, goes_rg h2 ((U.me _).mp ht).2⟩
theorem goes_wlk {pl : Plan} {us : List Nat} (U : UsefulL pl us) {s : Nat} (hs : s ∈ us) : ∀ (k : Nat) {is : List Nat} {t : Nat}, is.length = k → t ∈ us → goesTo pl s is = some t → WlkE (someL pl us) s k t (gsum pl is)
  | 0, is, t, hl, _, h => by
    obtain rfl := List.eq_nil_of_length_eq_zero hl
    cases h
    exact ⟨rfl, rfl⟩
  | k + 1, is, t, hl, ht, h => by
    have hne : is ≠ [] := fun e => by rw [e] at hl; cases hl
    have e := List.dropLast_concat_getLast hne
    rw [← e] at h
    obtain ⟨u, h1, h2⟩ := goes_app.mp h
    obtain ⟨m, hm, rfl, h3⟩ := goes_cons.mp h2
    cases h3
    have hu := goes_us U hs ht h1 h2
    have ih := goes_wlk U hs k (is := is.dropLast) (by rw [List.length_dropLast]; omega) hu h1
    refine ⟨m.s, _, m.gain, ih, mem_some.mpr ⟨m, List.mem_of_getElem? hm, hu, ht, rfl⟩, ?_⟩
    rw [← e, gsum_app, List.dropLast_concat]
    show _ + (((pl.ways[is.getLast hne]?).map Mv.gain).getD 0 + 0) = _
    rw [hm]
    show _ + (m.gain + 0) = _
    omega
/-- some useful state comes to itself with a gain -/
def Rg (pl : Plan) (us : List Nat) : Prop := ∃ s ∈ us, ∃ is, goesTo pl s is = some s ∧ gsum pl is ≠ 0
/-- .. in at most n moves, from s -/
def RgAt (som : List T3) (n s : Nat) : Prop := ∃ k g, k < n ∧ WlkE som s (k + 1) s g ∧ g ≠ 0
theorem rg_at {pl : Plan} {us : List Nat} (U : UsefulL pl us) : Rg pl us ↔ ∃ s ∈ us, RgAt (someL pl us) us.length s := by
  constructor
  · rintro ⟨s, hs, is, h1, h2⟩
    obtain ⟨s', is', q1, q2, q3, q4⟩ := short_ring U is.length s is (Nat.le_refl _) hs h1 h2
    have w := goes_wlk U q1 is'.length rfl q1 q2
    cases hk : is'.length with
    | zero =>
      obtain rfl := List.eq_nil_of_length_eq_zero hk
      exact absurd rfl q3
    | succ k =>
      rw [hk] at w
      exact ⟨s', q1, k, _, by omega, w, q3⟩
  · rintro ⟨s, hs, k, g, _, w, hg⟩
    obtain ⟨_, is, _, e2, e3⟩ := wlk_goes hs w
    exact ⟨s, hs, is, e2, by rw [e3]; exact hg⟩
/-- no ring with a gain: each walk has a short one with the same gain -/
theorem short_walk {pl : Plan} {us : List Nat} (U : UsefulL pl us) (nr : ¬ Rg pl us) : ∀ (n : Nat) {s t : Nat} {is : List Nat}, is.length ≤ n → s ∈ us → t ∈ us → goesTo pl s is = some t → ∃ is', goesTo pl s is' = some t ∧ gsum pl is' = gsum pl is ∧ is'.length ≤ us.length
  | 0, s, t, is, hl, _, _, h => ⟨is, h, rfl, by omega⟩
  | n + 1, s, t, is, hl, hs, ht, hw => by
    by_cases hsh : is.length ≤ us.length
    · exact ⟨is, hw, rfl, hsh⟩
    have inu : ∀ k, stAt pl s is k ∈ us := fun k => by
      obtain ⟨h1, h2⟩ := stAt_eq hw k
      exact goes_us U hs ht h1 h2
    have nnd : ¬ ((List.range is.length).map (stAt pl s is)).Nodup := fun nd => by
      have := nodup_sub nd (fun x hx => by obtain ⟨k, _, rfl⟩ := List.mem_map.mp hx; exact inu k)
      rw [List.length_map, List.length_range] at this
      exact hsh this
    obtain ⟨i, j, x, lt, hi, hj⟩ := dup_of nnd
    have hjl : j < is.length := by
      have := (List.getElem?_eq_some_iff.mp hj).1
      rwa [List.length_map, List.length_range] at this
    rw [List.getElem?_map, List.getElem?_range (by omega)] at hi hj
    have hi : stAt pl s is i = x := Option.some.inj hi
    have hj : stAt pl s is j = x := Option.some.inj hj
    obtain ⟨a1, a2⟩ := stAt_eq hw i
    obtain ⟨b1, b2⟩ := stAt_eq hw j
    rw [hi] at a1 a2
    rw [hj] at b1 b2
    have e1 : is.take j = is.take i ++ (is.drop i).take (j - i) := by
      rw [← List.take_add, Nat.add_sub_cancel' (Nat.le_of_lt lt)]
    rw [e1] at b1
    obtain ⟨u, c1, c2⟩ := goes_app.mp b1
    rw [a1] at c1
    cases c1
    have e2 : gsum pl is = gsum pl ((is.drop i).take (j - i)) + gsum pl (is.take i ++ is.drop j) := by
      have : is = is.take j ++ is.drop j := (List.take_append_drop j is).symm
      rw [this, e1, gsum_app, gsum_app]
      simp only [← e1, List.take_append_drop]
      rw [gsum_app]
      omega
    have z : gsum pl ((is.drop i).take (j - i)) = 0 := Classical.byContradiction fun z => nr ⟨x, hi ▸ inu i, _, c2, z⟩
    obtain ⟨is', q1, q2, q3⟩ := short_walk U nr n (is := is.take i ++ is.drop j) (by rw [List.length_append, List.length_take, List.length_drop]; omega) hs ht (goes_app.mpr ⟨x, a1, b2⟩)
    exact ⟨is', q1, by rw [q2, e2, z]; omega, q3⟩
/-! ### how many rows -/
def laterL (som : List T3) (hs : List (Nat × Int)) : List (Nat × Int) := hs.flatMap fun p => (som.filter fun e => decide (e.1 = p.1)).map fun e => (e.2.2, p.2 + e.2.1)
theorem later_count {c : Nat} {hs : List (Nat × Int)} (hc : ∀ s : Nat, (hs.filter fun p => decide (p.1 = s)).length ≤ c) : ∀ som : List T3, (laterL som hs).length ≤ som.length * c
  | [] => by
    have : laterL [] hs = [] := by
      unfold laterL
      rw [List.flatMap_eq_nil_iff]
      intro p _
      rfl
    rw [this]
    exact Nat.zero_le _
  | e :: r => by
    have ih := later_count hc r
    have key : ∀ l : List (Nat × Int), (laterL (e :: r) l).length = (l.filter fun p => decide (p.1 = e.1)).length + (laterL r l).length := by
      intro l
      induction l with
      | nil => rfl
      | cons p l ih =>
        unfold laterL at ih ⊢
        rw [List.flatMap_cons, List.flatMap_cons, List.length_append, List.length_append, ih]
        by_cases h : e.1 = p.1
        · rw [List.filter_cons_of_pos (by simpa using h), List.filter_cons_of_pos (by simpa using h.symm), List.length_map, List.length_cons, List.length_cons, List.length_map]
          omega
        · rw [List.filter_cons_of_neg (by simpa using h), List.filter_cons_of_neg (by simpa using fun z => h z.symm)]
          omega
    rw [key, List.length_cons, Nat.add_mul, Nat.one_mul]
    have := hc e.1
    omega
theorem mem_later {som : List T3} {hs : List (Nat × Int)} {q : Nat × Int} : q ∈ laterL som hs ↔ ∃ p ∈ hs, ∃ e ∈ som, e.1 = p.1 ∧ q = (e.2.2, p.2 + e.2.1) := by
  unfold laterL
  rw [List.mem_flatMap]
  constructor
  · rintro ⟨p, hp, h⟩
    obtain ⟨e, he, rfl⟩ := List.mem_map.mp h
    obtain ⟨h1, h2⟩ := List.mem_filter.mp he
    exact ⟨p, hp, e, h1, by simpa using h2, rfl⟩
  · rintro ⟨p, hp, e, he, h1, rfl⟩
    exact ⟨p, hp, List.mem_map.mpr ⟨e, List.mem_filter.mpr ⟨he, by simpa using h1⟩, rfl⟩⟩
/-- the rows of k moves from f -/
def RowsAt (som : List T3) (f k : Nat) (hs : List (Nat × Int)) : Prop := hs.Nodup ∧ ∀ p : Nat × Int, p ∈ hs ↔ WlkE som f k p.1 p.2
theorem RowsAt.next {som : List T3} {f k : Nat} {hs hs' : List (Nat × Int)} (h : RowsAt som f k hs) (nd : hs'.Nodup) (m : ∀ p, p ∈ hs' ↔ p ∈ laterL som hs) : RowsAt som f (k + 1) hs' := by
  refine ⟨nd, fun p => ?_⟩
  rw [m, mem_later]
  constructor
  · rintro ⟨q, hq, e, he, h1, rfl⟩
    exact ⟨q.1, q.2, e.2.1, (h.2 q).mp hq, by rw [← h1]; exact he, rfl⟩
  · rintro ⟨n, g0, d, h1, h2, h3⟩
    exact ⟨(n, g0), (h.2 (n, g0)).mpr h1, _, h2, rfl, by rw [← h3]⟩
theorem rows_zero {som : List T3} {f : Nat} : RowsAt som f 0 [(f, 0)] := by
  refine ⟨List.nodup_cons.mpr ⟨List.not_mem_nil, List.nodup_nil⟩, fun p => ?_⟩
  rw [List.mem_singleton]
  constructor
  · rintro rfl; exact ⟨rfl, rfl⟩
  · rintro ⟨h1, h2⟩
    exact Prod.ext h1 h2
/-- few enough, at the spot f, behind k moves -/
def FewAt (som : List T3) (f k : Nat) : Prop := ∀ hs, RowsAt som f k hs → (laterL som hs).length < 64
/-- .. wherever the look comes to -/
def Few (pl : Plan) (us : List Nat) : Prop := ∀ (j f : Nat), us[j]? = some f → (∀ (i f' : Nat), i < j → us[i]? = some f' → ¬ RgAt (someL pl us) us.length f') → ∀ k : Nat, k < us.length → ¬ RgAt (someL pl us) k f → FewAt (someL pl us) f k
theorem wlk_bound {som : List T3} {G : Int} (g0 : 0 ≤ G) (hG : ∀ e ∈ som, e.2.1 ≤ G ∧ -G ≤ e.2.1) {s : Nat} : ∀ {k t : Nat} {g : Int}, WlkE som s k t g → g ≤ G * k ∧ -(G * k) ≤ g
  | 0, t, g, h => by
    obtain ⟨_, rfl⟩ := h
    simp
  | k + 1, t, g, h => by
    obtain ⟨n, g1, d, h1, h2, rfl⟩ := h
    have ih := wlk_bound g0 hG h1
    have b := hG _ h2
    have e : G * ((k + 1 : Nat) : Int) = G * (k : Int) + G := by
      rw [Int.natCast_add, Int.mul_add]; simp
    rw [e]
    have b1 : d ≤ G := b.1
    have b2 : -G ≤ d := b.2
    omega
theorem nodup_map' {α β : Type} {f : α → β} : ∀ {l : List α}, l.Nodup → (∀ x ∈ l, ∀ y ∈ l, f x = f y → x = y) → (l.map f).Nodup
  | [], _, _ => List.nodup_nil
  | x :: r, nd, h => by
    rw [List.nodup_cons] at nd
    rw [List.map_cons, List.nodup_cons]
    refine ⟨fun m => ?_, nodup_map' nd.2 fun a ha b hb => h a (List.mem_cons_of_mem _ ha) b (List.mem_cons_of_mem _ hb)⟩
    obtain ⟨y, hy, e⟩ := List.mem_map.mp m
    have := h y (List.mem_cons_of_mem _ hy) x List.mem_cons_self e
    exact nd.1 (this ▸ hy)
theorem few_bound {som : List T3} {f k G : Nat} (hG : ∀ e ∈ som, e.2.1 ≤ (G : Int) ∧ -(G : Int) ≤ e.2.1) (h : som.length * (2 * (G * k) + 1) < 64) : FewAt som f k := fun hs hr => by
  refine Nat.lt_of_le_of_lt (later_count (c := 2 * (G * k) + 1) (fun s => ?_) som) h
  have nd : ((hs.filter fun p => decide (p.1 = s)).map fun p => (p.2 + ((G * k : Nat) : Int)).toNat).Nodup := by
    refine nodup_map' (hr.1.filter _) fun x hx y hy e => ?_
    obtain ⟨x1, x2⟩ := List.mem_filter.mp hx
    obtain ⟨y1, y2⟩ := List.mem_filter.mp hy
    have bx := wlk_bound (by omega) hG ((hr.2 x).mp x1)
    have bY := wlk_bound (by omega) hG ((hr.2 y).mp y1)
    have e0 : ((G * k : Nat) : Int) = (G : Int) * (k : Int) := Int.natCast_mul _ _
    have a : x.1 = s := by simpa using x2
    have b : y.1 = s := by simpa using y2
    rw [e0] at e
    refine Prod.ext (a.trans b.symm) ?_
    omega
  have := nodup_len (2 * (G * k) + 1) _ nd fun x hx => by
    obtain ⟨p, hp, rfl⟩ := List.mem_map.mp hx
    obtain ⟨x1, _⟩ := List.mem_filter.mp hp
    have bx := wlk_bound (by omega) hG ((hr.2 p).mp x1)
    have e0 : ((G * k : Nat) : Int) = (G : Int) * (k : Int) := Int.natCast_mul _ _
    omega
  rwa [List.length_map] at this
theorem few_heights {som : List T3} {f k : Nat} {ht : Nat → Int} (hh : ∀ e ∈ som, e.2.1 = ht e.2.2 - ht e.1) (h : som.length < 64) : FewAt som f k := fun hs hr => by
  have wl : ∀ {k t : Nat} {g : Int}, WlkE som f k t g → g = ht t - ht f := by
    intro k
    induction k with
    | zero => rintro t g ⟨rfl, rfl⟩; omega
    | succ k ih =>
      rintro t g ⟨n, g0, d, h1, h2, rfl⟩
      have := ih h1
      have b : d = ht t - ht n := hh _ h2
      omega
  refine Nat.lt_of_le_of_lt (later_count (c := 1) (fun s => ?_) som) (by rw [Nat.mul_one]; exact h)
  have nd : ((hs.filter fun p => decide (p.1 = s)).map fun _ => 0).Nodup := by
    refine nodup_map' (hr.1.filter _) fun x hx y hy _ => ?_
    obtain ⟨x1, x2⟩ := List.mem_filter.mp hx
    obtain ⟨y1, y2⟩ := List.mem_filter.mp hy
    have bx := wl ((hr.2 x).mp x1)
    have bY := wl ((hr.2 y).mp y1)
    have a : x.1 = s := by simpa using x2
    have b : y.1 = s := by simpa using y2
    refine Prod.ext (a.trans b.symm) ?_
    rw [bx, bY, a, b]
  have := nodup_len 1 _ nd fun x hx => by
    obtain ⟨p, hp, rfl⟩ := List.mem_map.mp hx
    omega
  rwa [List.length_map] at this
/-! ### the leads of a state -/
def LeadOf (pl : Plan) (us : List Nat) (s : Nat) (g : Int) : Prop := ∃ b k, b ∈ pl.ins ∧ b ∈ us ∧ WlkE (someL pl us) b k s g
theorem lead_bound' {pl : Plan} {us : List Nat} {G : Nat} (U : UsefulL pl us) (nr : ¬ Rg pl us) (hG : ∀ e ∈ someL pl us, e.2.1 ≤ (G : Int) ∧ -(G : Int) ≤ e.2.1) {s : Nat} {g : Int} (h : LeadOf pl us s g) : g ≤ ((G * us.length : Nat) : Int) ∧ -((G * us.length : Nat) : Int) ≤ g := by
  obtain ⟨b, k, hb, hbu, w⟩ := h
  obtain ⟨hs, is, _, e2, e3⟩ := wlk_goes hbu w
  obtain ⟨is', q1, q2, q3⟩ := short_walk U nr is.length (Nat.le_refl _) hbu hs e2
  have w' := wlk_bound (by omega) hG (goes_wlk U hbu is'.length rfl hs q1)
  rw [q2, e3] at w'
  have le : (G : Int) * (is'.length : Int) ≤ ((G * us.length : Nat) : Int) := by
    rw [← Int.natCast_mul]
    exact Int.ofNat_le.mpr (Nat.mul_le_mul_left G q3)
  omega
theorem lead_more {pl : Plan} {us : List Nat} {s t : Nat} {g d : Int} (h : LeadOf pl us s g) (e : (s, d, t) ∈ someL pl us) : LeadOf pl us t (g + d) := by
  obtain ⟨b, k, hb, hbu, w⟩ := h
  exact ⟨b, k + 1, hb, hbu, s, g, d, w, e, rfl⟩
theorem lead_zero {pl : Plan} {us : List Nat} {b : Nat} (hb : b ∈ pl.ins) (hbu : b ∈ us) : LeadOf pl us b 0 := ⟨b, 0, hb, hbu, rfl, rfl⟩
end KP
/-! sorted(set) of pairs of ints, below zero, too -/
namespace EL
open PySem PySem.Spec PyProof.Rows L2
theorem perm_back {α β : Type} {f : α → β} {x y : List β} (h : x.Perm y) : ∀ {L : List α}, y = L.map f → ∃ M : List α, M.Perm L ∧ x = M.map f := by
  induction h with
  | nil =>
    intro L e
    cases L with
    | nil => exact ⟨[], .nil, rfl⟩
    | cons _ _ => cases e
  | @cons a l1 l2 _ ih =>
    intro L e
    cases L with
    | nil => cases e
    | cons b L =>
      rw [List.map_cons] at e
      injection e with e1 e2
      obtain ⟨M, m1, m2⟩ := ih e2
      exact ⟨b :: M, .cons b m1, by rw [List.map_cons, e1, m2]⟩
  | swap a b l =>
    intro L e
    match L, e with
    | c :: d :: L, e =>
      rw [List.map_cons, List.map_cons] at e
      injection e with e1 e2
      injection e2 with e2 e3
      exact ⟨d :: c :: L, .swap c d L, by rw [List.map_cons, List.map_cons, e1, e2, e3]⟩
  | trans _ _ ih1 ih2 =>
    intro L e
    obtain ⟨M2, m1, m2⟩ := ih2 e
    obtain ⟨M1, k1, k2⟩ := ih1 m2
    exact ⟨M1, k1.trans m1, k2⟩
abbrev pr2 (ns : List Int) : Int × Int := (ns.getD 0 0, ns.getD 1 0)
section
variable {P : Program} {w : World} {A : Around} {E : Value → Shared → Prop} {s : Shared}
theorem pair_ints {h : Heap} {b : Addr} {ns : List Int} (x : TS.TupInts h (.ref b) ns) (two : ns.length = 2) : Srt.IsPair h (.ref b) (pr2 ns).1 (pr2 ns).2 := by
  obtain ⟨c, xs, e, ⟨o, ho, hc, n, hd⟩, i⟩ := x
  cases e
  obtain ⟨xs⟩ := xs
  match ns, two with
  | [p, q], _ =>
    have i : IntsAre xs [p, q] := i
    cases i with
    | cons _ t1 i2 =>
      cases i2 with
      | cons _ t2 i3 =>
        cases i3
        exact ⟨b, o, t1, t2, n, rfl, ho, hc, hd⟩
theorem sorted_setP {a : Addr} {L : List (Addr × List Int)} {rows : Array (Int × Value)} {ep : Nat} {tb : SetTable} {Q : Value → Shared → Prop} (R : SetTR P w s.heap a L rows ep tb) (calm : A.handled = none) (two : ∀ p ∈ L, p.2.length = 2)
    (fin : ∀ (s2 : Shared) (z : Addr) (c : Nat) (M : List (Addr × List Int)), (∀ b u, s.heap.get? b = some u → s2.heap.get? b = some u) → s2.gens = s.gens → s2.os = s.os → s.heap.objs.size ≤ z →
      s2.heap.get? z = some (seqObj "list" (M.map fun p => Value.ref p.1).toArray c) → M.Perm L → M.Pairwise (fun p q => SrtO.lexB (pr2 q.2) (pr2 p.2) = false) → Q (.ref z) s2) :
    wpAny (model P w) A (call (.builtin "sorted") [.ref a]) Q E s := by
  obtain ⟨ob, g1, g2, g3⟩ := R.ob
  have big := R.size
  have small := R.few
  have sz : rows.size < scanBound := by unfold scanBound; omega
  refine Calls.call_function_entry kind_sorted plain_sorted entry_sorted (args_sorted1 _) ?_
  unfold Builtin.«sorted»
  refine wpAny_bind (m := checkCount _ _ _ _) (wpAny_pure (wpAny_bind ?_))
  refine collect_set (A := A.in1) calm ⟨ob, g1, g2.1, g3⟩ R.fits sz R.tab.ris R.led fun t got keep lz eg eo pm => ?_
  have er : rows.toList.map (·.2) = L.map fun p => Value.ref p.1 := by
    rw [R.rows]
    unfold rowsOf
    rw [List.map_map]
    rfl
  rw [er] at pm
  have few : got.length < 64 := by rw [pm.length_eq, List.length_map]; exact small
  have cap : got.length ≤ sizeLine := by rw [sizeLine_eq]; omega
  refine wpAny_bind (wpAny_newList ?_ cap)
  have laid : (t.heap.push (seqObj "list" got.toArray 0)).get? t.heap.objs.size = some (seqObj "list" got.toArray 0) := Heap.get?_push_size _ rfl
  have old : ∀ b u, s.heap.get? b = some u → (t.heap.push (seqObj "list" got.toArray 0)).get? b = some u := fun b u e => Heap.get?_push_of_some _ (keep b u e)
  generalize hh : t.heap.push (seqObj "list" got.toArray 0) = hp at laid old
  have tups : ∀ p ∈ L, TS.TupInts hp (.ref p.1) p.2 := fun p m => tupInts_of (P := P) (w := w) (isT_keep (R.tup p m) old)
  have prs : ∀ v ∈ got, Srt.IsPair hp v (pr2 (TS.intsOf hp v)).1 (pr2 (TS.intsOf hp v)).2 := fun v m => by
    obtain ⟨p, hp1, rfl⟩ := List.mem_map.mp (pm.mem_iff.mp m)
    rw [(tups p hp1).ints]
    exact pair_ints (tups p hp1) (two p hp1)
  refine wpAny_bind (wpAny_holding (wpAny_call_entry slot_list_sort ⟨_, laid, rfl⟩ entry_list_sort ?_ (args_list_sort _)))
  refine SrtO.list_sort_ord (s := { t with heap := hp }) (SrtO.swo_lex fun v => pr2 (TS.intsOf hp v)) laid cap (fun ge => ?_) fun out o1 o2 => ?_
  · refine SrtO.pairs_sortableO (s := { t with heap := hp }) (by omega) prs fun u e => ?_
    rw [show hp.get? t.heap.objs.size = some (seqObj "list" got.toArray 0) from laid] at e
    cases e
    intro c
    exact absurd (Value.type.inj c) (by decide)
  · obtain ⟨c, hc⟩ := sortedHeap_at (vs := got) (out := out.toArray) laid
    obtain ⟨M, m1, rfl⟩ := perm_back (o2.perm.trans pm) rfl
    refine ⟨_, rfl, wpAny_pure ⟨_, rfl, fin _ t.heap.objs.size c M (fun b u e => ?_) eg eo lz hc m1 ?_⟩⟩
    · have lt : b < s.heap.objs.size := Heap.lt_size e
      have lt2 : b < t.heap.objs.size := Nat.lt_of_lt_of_le lt lz
      show (sortedHeap hp t.heap.objs.size got _).get? b = some u
      rw [sortedHeap_old (Nat.ne_of_lt lt2) (by rw [← hh, size_push']; exact Nat.lt_succ_of_lt lt2)]
      exact old b u e
    · refine List.Pairwise.imp_of_mem (fun {p q} hp1 hq1 h => ?_) (List.pairwise_map.mp o1)
      have h : SrtO.lexB (pr2 (TS.intsOf hp (.ref q.1))) (pr2 (TS.intsOf hp (.ref p.1))) = false := h
      rw [(tups p (m1.mem_iff.mp hp1)).ints, (tups q (m1.mem_iff.mp hq1)).ints] at h
      exact h
end
section
variable {X : Cx}
/-- sorted(set), a set of pairs of ints -/
def rSortedP (K : PySem.W.Frag) (P : Program) (w : World) : List V → Hp → VK → Prop := fun xs H Q => ∃ (a : Addr) (L : List (Addr × List Int)), xs = [.ref a] ∧ H a = some (SetTO P w a L) ∧ (∀ p ∈ L, SqT K H p.1 (p.2.map V.int) ∧ p.2.length = 2) ∧
  ∀ (M : List (Addr × List Int)) (z : Addr), M.Perm L → (M.map (·.2)).Nodup → M.length < 64 → M.Pairwise (fun p q => SrtO.lexB (pr2 q.2) (pr2 p.2) = false) → H z = none → Q (.ref z) (upd H z (.lst (M.map fun p => V.ref p.1)))
theorem cr_sortedP2 (hc : X.calm = true) : CallR X (.builtin "sorted") (rSortedP X.K X.prog X.w) := by
  intro pins s σ H xs us Q I rv h
  obtain ⟨a, L, rfl, ha, hL, q⟩ := h
  obtain ⟨rows, ep, tb, R⟩ := SetT0.full (I.hok a _ ha).1 fun p m => I.isT (hL p m).1
  rw [Vals.ref1 rv]
  refine sorted_setP R (I.ok.hd hc) (fun p m => (hL p m).2) fun s2 z c M keep eg eo lz at' pm so => ?_
  have fz : H z = none := I.hok.fresh lz
  have few : M.length < 64 := by rw [pm.length_eq]; exact R.few
  have ok : (M.map fun p => V.ref p.1).length ≤ sizeLine := by rw [List.length_map, sizeLine_eq]; omega
  have J : Inv X pins σ (upd H z (.lst (M.map fun p => V.ref p.1))) { s with heap := s2.heap, gens := s2.gens, drawn := s2.drawn, toks := s2.toks } :=
    I.call (ch := []) (Un.laid keep lz fz) (I.hok.laid keep lz ⟨ok, M.map fun p => Value.ref p.1, c, vals_of_refs M, at'⟩) (by rw [eg]; exact I.bare) (fun _ n => nomatch n)
  have same : s2 = { s with heap := s2.heap, gens := s2.gens, drawn := s2.drawn, toks := s2.toks } := by
    cases s2; cases s; cases eo; rfl
  rw [same]
  exact ⟨.ref z, _, J, rfl, q M z pm ((pm.map (·.2)).nodup_iff.mpr R.nd) few so fz⟩
end
end EL
namespace KP
open PySem PySem.Spec PyProof.Rows L2 EL
open Evl (pss_cut)
abbrev sLIsApart : Stmt := topS 72
theorem scLIsApart : FnScope ["_law_used_here", "_law_some", "_law_first", "_law_here", "_law_go", "_law_later", "_law_spot", "_law_total", "_law_near", "_law_gain_here", "_law_far"] ["_law_used_here", "_law_some"] (defScope sLIsApart) := ⟨rfl, rfl, rfl, by decide +kernel, rfl, by decide +kernel, by decide +kernel⟩
abbrev t3D (e : T3) : PyData := .tuple [.int (e.1 : Int), .int e.2.1, .int (e.2.2 : Int)]
structure SomeAt (K : PySem.W.Frag) (H : Hp) (m : Addr) (som : List T3) : Prop where
  at' : ∃ vs, H m = some (.lst vs) ∧ DqAll K H vs (som.map t3D)
theorem SomeAt.up {K : PySem.W.Frag} {H H' : Hp} {m : Addr} {som : List T3} (h : SomeAt K H m som) (s : Same H H') : SomeAt K H' m som := by
  obtain ⟨vs, h1, h2⟩ := h.at'
  exact ⟨vs, s _ _ h1, h2.up s⟩
theorem dq_t3 {K : PySem.W.Frag} {H : Hp} {v : V} {e : T3} (h : Dq K H v (t3D e)) : ∃ T, v = .ref T ∧ SqT K H T [.int (e.1 : Int), .int e.2.1, .int (e.2.2 : Int)] := by
  cases h with
  | tup hs ha =>
    cases ha with
    | cons h1 r1 =>
      cases r1 with
      | cons h2 r2 =>
        cases r2 with
        | cons h3 r3 =>
          cases r3; cases h1; cases h2; cases h3
          exact ⟨_, rfl, hs⟩
theorem all_snoc {α : Type} {l : List α} {x : α} {q : α → Prop} (h : ¬ q x) : (∀ y ∈ l, ¬ q y) ↔ ∀ y ∈ l ++ [x], ¬ q y := by
  constructor
  · intro a y hy
    rcases List.mem_append.mp hy with z | z
    · exact a y z
    · rw [List.mem_singleton.mp z]; exact h
  · intro a y hy
    exact a y (List.mem_append_left _ hy)
def outOf (p : Nat × Int) (l : List T3) : List (Nat × Int) := (l.filter fun e => decide (e.1 = p.1)).map fun e => (e.2.2, p.2 + e.2.1)
theorem outOf_snoc (p : Nat × Int) (l : List T3) (e : T3) : outOf p (l ++ [e]) = outOf p l ++ (if e.1 = p.1 then [(e.2.2, p.2 + e.2.1)] else []) := by
  unfold outOf
  rw [List.filter_append, List.map_append]
  congr 1
  by_cases h : e.1 = p.1
  · rw [if_pos h, List.filter_cons_of_pos (by simpa using h)]; rfl
  · rw [if_neg h, List.filter_cons_of_neg (by simpa using h)]; rfl
theorem outOf_len (p : Nat × Int) (l : List T3) : (outOf p l).length ≤ l.length := by
  unfold outOf
  rw [List.length_map]
  exact List.length_filter_le _ _
theorem later_snoc (som : List T3) (hs : List (Nat × Int)) (p : Nat × Int) : laterL som (hs ++ [p]) = laterL som hs ++ outOf p som := by
  unfold laterL outOf
  rw [List.flatMap_append, List.flatMap_cons, List.flatMap_nil, List.append_nil]
theorem later_take (som : List T3) (hs : List (Nat × Int)) (i : Nat) : (laterL som (hs.take i)).length ≤ (laterL som hs).length := by
  have e : laterL som hs = laterL som (hs.take i) ++ laterL som (hs.drop i) := by
    unfold laterL
    rw [← List.flatMap_append, List.take_append_drop]
  rw [e, List.length_append]
  omega
/-- rows: pairs of a spot and a total -/
structure RowsL (K : PySem.W.Frag) (H : Hp) (l : Addr) (hs : List (Nat × Int)) : Prop where
  at' : ∃ ks : List (Addr × List Int), H l = some (.lst (ks.map fun p => V.ref p.1)) ∧ (∀ p ∈ ks, SqT K H p.1 (p.2.map V.int)) ∧ ks.map (·.2) = hs.map fun p => [(p.1 : Int), p.2]
theorem RowsL.kpt {K : PySem.W.Frag} {H H' : Hp} {l : Addr} {hs : List (Nat × Int)} (h : RowsL K H l hs) (k : KpT H H') (e : H' l = H l) : RowsL K H' l hs := by
  obtain ⟨ks, h1, h2, h3⟩ := h.at'
  exact ⟨ks, e.trans h1, fun p hp => sqT_kpt k (h2 p hp), h3⟩
theorem RowsL.up {K : PySem.W.Frag} {H H' : Hp} {l : Addr} {hs : List (Nat × Int)} (h : RowsL K H l hs) (s : Same H H') : RowsL K H' l hs := by
  obtain ⟨ks, h1, h2, h3⟩ := h.at'
  exact ⟨ks, s _ _ h1, fun p hp => ex_t' s (h2 p hp), h3⟩
theorem RowsL.len {K : PySem.W.Frag} {H : Hp} {l : Addr} {hs : List (Nat × Int)} (h : RowsL K H l hs) : ∃ ks : List (Addr × List Int), H l = some (.lst (ks.map fun p => V.ref p.1)) ∧ (∀ p ∈ ks, SqT K H p.1 (p.2.map V.int)) ∧ ks.map (·.2) = (hs.map fun p => [(p.1 : Int), p.2]) ∧ ks.length = hs.length := by
  obtain ⟨ks, h1, h2, h3⟩ := h.at'
  have := congrArg List.length h3
  rw [List.length_map, List.length_map] at this
  exact ⟨ks, h1, h2, h3, this⟩
theorem RowsL.snoc {K : PySem.W.Frag} {H : Hp} {l : Addr} {hs : List (Nat × Int)} {p : Nat × Int} {T : Addr} (h : RowsL K H l hs) (hT : SqT K H T [.int (p.1 : Int), .int p.2]) : ∃ acc, H l = some (.lst acc) ∧ acc.length = hs.length ∧ RowsL K (upd H l (.lst (acc ++ [.ref T]))) l (hs ++ [p]) := by
  obtain ⟨ks, h1, h2, h3, h4⟩ := h.len
  refine ⟨_, h1, by rw [List.length_map, h4], ⟨ks ++ [(T, [(p.1 : Int), p.2])], by rw [upd_same, List.map_append]; rfl, fun q hq => ?_, by rw [List.map_append, List.map_append, h3]; rfl⟩⟩
  rcases List.mem_append.mp hq with z | z
  · exact sqT_kpt (.lst h1) (h2 q z)
  · rw [List.mem_singleton.mp z]; exact sqT_kpt (.lst h1) hT
theorem RowsL.at {K : PySem.W.Frag} {H : Hp} {l : Addr} {hs : List (Nat × Int)} {i : Nat} {v : V} {xs : List V} (h : RowsL K H l hs) (hx : H l = some (.lst xs)) (hv : xs[i]? = some v) : ∃ p T, hs[i]? = some p ∧ v = .ref T ∧ SqT K H T [.int (p.1 : Int), .int p.2] := by
  obtain ⟨ks, h1, h2, h3, h4⟩ := h.len
  rw [h1] at hx
  cases hx
  rw [List.getElem?_map] at hv
  obtain ⟨q, hq, rfl⟩ := Option.map_eq_some_iff.mp hv
  have hq2 : (ks.map (·.2))[i]? = some q.2 := by rw [List.getElem?_map, hq]; rfl
  rw [h3, List.getElem?_map] at hq2
  obtain ⟨p, hp, e⟩ := Option.map_eq_some_iff.mp hq2
  have := h2 q (List.mem_of_getElem? hq)
  rw [← e] at this
  exact ⟨p, _, hp, rfl, this⟩
def spIsApart (K : PySem.W.Frag) : Sp := fun vs H Q _ => ∃ (u m : Addr) (pl : Plan) (us : List Nat) (G : Nat), vs = [.ref u, .ref m] ∧ H u = some (.lst (ixs us)) ∧ SomeAt K H m (someL pl us) ∧ us.length ≤ 50 ∧ pl.ways.length ≤ 50 ∧ (∀ e ∈ someL pl us, e.2.1 ≤ (G : Int) ∧ -(G : Int) ≤ e.2.1) ∧ G ≤ 1000 ∧ (∀ s ∈ us, s ≤ 1000) ∧ Few pl us ∧
  ∀ (b : Bool) H', Same H H' → (b = true ↔ ∃ s ∈ us, RgAt (someL pl us) us.length s) → Q (.bl b) H'
section
variable {P : Program} {w : World} {K : PySem.W.Frag} {mg : Str → Option Value} {base : Heap}
theorem ok_LIsApart {f : Addr} {fd : FuncData} {k : Nat} (F : Fun K "_law_is_apart" "_law_is_apart" sLIsApart f fd) (nrange : mg "range" = none) (nlen : mg "len" = none) (nsorted : mg "sorted" = none) (nset : mg "set" = none) : FnOk P w K mg base CX0 (k + 1) f fd ["_law_used_here", "_law_some"] (spIsApart K) := by
  refine F.ok scLIsApart (fun vs H Q E h => ?_) (fun cdv A outer s H vs Q E hr h => ?_)
  · obtain ⟨u, m, pl, us, G, rfl, _⟩ := h; rfl
  · obtain ⟨u, m, pl, us, G, rfl, gU, S0, hus, hwn, hG, hG1, hsm, few, kQ⟩ := h
    have hu := hr.units
    refine ⟨_, (pss_cons (ps_for PassesOwn.never rfl (pi_list (pv 0)) (pg_name (i := 2) scLIsApart.nd rfl (by first | exact Or.inl rfl | exact Or.inr rfl)) (pss_cons (ps_set (i := 3) scLIsApart.nd rfl (by first | exact Or.inl rfl | exact Or.inr rfl) (pe_lst (pa_cons (pe_tup (pa_cons (pv 2) (pa_cons pe_int pa_nil))) pa_nil)))
      (pss_one (ps_for PassesOwn.never rfl (pi_range1 rfl nrange (pa_cons (pe_callB (show CallR _ _ (rLenK K) from call_len) (by rfl) nlen (by decide +kernel) (pa_cons (pv 0) pa_nil)) pa_nil)) (pg_name (i := 4) scLIsApart.nd rfl (by first | exact Or.inl rfl | exact Or.inr rfl)) (pss_cons (ps_set (i := 5) scLIsApart.nd rfl (by first | exact Or.inl rfl | exact Or.inr rfl) (pe_lst pa_nil))
      (pss_cons (ps_for PassesOwn.never rfl (pi_list (pv 3)) (pg_tup (by rfl) (pgs_cons (pg_name (i := 6) scLIsApart.nd rfl (by first | exact Or.inl rfl | exact Or.inr rfl)) (pgs_cons (pg_name (i := 7) scLIsApart.nd rfl (by first | exact Or.inl rfl | exact Or.inr rfl)) pgs_nil))) (pss_one (ps_expr (pe_bm PySem.F.plainAttrs_list PySem.F.slot_list_extend PySem.F.type_list_extend mt_extend (pv 5) (pa_cons (pe_lc (own := [("_law_near", 8), ("_law_gain_here", 9), ("_law_far", 10)]) (g := (gTup K 3 (gCons (gName 8) (gCons (gName 9) (gCons (gName 10) gNil))))) (by rfl) scLIsApart.nd (pi_list (pv 1)) (blkOk_by (own := [("_law_near", 8), ("_law_gain_here", 9), ("_law_far", 10)]) (N := ["_law_used_here", "_law_some", "_law_first", "_law_here", "_law_go", "_law_later", "_law_spot", "_law_total", "_law_near", "_law_gain_here", "_law_far"]) (sc := defScope sLIsApart) (by decide +kernel)) (fun _ _ _ _ _ => (pg_tup (by rfl) (pgs_cons (pg_name (i := 8) scLIsApart.nd rfl (by first | exact Or.inl rfl | exact Or.inr rfl)) (pgs_cons (pg_name (i := 9) scLIsApart.nd rfl (by first | exact Or.inl rfl | exact Or.inr rfl)) (pgs_cons (pg_name (i := 10) scLIsApart.nd rfl (by first | exact Or.inl rfl | exact Or.inr rfl)) pgs_nil))))) (fun _ _ _ _ _ => (pts_one (pt_cmpR op_eq (pv 8) (pv 6) (nomark _)))) (fun _ _ _ _ _ => (pe_tup (pa_cons (pv 10) (pa_cons (pe_op op_add (pv 7) (pv 9)) pa_nil))))) pa_nil)))))
      (pss_cons (ps_set (i := 3) scLIsApart.nd rfl (by first | exact Or.inl rfl | exact Or.inr rfl) (pe_callB (cr_sortedP2 rfl) (by rfl) nsorted (by decide +kernel) (pa_cons (pe_callTy (cr_setOfT rfl hu) (by rfl) nset (by decide +kernel) (pa_cons (pv 5) pa_nil)) pa_nil)))
      (pss_one (ps_if (pt_cmpR (op_neN hr.units0) (pe_lc (own := [("_law_spot", 6), ("_law_total", 7)]) (g := (gTup K 2 (gCons (gName 6) (gCons (gName 7) gNil)))) (by rfl) scLIsApart.nd (pi_list (pv 3)) (blkOk_by (own := [("_law_spot", 6), ("_law_total", 7)]) (N := ["_law_used_here", "_law_some", "_law_first", "_law_here", "_law_go", "_law_later", "_law_spot", "_law_total", "_law_near", "_law_gain_here", "_law_far"]) (sc := defScope sLIsApart) (by decide +kernel)) (fun _ _ _ _ _ => (pg_tup (by rfl) (pgs_cons (pg_name (i := 6) scLIsApart.nd rfl (by first | exact Or.inl rfl | exact Or.inr rfl)) (pgs_cons (pg_name (i := 7) scLIsApart.nd rfl (by first | exact Or.inl rfl | exact Or.inr rfl)) pgs_nil)))) (fun _ _ _ _ _ => (pts_one (PW.pt (pw_and (pt_cmpR op_eq (pv 6) (pv 2) (nomark _)) (pw_and1 (pt_cmpR op_ne (pv 7) pe_int (nomark _))))))) (fun _ _ _ _ _ => pe_int)) (pe_lst pa_nil) (nomark _)) (pss_one (ps_ret pe_bl)) pss_nil)))))))))
      (pss_one (ps_ret pe_bl))), ?_⟩
    refine ⟨.ref u, rfl, u, rfl, ⟨_, sqOf gU⟩, ?_⟩
    have lixs : (ixs us).length = us.length := by unfold ixs; rw [List.length_map]
    refine for_it walk_list (fun j σ H' => ∃ (y2 y3 y4 y5 y6 y7 : Option V), σ = [some (.ref u), some (.ref m), y2, y3, y4, y5, y6, y7, none, none, none] ∧ Same H H' ∧ ∀ i f', i < j → us[i]? = some f' → ¬ RgAt (someL pl us) us.length f')
      ⟨none, none, none, none, none, none, rfl, Same.refl H, fun i f' h => absurd h (Nat.not_lt_zero _)⟩ (fun j σ H' _ z => by obtain ⟨_, _, _, _, _, _, _, sm, _⟩ := z; exact sqOf (sm _ _ gU)) ?_ ?_
    · rintro j y σ H1 H2 hj ⟨y2, y3, y4, y5, y6, y7, rfl, s1, none1⟩ ⟨rfl, hy⟩
      obtain ⟨f0, hf0, rfl⟩ : ∃ f0, us[j]? = some f0 ∧ y = V.int (f0 : Int) := by
        rw [List.getElem?_map] at hy
        obtain ⟨f0, h1, h2⟩ := Option.map_eq_some_iff.mp hy
        exact ⟨f0, h1, h2.symm⟩
      have two : 2 ≤ sizeLine := by decide
      have one : 1 ≤ sizeLine := by decide
      refine ⟨_, rfl, two, fun t nt => ⟨one, fun l nl => ?_⟩⟩
      have st := same_upd (o := .tup [V.int (f0 : Int), V.int 0]) nt
      have gt : upd H2 t (.tup [V.int (f0 : Int), V.int 0]) t = some (.tup [V.int (f0 : Int), V.int 0]) := upd_same
      generalize upd H2 t (.tup [V.int (f0 : Int), V.int 0]) = H3 at st gt nl ⊢
      have sl := same_upd (o := .lst [V.ref t]) nl
      have gl : upd H3 l (.lst [V.ref t]) l = some (.lst [V.ref t]) := upd_same
      generalize upd H3 l (.lst [V.ref t]) = H4 at sl gl ⊢
      have s4 := s1.trans (st.trans sl)
      have gU4 := s4 _ _ gU
      have lixs : (ixs us).length = us.length := by unfold ixs; rw [List.length_map]
      refine ⟨.ref u, rfl, .ref u, us.length, rfl, .inl ⟨_, sqOf gU4, lixs.symm⟩, ⟨_, rfl, by omega, by omega, ?_⟩⟩
      rw [show ((us.length : Nat) : Int).toNat = us.length from Int.toNat_natCast _]
      have fewj := fun k hk => few j f0 hf0 none1 k hk
      refine for_it walk_range (fun g σ H' => ∃ (y4 y5 y6 y7 : Option V) (l : Addr) (hs : List (Nat × Int)), σ = [some (.ref u), some (.ref m), some (.int (f0 : Int)), some (.ref l), y4, y5, y6, y7, none, none, none] ∧ Same H H' ∧ RowsL K H' l hs ∧ RowsAt (someL pl us) f0 g hs ∧ ¬ RgAt (someL pl us) g f0)
        ⟨_, _, _, _, l, [(f0, 0)], rfl, s4, ⟨[(t, [(f0 : Int), 0])], gl, fun p hp => by rw [List.mem_singleton.mp hp]; exact stOf (sl _ _ gt), rfl⟩, rows_zero, fun ⟨_, _, h, _⟩ => absurd h (Nat.not_lt_zero _)⟩ (fun _ _ _ _ _ => trivial) ?_ ?_
      · rintro g y σ H5 H6 hg ⟨y4, y5, y6, y7, l1, hs, rfl, s6, R6, A6, nr6⟩ ⟨rfl, rfl⟩
        refine ⟨Nat.zero_le _, fun L nL => ?_⟩
        have nLH : H L = none := s6.free nL
        have sL := same_upd (o := .lst []) nL
        have gL : upd H6 L (.lst []) L = some (.lst []) := upd_same
        obtain ⟨ks, k1, k2, k3, k4⟩ := R6.len
        have lL1 : l1 ≠ L := ne_of_none k1 nL
        generalize upd H6 L (.lst []) = H7 at sL gL ⊢
        have s67 := sL
        have hlt := few j f0 hf0 none1 g hg nr6 hs A6
        refine ⟨.ref l1, rfl, l1, rfl, ⟨_, sqOf (sL _ _ k1)⟩, ?_⟩
        refine for_it walk_list (fun i σ H' => ∃ (y4 y6 y7 : Option V), σ = [some (.ref u), some (.ref m), some (.int (f0 : Int)), some (.ref l1), y4, some (.ref L), y6, y7, none, none, none] ∧ Same H6 H' ∧ RowsL K H' L (laterL (someL pl us) (hs.take i)))
          ⟨_, _, _, rfl, sL, ⟨[], gL, (fun _ h => nomatch h), by rw [List.take_zero]; rfl⟩⟩ (fun i σ H' _ z => by obtain ⟨_, _, _, _, sm, _⟩ := z; exact sqOf (sm _ _ k1)) ?_ ?_
        · rintro i y σ H8 H9 hi ⟨y4, y6, y7, rfl, s8, R8⟩ ⟨rfl, hy⟩
          obtain ⟨p, T, hp, rfl, hT⟩ := (R6.up s8).at (s8 _ _ k1) hy
          refine ⟨T, _, rfl, hT, rfl, _, _, rfl, _, _, rfl, rfl, ?_⟩
          obtain ⟨kl, q1, q2, q3, q4⟩ := R8.len
          have s09 := s6.trans s8
          obtain ⟨vm, m1, m2⟩ := (S0.up s09).at'
          have hvm : vm.length = (someL pl us).length := by rw [m2.len, List.length_map]
          have hsl := some_len pl us
          refine ⟨.ref L, rfl, .inl ⟨rfl, _, sqOf q1⟩, .ref m, rfl, m, rfl, ⟨_, sqOf m1⟩, fun D nD => ?_⟩
          have nDL : L ≠ D := ne_of_none q1 nD
          refine it_gen (walk_list (K := K) (a := m) (xs := vm)) (fun i H' => Same H9 H' ∧ RowsL K H' D (outOf p ((someL pl us).take i))) ⟨same_upd nD, ⟨[], upd_same, (fun _ h => nomatch h), by rw [List.take_zero]; rfl⟩⟩ (fun i H' _ z => sqOf (z.1 _ _ m1)) ?_ ?_
          · rintro i2 y HA HB hi2 ⟨sA, RA⟩ ⟨rfl, hy2⟩
            obtain ⟨dd, hdd, hdq⟩ := m2.at hy2
            obtain ⟨e, he, rfl⟩ := mv_get hdd
            obtain ⟨T2, rfl, hT2⟩ := dq_t3 (hdq.up sA)
            refine ⟨T2, _, rfl, hT2, rfl, _, _, rfl, _, _, rfl, _, _, rfl, rfl, ?_⟩
            refine ⟨rfl, _, rfl, _, rfl, rfl, _, rfl, ?_⟩
            have tk : (someL pl us).take (i2 + 1) = (someL pl us).take i2 ++ [e] := take_snoc he
            have hxi : i2 < (someL pl us).length := (List.getElem?_eq_some_iff.mp he).1
            have rl : (outOf p ((someL pl us).take i2)).length ≤ 50 := by
              have := outOf_len p ((someL pl us).take i2)
              rw [List.length_take] at this
              omega
            by_cases hb : e.1 = p.1
            · rw [decide_eq_true (by rw [hb])]
              refine iteT ⟨_, rfl, _, rfl, _, rfl, _, _, rfl, rfl, two, fun T3 nT3 => ?_⟩
              have s3 := same_upd (o := .tup [V.int (e.2.2 : Int), V.int (p.2 + e.2.1)]) nT3
              have g3 : upd HB T3 (.tup [V.int (e.2.2 : Int), V.int (p.2 + e.2.1)]) T3 = some (.tup [V.int (e.2.2 : Int), V.int (p.2 + e.2.1)]) := upd_same
              dsimp only [tNil]
              generalize upd HB T3 (.tup [V.int (e.2.2 : Int), V.int (p.2 + e.2.1)]) = HC at s3 g3 ⊢
              obtain ⟨acc, a1, a2, a3⟩ := (RA.up s3).snoc (p := (e.2.2, p.2 + e.2.1)) (stOf g3)
              refine ⟨acc, a1, lt_sz (by omega), fun x o h => by rw [upd_ne (ne_of_none h nD)]; exact s3 _ _ (sA _ _ h), ?_⟩
              rw [tk, outOf_snoc, if_pos hb]
              exact a3
            · rw [decide_eq_false (fun z => hb (by have : (e.1 : Int) = (p.1 : Int) := by injection z
                                                   omega))]
              refine iteF ⟨sA, ?_⟩
              rw [tk, outOf_snoc, if_neg hb, List.append_nil]
              exact RA
          · rintro HA ⟨sA, RA⟩
            rw [hvm, List.take_length] at RA
            obtain ⟨kd, d1, d2, d3, d4⟩ := RA.len
            have q1A := sA _ _ q1
            have hol := outOf_len p (someL pl us)
            have hlt2 := later_take (someL pl us) hs i
            dsimp only [tNil]
            refine ⟨L, D, _, _, rfl, rfl, q1A, d1, len_sz (by rw [List.length_map, List.length_map]; omega), ?_⟩
            have kp : KpT HA (upd HA L (.lst ((kl.map fun p => V.ref p.1) ++ kd.map fun p => V.ref p.1))) := .lst q1A
            refine ⟨_, _, _, rfl, fun x o h => by rw [upd_ne (ne_of_none h nL)]; exact sA _ _ (s8 _ _ h), ⟨kl ++ kd, by rw [upd_same, List.map_append], fun q hq => ?_, ?_⟩⟩
            · rcases List.mem_append.mp hq with z | z
              · exact sqT_kpt kp (ex_t' sA (q2 q z))
              · exact sqT_kpt kp (d2 q z)
            · rw [take_snoc hp, later_snoc, List.map_append, List.map_append, q3, d3]
        · rintro σ H8 ⟨y4, y6, y7, rfl, s8, R8⟩
          rw [show (ks.map fun p => V.ref p.1).length = hs.length by rw [List.length_map, k4], List.take_length] at R8
          obtain ⟨kl, q1, q2, q3, q4⟩ := R8.len
          have s08 := s6.trans s8
          have kb : ∀ p ∈ kl, ∃ (n : Nat) (g : Int), p.2 = [(n : Int), g] ∧ (n, g) ∈ laterL (someL pl us) hs := fun p hp => by
            have : p.2 ∈ kl.map (·.2) := List.mem_map.mpr ⟨p, hp, rfl⟩
            rw [q3] at this
            obtain ⟨x, hx, e⟩ := List.mem_map.mp this
            exact ⟨x.1, x.2, e.symm, hx⟩
          refine ⟨.ref L, rfl, L, kl, rfl, sqOf q1, q2, by rw [q4]; exact hlt, fun a La na l1' l2' => ?_⟩
          have sa := same_upd (o := SetTO P w a La) na
          refine ⟨a, La, rfl, upd_same, fun p hp => ⟨ex_t' sa (q2 p (l1' p hp)), ?_⟩, fun M z perm nd lt so nz => ?_⟩
          · obtain ⟨n, g', e, hm⟩ := kb p (l1' p hp)
            rw [e]; rfl
          · dsimp only
            generalize hHZ : upd (upd H8 a _) z _ = HZ
            have sz : Same (upd H8 a (SetTO P w a La)) HZ := by rw [← hHZ]; exact same_upd nz
            have gz : HZ z = some (.lst (M.map fun p => V.ref p.1)) := by rw [← hHZ]; exact upd_same
            have s8z := sa.trans sz
            have Mk : ∀ p ∈ M, p ∈ kl := fun p hp => l1' p (perm.mem_iff.mp hp)
            -- the rows of M as pairs
            have hM : M.map (·.2) = (M.map fun p => ((p.2.getD 0 0).toNat, p.2.getD 1 0)).map fun (p : Nat × Int) => [(p.1 : Int), p.2] := by
              rw [List.map_map]
              refine List.map_congr_left fun p hp => ?_
              obtain ⟨n, g', e, hm⟩ := kb p (Mk p hp)
              show p.2 = [(((p.2.getD 0 0).toNat : Nat) : Int), p.2.getD 1 0]
              rw [e]
              rfl
            generalize hN : (M.map fun p => ((p.2.getD 0 0).toNat, p.2.getD 1 0)) = N at hM
            have RN : RowsL K HZ z N := ⟨M, gz, fun p hp => ex_t' s8z (q2 p (Mk p hp)), hM⟩
            have inj : ∀ p q : Nat × Int, [(p.1 : Int), p.2] = [(q.1 : Int), q.2] → p = q := fun p q e => by
              injection e with e1 e2
              injection e2 with e2 _
              exact Prod.ext (Int.ofNat.inj e1) e2
            have memN : ∀ p, p ∈ N ↔ p ∈ laterL (someL pl us) hs := fun p => by
              have a1 : p ∈ N ↔ [(p.1 : Int), p.2] ∈ M.map (·.2) := by
                rw [hM, List.mem_map]
                exact ⟨fun h => ⟨p, h, rfl⟩, fun ⟨q, hq, e⟩ => by rw [← inj q p e]; exact hq⟩
              have a2 : p ∈ laterL (someL pl us) hs ↔ [(p.1 : Int), p.2] ∈ kl.map (·.2) := by
                rw [q3, List.mem_map]
                exact ⟨fun h => ⟨p, h, rfl⟩, fun ⟨q, hq, e⟩ => by rw [← inj q p e]; exact hq⟩
              rw [a1, a2]
              constructor
              · intro h
                obtain ⟨x, hx, e⟩ := List.mem_map.mp h
                exact List.mem_map.mpr ⟨x, Mk x hx, e⟩
              · intro h
                obtain ⟨x, hx, e⟩ := List.mem_map.mp h
                have := l2' x hx
                rw [← e]
                exact ((perm.map (·.2)).mem_iff).mpr this
            have ndN : N.Nodup := by
              rw [hM] at nd
              exact nodup_of_map nd
            have AN := A6.next ndN memN
            have sHZ := s08.trans s8z
            refine ⟨.ref z, rfl, z, rfl, ⟨_, sqOf gz⟩, fun D nD => ?_⟩
            obtain ⟨kz, z1, z2, z3, z4⟩ := RN.len
            refine it_gen (walk_list (K := K) (a := z) (xs := M.map fun p => V.ref p.1)) (fun i H' => Same HZ H' ∧ ∃ acc, H' D = some (.lst acc) ∧ acc.length ≤ i ∧ (acc = [] ↔ ∀ p ∈ N.take i, ¬ (p.1 = f0 ∧ p.2 ≠ 0))) ⟨same_upd nD, [], upd_same, Nat.le_refl _, by rw [List.take_zero]; exact ⟨fun _ _ h => (nomatch h), fun _ => rfl⟩⟩ (fun i H' _ w => sqOf (w.1 _ _ gz)) ?_ ?_
            · rintro i y HA HB hi2 ⟨sA, acc, gA, lA, eA⟩ ⟨rfl, hy⟩
              obtain ⟨p, T, hp, rfl, hT⟩ := (RN.up sA).at (sA _ _ gz) hy
              have hi3 : i < 64 := by rw [List.length_map] at hi2; omega
              have tk := take_snoc hp
              refine ⟨T, _, rfl, hT, rfl, _, _, rfl, _, _, rfl, rfl, ?_⟩
              refine ⟨rfl, _, rfl, _, rfl, rfl, _, rfl, ?_⟩
              by_cases h1 : p.1 = f0
              · rw [decide_eq_true (by rw [h1])]
                refine iteT ⟨_, rfl, rfl, _, rfl, ?_⟩
                by_cases h2 : p.2 = 0
                · rw [decide_eq_true (by rw [h2])]
                  refine iteF ⟨sA, acc, gA, by omega, ?_⟩
                  rw [tk]
                  exact eA.trans (all_snoc fun w => w.2 h2)
                · rw [decide_eq_false (fun w => h2 (by injection w))]
                  refine iteT ⟨acc, gA, lt_sz (by omega), fun x o h => by rw [upd_ne (ne_of_none h nD)]; exact sA _ _ h, _, upd_same, by rw [List.length_append]; show _ + 1 ≤ _; omega, ⟨fun w => absurd w (by simp), fun w => ?_⟩⟩
                  rw [tk] at w
                  exact absurd ⟨h1, h2⟩ (w p (List.mem_append_right _ List.mem_cons_self))
              · rw [decide_eq_false (fun w => h1 (by have : (p.1 : Int) = (f0 : Int) := by injection w
                                                     omega))]
                refine iteF (iteF ⟨sA, acc, gA, by omega, ?_⟩)
                rw [tk]
                exact eA.trans (all_snoc fun w => h1 w.1)
            · rintro HA ⟨sA, acc, gA, lA, eA⟩
              rw [List.take_of_length_le (by rw [List.length_map, ← hN, List.length_map]; exact Nat.le_refl _)] at eA
              refine ⟨Nat.zero_le _, fun B nB => ?_⟩
              have sB := same_upd (o := .lst []) nB
              have gB : upd HA B (.lst []) B = some (.lst []) := upd_same
              dsimp only [tNil]
              generalize upd HA B (.lst []) = HC at sB gB ⊢
              refine ⟨D, B, acc, rfl, rfl, sqOf (sB _ _ gA), sqOf gB, _, rfl, ?_⟩
              have sHC := (sHZ.trans sA).trans sB
              by_cases ha : acc = []
              · rw [decide_eq_true ha]
                refine iteF ⟨_, _, _, _, z, N, rfl, sHC, (RN.up sA).up sB, AN, fun ⟨kk, gg, q1', q2', q3'⟩ => ?_⟩
                rcases Nat.lt_or_ge kk g with lt2 | ge2
                · exact nr6 ⟨kk, gg, lt2, q2', q3'⟩
                · obtain rfl : kk = g := by omega
                  exact eA.mp ha (f0, gg) ((AN.2 (f0, gg)).mpr q2') ⟨rfl, q3'⟩
              · rw [decide_eq_false ha]
                refine iteT (kQ true HC sHC ⟨fun _ => ?_, fun _ => rfl⟩)
                obtain ⟨p, hp, h1, h2⟩ : ∃ p ∈ N, p.1 = f0 ∧ p.2 ≠ 0 := Classical.byContradiction fun no => ha (eA.mpr fun p hp w => no ⟨p, hp, w⟩)
                refine ⟨f0, List.mem_of_getElem? hf0, g, p.2, hg, ?_, h2⟩
                rw [← h1]
                have := (AN.2 p).mp hp
                rwa [h1] at this ⊢
      · rintro σ H5 ⟨y4, y5, y6, y7, l1, hs, rfl, s5, R5, A5, nr5⟩
        refine ⟨_, _, _, _, _, _, rfl, s5, fun i f' hi hf' => ?_⟩
        rcases Nat.lt_or_ge i j with lt | ge
        · exact none1 i f' lt hf'
        · obtain rfl : i = j := by omega
          rw [hf0] at hf'
          cases hf'
          exact nr5
    · rintro σ H1 ⟨y2, y3, y4, y5, y6, y7, rfl, s1, none1⟩
      refine kQ false H1 s1 ⟨fun z => (by cases z), fun ⟨s, hs, w⟩ => ?_⟩
      obtain ⟨i, hi⟩ := List.mem_iff_getElem?.mp hs
      exact absurd w (none1 i s (by rw [lixs]; exact (List.getElem?_eq_some_iff.mp hi).1) hi)
end
end KP
/-! repr of a dict whose keys and values are data without dicts -/
namespace EL
open PySem PySem.Spec PyProof.Rows L2
theorem key_rel {P : Program} {w : World} {k : L2.Key} {u : Value} (h : (mixKind P w).is k u = true) : RelV (kV k) u := by
  rcases keyIs_shape h with ⟨i, t, rfl, rfl⟩ | ⟨x, t, rfl, rfl⟩
  · exact ⟨t, rfl⟩
  · exact ⟨t, rfl⟩
theorem kv_entries {P : Program} {w : World} : ∀ {kvs : List (L2.Key × V)} {vs : List (L2.Key × Value)} {es : List DictEntry}, KV kvs vs → Pairs (mixKind P w) es vs →
    Vals (kvs.map fun p => kV p.1) (es.map (·.key)) ∧ Vals (kvs.map (·.2)) (es.map (·.val))
  | _, _, _, .nil, .nil => ⟨.nil, .nil⟩
  | p :: kvs, q :: vs, e :: es, .cons r t, .cons k1 v1 ps => by
    obtain ⟨a, b⟩ := kv_entries t ps
    refine ⟨.cons ?_ a, .cons ?_ b⟩
    · have : p.1 = q.1 := r.1
      show RelV (kV p.1) e.key
      rw [this]
      exact key_rel k1
    · show RelV p.2 e.val
      rw [v1]
      exact r.2
section
variable {prog : Program} {w : World} {h0 : Heap} {a : Addr} {o : Obj} {es : Array DictEntry} {n : Nat} {ds : List (PyData × PyData)} {as bs : List Addr}
theorem shows_flatDict (g1 : h0.get? a = some o) (g2 : o.cls = .type "dict") (g3 : o.data = .dict es n) (rk : ReadsAll h0 (es.toList.map (·.key)) (ds.map (·.1)) as) (rv : ReadsAll h0 (es.toList.map (·.val)) (ds.map (·.2)) bs)
    (ok : (PyData.dict ds).showable = true) (nk : PyData.hasDictAll (ds.map (·.1)) = false) (nv : PyData.hasDictAll (ds.map (·.2)) = false) (far : (a == sysModules) = false) (room : (PyData.dict ds).shown.length ≤ sizeLine) :
    ShowsBy prog w h0 a (.dict ds) "dict" "dict.__repr__" := by
  have fits : (dictText (PyData.shownKv ds)).length ≤ sizeLine := by simpa only [PyData.shown] using room
  obtain ⟨ok1, ok2⟩ := PyData.showableKv_split ds (by simpa [PyData.showable] using ok)
  obtain ⟨b1, m1, k1⟩ := ReprAllK.of_readsAll (prog := prog) (w := w) rk ok1 (fun z => by rw [nk] at z; cases z) (fun t ht => by
    obtain ⟨p, hp, hl⟩ := PyData.shownKv_key_le ds t ht
    exact Nat.le_trans hl (Nat.le_trans (dictText_mem_le hp) fits))
  obtain ⟨b2, m2, k2⟩ := ReprAllK.of_readsAll (prog := prog) (w := w) rv ok2 (fun z => by rw [nv] at z; cases z) (fun t ht => by
    obtain ⟨p, hp, hl⟩ := PyData.shownKv_val_le ds t ht
    exact Nat.le_trans hl (Nat.le_trans (dictText_mem_le hp) fits))
  have both : ReadAtMost h0 (PyData.depthKv ds) (b1 ++ b2) := (m1.mono (PyData.depthAll_keys_le ds)).append (m2.mono (PyData.depthAll_vals_le ds))
  have self : a ∉ b1 ++ b2 := not_mem_of_deeper (.dict g1 g2 g3 rk rv) (by simp only [PyData.depth]; omega) both
  have ent := ReprEntriesK.of_two es.toList _ _ (k1.more_le (as' := b1 ++ b2) (fun _ hb => List.mem_append_left _ hb) (PyData.depthAll_keys_le ds)) (k2.more_le (as' := b1 ++ b2) (fun _ hb => List.mem_append_right _ hb) (PyData.depthAll_vals_le ds))
  refine ⟨F.slot_dict_repr, F.slot_dict_str, F.slot_dict_format, fun s keep => ⟨o, keep _ _ g1, g2⟩, fun A E s Q hg hu keep fin => ?_⟩
  simp only [PyData.depth] at hu
  simp only [PyData.shown, PyData.shownKv_eq] at fin
  exact call_dict_reprK g1 g2 g3 far self ent hg (fun b _ => Clear.nil b) hu keep fin (by rw [← PyData.shownKv_eq]; exact fits)
end
section
variable {X : Cx}
theorem DqAll.readsF {pins : List (Addr × Obj)} {σ : L2.St} {H : Hp} {s : Shared} (I : Inv X pins σ H s) {ds : List PyData} {vs : List V} {us : List Value} (h : DqAll X.K H vs ds) (r : Vals vs us) : ∃ as, ReadsAll s.heap us ds as := by
  obtain ⟨as, q, _⟩ := DqAll.reads I ds vs us h r
  exact ⟨as, q⟩
def rReprD (K : PySem.W.Frag) : List V → Hp → VK → Prop := fun xs H Q => ∃ (d : Addr) (kvs : List (L2.Key × V)) (ds : List (PyData × PyData)), xs = [.ref d] ∧ H d = some (.dK kvs) ∧ DqAll K H (kvs.map fun p => kV p.1) (ds.map (·.1)) ∧ DqAll K H (kvs.map (·.2)) (ds.map (·.2)) ∧
  (PyData.dict ds).showable = true ∧ PyData.hasDictAll (ds.map (·.1)) = false ∧ PyData.hasDictAll (ds.map (·.2)) = false ∧ (PyData.dict ds).depth ≤ 100 ∧ (PyData.dict ds).shown.length ≤ sizeLine ∧ Q (.str (PyData.dict ds).shown) H
theorem call_reprD {k : Nat} (hr : RoomG k X.A) : CallR X (.builtin "repr") (rReprD X.K) := by
  intro pins s σ H xs us Q I rv h
  obtain ⟨d, kvs, ds, rfl, hd, qk, qv, ok, nk, nv, dp, room, q⟩ := h
  rw [Vals.ref1 rv]
  obtain ⟨_, far, vs, kv, o, es, n, ho, hx, hdat, _, hp, _⟩ := I.hok d _ hd
  obtain ⟨e1, e2⟩ := kv_entries kv hp
  obtain ⟨as, r1⟩ := DqAll.readsF I qk e1
  obtain ⟨bs, r2⟩ := DqAll.readsF I qv e2
  have S := shows_flatDict (prog := X.prog) (w := X.w) ho hx.1 hdat r1 r2 ok nk nv far room
  have hu : X.A.units + ((PyData.dict ds).depth + 1) < cLine := by have := hr.r.un; omega
  refine call_repr_slot (by omega) (S.typeIs s fun _ _ e => e) S.slotRepr (S.call X.A.in1 _ s _ hr.g (by show X.A.units + 1 + _ < cLine; omega) (fun _ _ e => e) fun h' u tk keep => ⟨_, _, rfl, ?_⟩)
  exact ⟨.str (PyData.dict ds).shown, H, I.kept keep, ⟨u, rfl⟩, q⟩
end
end EL
namespace KP
open PySem PySem.Spec PyProof.Rows L2 EL
open Evl (pss_cut)
abbrev sLClosed : Stmt := topS 73
theorem scLClosed : FnScope ["_law_found", "_law_some", "_law_before", "_law_near", "_law_gain_here", "_law_far", "_law_it"] ["_law_found", "_law_some"] (defScope sLClosed) := ⟨rfl, rfl, rfl, by decide +kernel, rfl, by decide +kernel, by decide +kernel⟩
/-! how long the texts are -/
def iLen (i : Int) : Nat := (PyData.shown (.int i)).length + 2
theorem iLen_pos (i : Int) : 3 ≤ iLen i := by
  unfold iLen
  have : 0 < (PyData.shown (.int i)).length := by
    show 0 < (Str.ofString (toString i)).length
    rw [PySem.ofString_length]
    have pos : ∀ m : Nat, 0 < (Nat.repr m).length := fun m => by
      unfold Nat.repr
      simp
      exact Nat.length_toDigits_pos
    cases i with
    | ofNat m => exact pos m
    | negSucc m =>
      show 0 < ("-" ++ Nat.repr (m + 1)).length
      rw [String.length_append]
      have e1 : "-".length = 1 := rfl
      omega
  omega
def sumL (ns : List Int) : Nat := (ns.map iLen).sum
def lLen (ns : List Int) : Nat := if ns = [] then 2 else sumL ns
theorem textFrom_full : ∀ (ts : List Str) (k : Nat) (acc : Str), (textFrom (k + 1) acc ts).length = acc.length + piled ts
  | [], k, acc => by show acc.length = acc.length + 0; omega
  | t :: ts, k, acc => by
    show (textFrom (k + 1 + 1) _ ts).length = _
    rw [textFrom_full ts, strLen_append, strLen_append, piled_cons, if_pos (Nat.succ_pos k)]
    have : ((", " : String) : Str).length = 2 := rfl
    rw [this]; omega
theorem listText_full {ts : List Str} (h : ts ≠ []) : (listText ts).length = piled ts := by
  cases ts with
  | nil => exact absurd rfl h
  | cons t ts =>
    show (textFrom (0 + 1) _ ts ++ "]").length = _
    rw [strLen_append, textFrom_full, strLen_append, strLen_append, piled_cons]
    have e1 : ((if 0 > 0 then ", " else "" : String) : Str).length = 0 := rfl
    have e2 : (("[" : String) : Str).length = 1 := rfl
    have e3 : (("]" : String) : Str).length = 1 := rfl
    rw [e1, e2, e3]; omega
theorem piled_ints : ∀ ns : List Int, piled (PyData.shownAll (ns.map PyData.int)) = sumL ns
  | [] => rfl
  | n :: ns => by
    rw [List.map_cons, PyData.shownAll, piled_cons, piled_ints ns]
    rfl
theorem shown_list_len (ns : List Int) : (PyData.shown (.list (ns.map PyData.int))).length = lLen ns := by
  unfold lLen
  cases ns with
  | nil => rfl
  | cons n ns =>
    rw [if_neg (by simp), ← piled_ints]
    show (listText (PyData.shownAll ((n :: ns).map PyData.int))).length = _
    exact listText_full (by rw [List.map_cons, PyData.shownAll]; simp)
abbrev foundL (us : List Nat) (f : Nat → List Int) : List (PyData × PyData) := us.map fun s : Nat => (PyData.int (s : Int), PyData.list ((f s).map PyData.int))
def fLen (us : List Nat) (f : Nat → List Int) : Nat := (us.map fun s => lLen (f s)).sum
def kLen (us : List Nat) : Nat := (us.map fun s : Nat => iLen (s : Int) + 2).sum
theorem piled_found (f : Nat → List Int) : ∀ us : List Nat, piled (PyData.shownKv (foundL us f)) = kLen us + fLen us f
  | [] => rfl
  | s :: us => by
    have ih := piled_found f us
    unfold foundL kLen fLen at ih ⊢
    rw [List.map_cons, PyData.shownKv, piled_cons, ih, List.map_cons, List.map_cons, List.sum_cons, List.sum_cons, strLen_append, strLen_append, shown_list_len]
    have : ((": " : String) : Str).length = 2 := rfl
    rw [this]
    unfold iLen
    omega
def cLen (us : List Nat) : Nat := if us = [] then 2 else kLen us
theorem found_len (us : List Nat) (f : Nat → List Int) : (PyData.shown (.dict (foundL us f))).length = cLen us + fLen us f := by
  show (dictText (PyData.shownKv (foundL us f))).length = _
  unfold cLen
  cases us with
  | nil => rfl
  | cons s us =>
    rw [if_neg (by simp), ← piled_found, ← join_length_add _ (by unfold foundL; rw [List.map_cons, PyData.shownKv]; simp)]
    unfold dictText
    rw [strLen_append, strLen_append]
    have e2 : (("{" : String) : Str).length = 1 := rfl
    have e3 : (("}" : String) : Str).length = 1 := rfl
    rw [e2, e3]; omega
theorem found_pos (us : List Nat) (f : Nat → List Int) : 1 ≤ (PyData.shown (.dict (foundL us f))).length := by
  rw [found_len]
  unfold cLen
  split
  · omega
  · next h =>
    cases us with
    | nil => exact absurd rfl h
    | cons s us =>
      unfold kLen
      rw [List.map_cons, List.sum_cons]
      omega
theorem sub_perm : ∀ {ns ms : List Int}, ns.Nodup → (∀ x ∈ ns, x ∈ ms) → ∃ r, ms.Perm (ns ++ r)
  | [], ms, _, _ => ⟨ms, .refl _⟩
  | x :: ns, ms, nd, h => by
    rw [List.nodup_cons] at nd
    have hx := h x List.mem_cons_self
    have p1 := List.perm_cons_erase hx
    obtain ⟨r, hr⟩ := sub_perm (ms := ms.erase x) nd.2 fun y hy => (List.mem_erase_of_ne (fun e : y = x => nd.1 (by rw [← e]; exact hy))).mpr (h y (List.mem_cons_of_mem _ hy))
    exact ⟨r, p1.trans (.cons x hr)⟩
theorem sumL_app (a b : List Int) : sumL (a ++ b) = sumL a + sumL b := by
  unfold sumL
  rw [List.map_append, List.sum_append]
theorem sumL_perm {a b : List Int} (h : a.Perm b) : sumL a = sumL b := (h.map iLen).sum_nat
theorem sumL_pos {a : List Int} (h : a ≠ []) : 3 ≤ sumL a := by
  cases a with
  | nil => exact absurd rfl h
  | cons x r =>
    unfold sumL
    rw [List.map_cons, List.sum_cons]
    have := iLen_pos x
    omega
theorem sub_len {ns ms : List Int} (nd : ns.Nodup) (h : ∀ x ∈ ns, x ∈ ms) : lLen ns ≤ lLen ms ∧ (lLen ns = lLen ms → ∀ x ∈ ms, x ∈ ns) := by
  obtain ⟨r, hr⟩ := sub_perm nd h
  have e := sumL_perm hr
  rw [sumL_app] at e
  have key : r = [] ∨ lLen ns < lLen ms := by
    by_cases z : r = []
    · exact .inl z
    · refine .inr ?_
      have p := sumL_pos z
      have nm : ms ≠ [] := fun w => by
        rw [w] at hr
        have := hr.length_eq
        rw [List.length_append] at this
        have := List.length_pos_iff.mpr z
        rw [List.length_nil] at *
        omega
      unfold lLen
      rw [if_neg nm]
      split <;> omega
  rcases key with rfl | lt
  · rw [List.append_nil] at hr
    have e2 : lLen ns = lLen ms := by
      unfold lLen
      have q := sumL_perm hr
      by_cases w : ms = []
      · subst w
        rw [hr.symm.eq_nil]
      · rw [if_neg w, if_neg (fun z => w (by subst z; exact hr.eq_nil)), q]
    exact ⟨by omega, fun _ x hx => hr.mem_iff.mp hx⟩
  · exact ⟨by omega, fun z => by omega⟩
theorem fLen_sub {f g : Nat → List Int} : ∀ {us : List Nat}, (∀ s ∈ us, (f s).Nodup ∧ ∀ x ∈ f s, x ∈ g s) → fLen us f ≤ fLen us g ∧ (fLen us f = fLen us g → ∀ s ∈ us, ∀ x ∈ g s, x ∈ f s)
  | [], _ => ⟨Nat.le_refl _, fun _ s h => nomatch h⟩
  | s :: us, h => by
    obtain ⟨a1, a2⟩ := sub_len (h s List.mem_cons_self).1 (h s List.mem_cons_self).2
    obtain ⟨b1, b2⟩ := fLen_sub (us := us) fun t ht => h t (List.mem_cons_of_mem _ ht)
    unfold fLen at b1 b2 ⊢
    rw [List.map_cons, List.map_cons, List.sum_cons, List.sum_cons]
    refine ⟨by omega, fun e t ht => ?_⟩
    rcases List.mem_cons.mp ht with rfl | ht
    · exact a2 (by omega)
    · exact b2 (by omega) t ht
def cnt (us : List Nat) (f : Nat → List Int) : Nat := (us.map fun s => (f s).length).sum
theorem cnt_le {f : Nat → List Int} {B : Nat} : ∀ {us : List Nat}, (∀ s ∈ us, (f s).length ≤ B) → cnt us f ≤ us.length * B
  | [], _ => Nat.zero_le _
  | s :: us, h => by
    have ih := cnt_le (us := us) fun t ht => h t (List.mem_cons_of_mem _ ht)
    have := h s List.mem_cons_self
    unfold cnt at ih ⊢
    rw [List.map_cons, List.sum_cons, List.length_cons, Nat.add_mul]
    omega
theorem sub_cnt {ns ms : List Int} (nd : ns.Nodup) (h : ∀ x ∈ ns, x ∈ ms) : ns.length ≤ ms.length ∧ (ns.length = ms.length → ∀ x ∈ ms, x ∈ ns) := by
  obtain ⟨r, hr⟩ := sub_perm nd h
  have e := hr.length_eq
  rw [List.length_append] at e
  refine ⟨by omega, fun z => ?_⟩
  have : r = [] := List.eq_nil_of_length_eq_zero (by omega)
  subst this
  rw [List.append_nil] at hr
  exact fun x hx => hr.mem_iff.mp hx
theorem cnt_sub {f g : Nat → List Int} : ∀ {us : List Nat}, (∀ s ∈ us, (f s).Nodup ∧ ∀ x ∈ f s, x ∈ g s) → cnt us f ≤ cnt us g ∧ (cnt us f = cnt us g → ∀ s ∈ us, ∀ x ∈ g s, x ∈ f s)
  | [], _ => ⟨Nat.le_refl _, fun _ s h => nomatch h⟩
  | s :: us, h => by
    obtain ⟨a1, a2⟩ := sub_cnt (h s List.mem_cons_self).1 (h s List.mem_cons_self).2
    obtain ⟨b1, b2⟩ := cnt_sub (us := us) fun t ht => h t (List.mem_cons_of_mem _ ht)
    unfold cnt at b1 b2 ⊢
    rw [List.map_cons, List.map_cons, List.sum_cons, List.sum_cons]
    refine ⟨by omega, fun e t ht => ?_⟩
    rcases List.mem_cons.mp ht with rfl | ht
    · exact a2 (by omega)
    · exact b2 (by omega) t ht
theorem asc_eq : ∀ {a b : List Int}, a.Pairwise (· < ·) → b.Pairwise (· < ·) → (∀ x, x ∈ a ↔ x ∈ b) → a = b := fun ha hb h =>
  List.Perm.eq_of_pairwise (fun _ _ _ _ h1 h2 => absurd h1 (by omega)) ha hb ((List.perm_ext_iff_of_nodup (ha.imp fun h => by omega) (hb.imp fun h => by omega)).mpr h)

/-! the dict of the leads that are found -/
structure FoundAt (H : Hp) (d : Addr) (us : List Nat) (f : Nat → List Int) (la : Nat → Addr) : Prop where
  dd : H d = some (.dK (us.map fun s : Nat => ((.inl (s : Int) : L2.Key), V.ref (la s))))
  ll : ∀ s ∈ us, H (la s) = some (.lst ((f s).map V.int))
theorem FoundAt.up {H H' : Hp} {d : Addr} {us : List Nat} {f : Nat → List Int} {la : Nat → Addr} (h : FoundAt H d us f la) (s : Same H H') : FoundAt H' d us f la := ⟨s _ _ h.dd, fun t ht => s _ _ (h.ll t ht)⟩
theorem found_val {la : Nat → Addr} : ∀ {us : List Nat} {s : Nat}, s ∈ us → valV (us.map fun s : Nat => ((.inl (s : Int) : L2.Key), V.ref (la s))) (.inl (s : Int)) = some (.ref (la s))
  | [], _, h => nomatch h
  | t :: us, s, h => by
    rw [List.map_cons]
    by_cases e : t = s
    · subst e
      exact valV_pos rfl
    · rw [valV_neg (fun z => e (by have : (t : Int) = (s : Int) := Sum.inl.inj z
                                   omega))]
      exact found_val ((List.mem_cons.mp h).resolve_left fun z => e z.symm)
theorem found_put {la : Nat → Addr} {us : List Nat} {t : Nat} {l : Addr} (h : t ∈ us) : putK (us.map fun s : Nat => ((.inl (s : Int) : L2.Key), V.ref (la s))) (.inl (t : Int)) (.ref l) = us.map fun s : Nat => ((.inl (s : Int) : L2.Key), V.ref (if s = t then l else la s)) := by
  unfold putK
  rw [if_pos (by rw [valV_any, found_val h]; rfl), List.map_map]
  refine List.map_congr_left fun s _ => ?_
  show (if (Sum.inl (s : Int) : L2.Key) = .inl (t : Int) then ((Sum.inl (s : Int) : L2.Key), V.ref l) else _) = _
  by_cases e : s = t
  · rw [if_pos (by rw [e]), if_pos e]
  · rw [if_neg (fun z => e (by have : (s : Int) = (t : Int) := Sum.inl.inj z
                               omega)), if_neg e]
theorem FoundAt.put {H : Hp} {d l : Addr} {us : List Nat} {f : Nat → List Int} {la : Nat → Addr} {t : Nat} {ns : List Int} (h : FoundAt H d us f la) (ht : t ∈ us) (hl : H l = some (.lst (ns.map V.int))) :
    FoundAt (upd H d (.dK (putK (us.map fun s : Nat => ((.inl (s : Int) : L2.Key), V.ref (la s))) (.inl (t : Int)) (.ref l)))) d us (fun s => if s = t then ns else f s) (fun s => if s = t then l else la s) := by
  have hd := h.dd
  refine ⟨by rw [upd_same, found_put ht], fun s hs => ?_⟩
  by_cases e : s = t
  · rw [if_pos e, if_pos e, upd_ne (fun z => by rw [z, hd] at hl; cases hl)]
    exact hl
  · rw [if_neg e, if_neg e, upd_ne (fun z => by have := h.ll s hs; rw [z, hd] at this; cases this)]
    exact h.ll s hs
theorem SomeAt.kpt {K : PySem.W.Frag} {H H' : Hp} {m : Addr} {som : List T3} (h : SomeAt K H m som) (k : KpT H H') (e : H' m = H m) : SomeAt K H' m som := by
  obtain ⟨vs, h1, h2⟩ := h.at'
  exact ⟨vs, e.trans h1, dqAll_kpt k _ _ h2 (noLDs_map (fun _ => rfl) _)⟩
structure FIn (pl : Plan) (us : List Nat) (f : Nat → List Int) : Prop where
  so : ∀ s ∈ us, (f s).Pairwise (· < ·)
  le : ∀ s ∈ us, ∀ g ∈ f s, LeadOf pl us s g
  ze : ∀ s ∈ us, s ∈ pl.ins → 0 ∈ f s
theorem FIn.nd {pl : Plan} {us : List Nat} {f : Nat → List Int} (h : FIn pl us f) {s : Nat} (hs : s ∈ us) : (f s).Nodup := (h.so s hs).imp fun h => by omega
theorem FIn.len {pl : Plan} {us : List Nat} {f : Nat → List Int} {B : Nat} (h : FIn pl us f) (hB : ∀ s g, LeadOf pl us s g → g ≤ (B : Int) ∧ -(B : Int) ≤ g) {s : Nat} (hs : s ∈ us) : (f s).length ≤ 2 * B + 1 := by
  have nd : ((f s).map fun g => (g + (B : Int)).toNat).Nodup := nodup_map' (h.nd hs) fun x hx y hy e => by
    have a := hB s x (h.le s hs x hx)
    have b := hB s y (h.le s hs y hy)
    omega
  have := nodup_len (2 * B + 1) _ nd fun x hx => by
    obtain ⟨g, hg, rfl⟩ := List.mem_map.mp hx
    have a := hB s g (h.le s hs g hg)
    omega
  rwa [List.length_map] at this
theorem FIn.done {pl : Plan} {us : List Nat} {f : Nat → List Int} (h : FIn pl us f) (cl : ∀ e ∈ someL pl us, ∀ x ∈ f e.1, x + e.2.1 ∈ f e.2.2) {s : Nat} (hs : s ∈ us) (g : Int) : g ∈ f s ↔ LeadOf pl us s g := by
  refine ⟨h.le s hs g, ?_⟩
  rintro ⟨b, k, hb, hbu, w⟩
  induction k generalizing s g with
  | zero =>
    obtain ⟨rfl, rfl⟩ := w
    exact h.ze _ hs hb
  | succ k ih =>
    obtain ⟨n, g0, d, h1, h2, rfl⟩ := w
    exact cl _ h2 g0 (ih (wlk_goes hbu h1).1 g0 h1)
theorem dqAll_of {K : PySem.W.Frag} {H : Hp} {α : Type} {g : α → V} {e : α → PyData} : ∀ {l : List α}, (∀ x ∈ l, Dq K H (g x) (e x)) → DqAll K H (l.map g) (l.map e)
  | [], _ => .nil
  | x :: l, h => .cons (h x List.mem_cons_self) (dqAll_of fun y hy => h y (List.mem_cons_of_mem _ hy))
theorem dq_ints {K : PySem.W.Frag} {H : Hp} (ns : List Int) : DqAll K H (ns.map V.int) (ns.map PyData.int) := dqAll_of fun x _ => .int x
theorem noDict_of {α : Type} {e : α → PyData} (h : ∀ x, (e x).hasDict = false) : ∀ l : List α, PyData.hasDictAll (l.map e) = false
  | [] => rfl
  | x :: l => by rw [List.map_cons, PyData.hasDictAll, h x, noDict_of h l]; rfl
theorem showAll_ints {ns : List Int} (h : ∀ x ∈ ns, x.natAbs < 10 ^ 50) : PyData.showableAll (ns.map PyData.int) = true := by
  induction ns with
  | nil => rfl
  | cons x ns ih =>
    rw [List.map_cons, PyData.showableAll, ih fun y hy => h y (List.mem_cons_of_mem _ hy), Bool.and_true]
    show decide (x.natAbs.log2 < 1920) = true
    exact decide_eq_true (log2_lt (h x List.mem_cons_self))
theorem show_found {f : Nat → List Int} : ∀ {us : List Nat}, (∀ s ∈ us, s ≤ 1000) → (∀ s ∈ us, ∀ x ∈ f s, x.natAbs < 10 ^ 50) → PyData.showableKv (foundL us f) = true
  | [], _, _ => rfl
  | s :: us, h1, h2 => by
    have ih := show_found (us := us) (fun t ht => h1 t (List.mem_cons_of_mem _ ht)) (fun t ht => h2 t (List.mem_cons_of_mem _ ht))
    unfold foundL at ih ⊢
    rw [List.map_cons, PyData.showableKv, ih, Bool.and_true, Bool.and_eq_true]
    refine ⟨?_, showAll_ints (h2 s List.mem_cons_self)⟩
    show decide ((s : Int).natAbs.log2 < 1920) = true
    have := h1 s List.mem_cons_self
    have p : (1000 : Nat) < 10 ^ 50 := by decide
    exact decide_eq_true (log2_lt (by omega))
theorem depth_found {f : Nat → List Int} : ∀ us : List Nat, PyData.depthKv (foundL us f) ≤ 1
  | [] => Nat.zero_le _
  | s :: us => by
    have ih := depth_found (f := f) us
    unfold foundL at ih ⊢
    rw [List.map_cons, PyData.depthKv]
    have d : (PyData.list ((f s).map PyData.int)).depth = 1 := by
      show PyData.depthAll _ + 1 = 1
      rw [depth_ints]
    have d2 : (PyData.int (s : Int)).depth = 0 := rfl
    rw [d, d2]
    omega
theorem iLen_le {x : Int} (h : x.natAbs < 10 ^ 50) : iLen x ≤ 62 := by
  unfold iLen
  have := shown_int60 h
  omega
theorem sumL_le : ∀ {ns : List Int}, (∀ x ∈ ns, x.natAbs < 10 ^ 50) → sumL ns ≤ ns.length * 62
  | [], _ => Nat.zero_le _
  | x :: ns, h => by
    have ih := sumL_le (ns := ns) fun y hy => h y (List.mem_cons_of_mem _ hy)
    have := iLen_le (h x List.mem_cons_self)
    unfold sumL at ih ⊢
    rw [List.map_cons, List.sum_cons, List.length_cons, Nat.add_mul]
    omega
theorem found_le {f : Nat → List Int} : ∀ {us : List Nat}, (∀ s ∈ us, s ≤ 1000) → (∀ s ∈ us, (f s).length ≤ 100 ∧ ∀ x ∈ f s, x.natAbs < 10 ^ 50) → kLen us + fLen us f ≤ us.length * 7000
  | [], _, _ => Nat.zero_le _
  | s :: us, h1, h2 => by
    have ih := found_le (us := us) (fun t ht => h1 t (List.mem_cons_of_mem _ ht)) (fun t ht => h2 t (List.mem_cons_of_mem _ ht))
    have a := sumL_le (h2 s List.mem_cons_self).2
    have b := (h2 s List.mem_cons_self).1
    have c : lLen (f s) ≤ 6202 := by
      unfold lLen
      split <;> omega
    have p : (1000 : Nat) < 10 ^ 50 := by decide
    have := h1 s List.mem_cons_self
    have e := iLen_le (x := (s : Int)) (by omega)
    unfold kLen fLen at ih ⊢
    rw [List.map_cons, List.map_cons, List.sum_cons, List.sum_cons, List.length_cons, Nat.add_mul]
    omega
theorem reprF {K : PySem.W.Frag} {H : Hp} {d : Addr} {us : List Nat} {f : Nat → List Int} {la : Nat → Addr} {Q : VK} (FA : FoundAt H d us f la) (h0 : us.length ≤ 50) (h1 : ∀ s ∈ us, s ≤ 1000) (h2 : ∀ s ∈ us, (f s).length ≤ 100 ∧ ∀ x ∈ f s, x.natAbs < 10 ^ 50)
    (q : Q (.str (PyData.dict (foundL us f)).shown) H) : rReprD K [.ref d] H Q := by
  refine ⟨d, _, foundL us f, rfl, FA.dd, ?_, ?_, show_found h1 fun s hs => (h2 s hs).2, ?_, ?_, ?_, ?_, q⟩
  · unfold foundL
    rw [List.map_map, List.map_map]
    exact dqAll_of fun s _ => .int _
  · unfold foundL
    rw [List.map_map, List.map_map]
    exact dqAll_of fun s hs => .lst (sqOf (FA.ll s hs)) (dq_ints _)
  · unfold foundL
    rw [List.map_map]
    exact noDict_of (fun _ => rfl) us
  · unfold foundL
    rw [List.map_map]
    refine noDict_of (fun s => ?_) us
    show PyData.hasDictAll ((f s).map PyData.int) = false
    exact noDict_of (fun _ => rfl) _
  · have := depth_found (f := f) us
    show PyData.depthKv (foundL us f) + 1 ≤ 100
    omega
  · rw [found_len]
    have := found_le (us := us) h1 h2
    refine len_sz ?_
    unfold cLen
    split
    · next z => subst z; show 2 + 0 ≤ 1000000; omega
    · omega
def spClosed (K : PySem.W.Frag) : Sp := fun vs H Q _ => ∃ (d m : Addr) (pl : Plan) (us : List Nat) (f : Nat → List Int) (la : Nat → Addr) (B : Nat), vs = [.ref d, .ref m] ∧ FoundAt H d us f la ∧ SomeAt K H m (someL pl us) ∧ us.length ≤ 50 ∧ pl.ways.length ≤ 50 ∧ (∀ s ∈ us, s ≤ 1000) ∧ us.Nodup ∧ FIn pl us f ∧ (∀ s g, LeadOf pl us s g → g ≤ (B : Int) ∧ -(B : Int) ≤ g) ∧ B ≤ 15 ∧
  ∀ f' la' H', EL.Off d d H H' → FoundAt H' d us f' la' → FIn pl us f' → (∀ s ∈ us, ∀ g, g ∈ f' s ↔ LeadOf pl us s g) → Q (.ref d) H'

section
variable {P : Program} {w : World} {K : PySem.W.Frag} {mg : Str → Option Value} {base : Heap}
theorem ok_LClosed {ff : Addr} {fd : FuncData} {k : Nat} (F : Fun K "_law_closed" "_law_closed" sLClosed ff fd) (nrepr : mg "repr" = none) (nsorted : mg "sorted" = none) (nset : mg "set" = none) : FnG P w K mg base (k + 1) ff fd ["_law_found", "_law_some"] (spClosed K) := by
  refine FnG.body F scLClosed (fun vs H Q E h => ?_) (fun cdv A outer s H vs Q E hg h => ?_)
  · obtain ⟨d, m, pl, us, f, la, B, rfl, _⟩ := h; rfl
  · obtain ⟨d, m, pl, us, f, la, B, rfl, FA, S0, hus, hwn, hsm, und, F0, hB, hB1, kQ⟩ := h
    have hr := hg.r
    have hu := hr.units
    have hu1 : (A.deeper (envOfC "_law_closed" (defScope sLClosed) s.heap.objs.size ff cdv)).units + 1 < cLine := by omega
    refine ⟨_, (pss_cons (ps_set (i := 2) scLClosed.nd rfl (by first | exact Or.inl rfl | exact Or.inr rfl) pe_str)
      (pss_cons (ps_while PassesOwn.never (pt_cmpR op_ne (pe_callB (call_reprD hg) (by rfl) nrepr (by decide +kernel) (pa_cons (pv 0) pa_nil)) (pv 2) (nomark _)) (pss_cons (ps_set (i := 2) scLClosed.nd rfl (by first | exact Or.inl rfl | exact Or.inr rfl) (pe_callB (call_reprD hg) (by rfl) nrepr (by decide +kernel) (pa_cons (pv 0) pa_nil)))
      (pss_one (ps_for PassesOwn.never rfl (pi_list (pv 1)) (pg_tup (by rfl) (pgs_cons (pg_name (i := 3) scLClosed.nd rfl (by first | exact Or.inl rfl | exact Or.inr rfl)) (pgs_cons (pg_name (i := 4) scLClosed.nd rfl (by first | exact Or.inl rfl | exact Or.inr rfl)) (pgs_cons (pg_name (i := 5) scLClosed.nd rfl (by first | exact Or.inl rfl | exact Or.inr rfl)) pgs_nil)))) (pss_one (ps_dput hu1 (pv 0) (pv 5) (pe_callB (cr_sortedSet rfl) (by rfl) nsorted (by decide +kernel) (pa_cons (pe_callTy (cr_setI rfl) (by rfl) nset (by decide +kernel) (pa_cons (pe_op op_cat (pe_dget hu1 (pv 0) (pv 5) (fun _ _ => rfl)) (pe_lc (own := [("_law_it", 6)]) (g := (gName 6)) (by rfl) scLClosed.nd (pi_list (pe_dget hu1 (pv 0) (pv 3) (fun _ _ => rfl))) (blkOk_by (own := [("_law_it", 6)]) (N := ["_law_found", "_law_some", "_law_before", "_law_near", "_law_gain_here", "_law_far", "_law_it"]) (sc := defScope sLClosed) (by decide +kernel)) (fun _ _ _ _ _ => (pg_name (i := 6) scLClosed.nd rfl (by first | exact Or.inl rfl | exact Or.inr rfl))) (fun _ _ _ _ _ => pts_nil) (fun _ _ _ _ _ => (pe_op op_add (pv 6) (pv 4))))) pa_nil)) pa_nil)) rfl))))))
      (pss_one (ps_ret (pv 0))))), ?_⟩
    obtain ⟨vm, m1, m2⟩ := S0.at'
    have hvm : vm.length = (someL pl us).length := by rw [m2.len, List.length_map]
    have hsl := some_len pl us
    have small : ∀ {f1 : Nat → List Int}, FIn pl us f1 → ∀ s ∈ us, (f1 s).length ≤ 100 ∧ ∀ x ∈ f1 s, x.natAbs < 10 ^ 50 := fun F1 s hs => by
      have := F1.len hB hs
      refine ⟨by omega, fun x hx => ?_⟩
      have := hB s x (F1.le s hs x hx)
      have p : (1000 : Nat) < 10 ^ 50 := by decide
      omega
    have cap : ∀ {f1 : Nat → List Int}, FIn pl us f1 → cnt us f1 ≤ us.length * (2 * B + 1) := fun F1 => cnt_le fun s hs => F1.len hB hs
    have ne0 : ∀ f1 : Nat → List Int, (PyData.dict (foundL us f1)).shown ≠ "" := fun f1 z => by
      have := found_pos us f1
      rw [z] at this
      exact absurd this (by decide)
    refine ⟨fun n σ H' => ∃ (b : Str) (y3 y4 y5 : Option V) (fp f1 : Nat → List Int) (la1 : Nat → Addr), σ = [some (.ref d), some (.ref m), some (.str b), y3, y4, y5, none] ∧ EL.Off d d H H' ∧ FoundAt H' d us f1 la1 ∧ H' m = some (.lst vm) ∧ DqAll K H' vm ((someL pl us).map t3D) ∧ FIn pl us f1 ∧
      ((b = "" ∧ n = us.length * (2 * B + 1) + 1) ∨ (b = (PyData.dict (foundL us fp)).shown ∧ FIn pl us fp ∧ (∀ s ∈ us, ∀ x ∈ fp s, x ∈ f1 s) ∧ (∀ e ∈ someL pl us, ∀ x ∈ fp e.1, x + e.2.1 ∈ f1 e.2.2) ∧ n + cnt us fp = us.length * (2 * B + 1))), ⟨_, "", none, none, none, f, f, la, rfl, .refl H, FA, m1, m2, F0, .inl ⟨rfl, rfl⟩⟩, ?_⟩
    rintro n σ H1 ⟨b, y3, y4, y5, fp, f1, la1, rfl, o1, FA1, g1, q1, F1, past⟩
    refine ⟨.ref d, rfl, ?_⟩
    dsimp only [tNil]
    refine reprF FA1 hus hsm (small F1) ⟨_, rfl, rfl, _, rfl, ?_⟩
    by_cases hb : (PyData.dict (foundL us f1)).shown = b
    · rw [decide_eq_true (by rw [hb])]
      rcases past with ⟨z, _⟩ | ⟨z, Fp, p1, p2, p3⟩
      · exact absurd (hb.trans z) (ne0 f1)
      · have el : fLen us fp = fLen us f1 := by
          have e1 := found_len us fp
          have e2 := found_len us f1
          rw [hb, z, e1] at e2
          omega
        have back := (fLen_sub (f := fp) (g := f1) fun s hs => ⟨Fp.nd hs, p1 s hs⟩).2 el
        refine iteF ⟨_, rfl, kQ f1 la1 H1 o1 FA1 F1 fun s hs g => F1.done (fun e he x hx => ?_) hs g⟩
        obtain ⟨mm, _, hs1, _, rfl⟩ := mem_some.mp he
        exact p2 _ he x (back _ hs1 x hx)
    · rw [decide_eq_false (fun z => hb (by injection z))]
      have grow : ∀ n' : Nat, n' + cnt us f1 = us.length * (2 * B + 1) → n' < n := fun n' hn' => by
        rcases past with ⟨_, z⟩ | ⟨z, Fp, p1, p2, p3⟩
        · omega
        · have := cnt_sub (f := fp) (g := f1) fun s hs => ⟨Fp.nd hs, p1 s hs⟩
          by_cases ec : cnt us fp = cnt us f1
          · refine absurd ?_ hb
            rw [z]
            have bk := this.2 ec
            have : ∀ s ∈ us, f1 s = fp s := fun s hs => asc_eq (F1.so s hs) (Fp.so s hs) fun x => ⟨bk s hs x, p1 s hs x⟩
            have e : foundL us f1 = foundL us fp := by
              unfold foundL
              exact List.map_congr_left fun s hs => by rw [this s hs]
            rw [e]
          · omega
      refine iteT ⟨fun σ' H' => ∃ (y3 y4 y5 : Option V) (f2 : Nat → List Int) (la2 : Nat → Addr), σ' = [some (.ref d), some (.ref m), some (.str (PyData.dict (foundL us f1)).shown), y3, y4, y5, none] ∧ EL.Off d d H H' ∧ FoundAt H' d us f2 la2 ∧ H' m = some (.lst vm) ∧ DqAll K H' vm ((someL pl us).map t3D) ∧ FIn pl us f2 ∧ (∀ s ∈ us, ∀ x ∈ f1 s, x ∈ f2 s) ∧ (∀ e ∈ someL pl us, ∀ x ∈ f1 e.1, x + e.2.1 ∈ f2 e.2.2), ?_, ?_⟩
      · rintro σ' H' ⟨y3, y4, y5, f2, la2, rfl, o2, FA2, g2, q2, F2, w1, w2⟩
        have c1 := cap F1
        exact ⟨us.length * (2 * B + 1) - cnt us f1, grow _ (by omega), _, y3, y4, y5, f1, f2, la2, rfl, o2, FA2, g2, q2, F2, .inr ⟨rfl, F1, w1, w2, by omega⟩⟩
      refine ⟨.ref d, rfl, ?_⟩
      dsimp only [tNil]
      refine reprF FA1 hus hsm (small F1) ?_
      refine ⟨.ref m, rfl, m, rfl, ⟨_, sqOf g1⟩, ?_⟩
      refine for_it (walk_list (K := K) (a := m) (xs := vm)) (fun j σ' H' => ∃ (y3 y4 y5 : Option V) (f2 : Nat → List Int) (la2 : Nat → Addr), σ' = [some (.ref d), some (.ref m), some (.str (PyData.dict (foundL us f1)).shown), y3, y4, y5, none] ∧ EL.Off d d H H' ∧ FoundAt H' d us f2 la2 ∧ H' m = some (.lst vm) ∧ DqAll K H' vm ((someL pl us).map t3D) ∧ FIn pl us f2 ∧ (∀ s ∈ us, ∀ x ∈ f1 s, x ∈ f2 s) ∧ (∀ e ∈ (someL pl us).take j, ∀ x ∈ f1 e.1, x + e.2.1 ∈ f2 e.2.2))
        ⟨_, _, _, f1, la1, rfl, o1, FA1, g1, q1, F1, fun _ _ _ h => h, fun e he => by rw [List.take_zero] at he; cases he⟩ (fun j σ' H' _ z => by obtain ⟨_, _, _, _, _, _, _, _, g, _⟩ := z; exact sqOf g) ?_ ?_
      · rintro j y σ' H2 H3 hj ⟨y3, y4, y5, f2, la2, rfl, o2, FA2, g2, q2, F2, w1, w2⟩ ⟨rfl, hy⟩
        obtain ⟨dd, hdd, hdq⟩ := q2.at hy
        obtain ⟨e, he, rfl⟩ := mv_get hdd
        obtain ⟨T2, rfl, hT2⟩ := dq_t3 hdq
        have hem := List.mem_of_getElem? he
        obtain ⟨mv, _, hs1, hs2, ee⟩ := mem_some.mp hem
        refine ⟨T2, _, rfl, hT2, rfl, _, _, rfl, _, _, rfl, _, _, rfl, rfl, ?_⟩
        have hn : e.1 ∈ us := by rw [ee]; exact hs1
        have ht : e.2.2 ∈ us := by rw [ee]; exact hs2
        have g3 : DGet H3 d (kV (.inl (e.2.2 : Int))) (some (.ref (la2 e.2.2))) := by
          have := DGet.k (k := .inl (e.2.2 : Int)) FA2.dd
          rwa [found_val ht] at this
        have g4 : DGet H3 d (kV (.inl (e.1 : Int))) (some (.ref (la2 e.1))) := by
          have := DGet.k (k := .inl (e.1 : Int)) FA2.dd
          rwa [found_val hn] at this
        have b1 := F2.len hB hn
        have b2 := F2.len hB ht
        have gl3 := FA2.ll _ hn
        have gl4 := FA2.ll _ ht
        refine ⟨_, rfl, _, rfl, d, _, rfl, g3, _, rfl, _, rfl, d, _, rfl, g4, la2 e.1, rfl, ⟨_, sqOf gl3⟩, fun D nD => ?_⟩
        have sD := same_upd (o := .lst []) nD
        refine it_gen (walk_list (K := K) (a := la2 e.1) (xs := (f2 e.1).map V.int)) (fun i H' => Same H3 H' ∧ H' D = some (.lst (((f2 e.1).take i).map fun x => V.int (x + e.2.1)))) ⟨sD, by rw [List.take_zero]; exact upd_same⟩ (fun i H' _ z => sqOf (z.1 _ _ gl3)) ?_ ?_
        · rintro i y HA HB hi2 ⟨sA, gA⟩ ⟨rfl, hy⟩
          rw [List.getElem?_map] at hy
          obtain ⟨x, hx, rfl⟩ := Option.map_eq_some_iff.mp hy
          have hi3 : i < 100 := by rw [List.length_map] at hi2; omega
          refine ⟨rfl, ?_⟩
          dsimp only [tYes]
          refine iteT ⟨_, rfl, _, rfl, _, _, rfl, rfl, _, gA, lt_sz (by rw [List.length_map, List.length_take]; omega), fun x o h => by rw [upd_ne (ne_of_none h nD)]; exact sA _ _ h, ?_⟩
          rw [upd_same, take_snoc hx, List.map_append]
          rfl
        · rintro HA ⟨sA, gA⟩
          rw [List.length_map, List.take_length] at gA
          refine ⟨la2 e.2.2, D, (f2 e.2.2).map V.int, _, rfl, rfl, sA _ _ gl4, gA, len_sz (by rw [List.length_map, List.length_map]; omega), fun l nl => ?_⟩
          have sl := same_upd (o := .lst ((f2 e.2.2).map V.int ++ (f2 e.1).map fun x => V.int (x + e.2.1))) nl
          have gl : upd HA l (.lst ((f2 e.2.2).map V.int ++ (f2 e.1).map fun x => V.int (x + e.2.1))) l = some (.lst ((f2 e.2.2 ++ (f2 e.1).map fun x => x + e.2.1).map V.int)) := by rw [upd_same, List.map_append, List.map_map]; rfl
          generalize upd HA l (.lst ((f2 e.2.2).map V.int ++ (f2 e.1).map fun x => V.int (x + e.2.1))) = HL at sl gl ⊢
          dsimp only [tNil]
          refine ⟨l, _, rfl, sqOf gl, by rw [List.length_append, List.length_map]; omega, fun p c np hc => ?_⟩
          generalize hS : L2.upd HL p _ = HS
          have s1 : Same HL HS := by rw [← hS]; exact same_upd np
          refine ⟨p, _, c, rfl, by rw [← hS]; exact upd_same, by rw [List.length_append, List.length_map] at hc; omega, fun ns z so me ln nz => ?_⟩
          have s2 := same_upd (o := .lst (ns.map V.int)) nz
          have gz : upd HS z (.lst (ns.map V.int)) z = some (.lst (ns.map V.int)) := upd_same
          generalize upd HS z (.lst (ns.map V.int)) = HZ at s2 gz ⊢
          have s3Z := (sA.trans sl).trans (s1.trans s2)
          have FZ := FA2.up s3Z
          have memn : ∀ g, g ∈ ns ↔ g ∈ f2 e.2.2 ∨ ∃ x ∈ f2 e.1, x + e.2.1 = g := fun g => by
            rw [me g, decide_eq_true_eq, List.mem_append, List.mem_map]
          refine ⟨_, rfl, _, rfl, d, _, rfl, DPut.k (k := .inl (e.2.2 : Int)) FZ.dd (lt_sz (by rw [List.length_map]; omega)), ?_⟩
          have kp : KpT HZ (upd HZ d (.dK (putK (us.map fun s : Nat => ((.inl (s : Int) : L2.Key), V.ref (la2 s))) (.inl (e.2.2 : Int)) (.ref z)))) := .dK FZ.dd
          have md : m ≠ d := fun w => by rw [w, FA2.dd] at g2; cases g2
          refine ⟨_, _, _, _, _, rfl, ?_, FZ.put ht gz, by rw [upd_ne md]; exact s3Z _ _ g2, dqAll_kpt kp _ _ (q2.up s3Z) (noLDs_map (fun _ => rfl) _), ⟨fun s hs => ?_, fun s hs g hg => ?_, fun s hs hi => ?_⟩, fun s hs x hx => ?_, fun e' he' x hx => ?_⟩
          · intro b o n1 n2 hb
            rw [upd_ne n1]
            exact s3Z _ _ (o2 _ _ n1 n2 hb)
          · by_cases c : s = e.2.2
            · rw [if_pos c]; exact so
            · rw [if_neg c]; exact F2.so s hs
          · by_cases c : s = e.2.2
            · rw [if_pos c] at hg
              rcases (memn g).mp hg with w | ⟨x, hx, rfl⟩
              · rw [c]; exact F2.le _ ht g w
              · rw [c]; exact lead_more (F2.le _ hn x hx) hem
            · rw [if_neg c] at hg; exact F2.le s hs g hg
          · by_cases c : s = e.2.2
            · rw [if_pos c]; exact (memn 0).mpr (.inl (c ▸ F2.ze s hs hi))
            · rw [if_neg c]; exact F2.ze s hs hi
          · by_cases c : s = e.2.2
            · rw [if_pos c]; exact (memn x).mpr (.inl (c ▸ w1 s hs x hx))
            · rw [if_neg c]; exact w1 s hs x hx
          · rw [take_snoc he] at he'
            have hin : ∀ g, g ∈ f2 e'.2.2 → g ∈ (if e'.2.2 = e.2.2 then ns else f2 e'.2.2) := fun g hg => by
              by_cases c : e'.2.2 = e.2.2
              · rw [if_pos c]; exact (memn g).mpr (.inl (c ▸ hg))
              · rw [if_neg c]; exact hg
            rcases List.mem_append.mp he' with w | w
            · exact hin _ (w2 e' w x hx)
            · obtain rfl : e' = e := by simpa using w
              show _ ∈ (if e'.2.2 = e'.2.2 then ns else f2 e'.2.2)
              rw [if_pos rfl]
              exact (memn _).mpr (.inr ⟨x, w1 _ hn x hx, rfl⟩)
      · rintro σ' H2 ⟨y3, y4, y5, f2, la2, rfl, o2, FA2, g2, q2, F2, w1, w2⟩
        rw [hvm, List.take_length] at w2
        exact ⟨_, _, _, f2, la2, rfl, o2, FA2, g2, q2, F2, w1, w2⟩
end
end KP
namespace KP
open PySem PySem.Spec PyProof.Rows L2 EL
open Evl (pss_cut)
abbrev sLHeights : Stmt := topS 71
theorem scLHeights : FnScope ["_law_w", "_law_used_here", "_law_some", "_law_found", "_law_near", "_law_x", "_law_y", "_law_far", "_law_spot"] ["_law_w"] (defScope sLHeights) := ⟨rfl, rfl, rfl, by decide +kernel, rfl, by decide +kernel, by decide +kernel⟩
def spHeights (K : PySem.W.Frag) : Sp := fun vs H Q _ => ∃ (p : Addr) (pl : Plan) (top many long : Nat) (us : List Nat), vs = [.ref p] ∧ WorldAt K H p pl ∧ pl.Ok top many long ∧ top ≤ 50 ∧ many ≤ 50 ∧ long * us.length ≤ 15 ∧ long ≤ 50 ∧ UsefulL pl us ∧ Few pl us ∧
  ∀ x H', Same H H' → ((x = .non ∧ Rg pl us) ∨ ∃ d f la, x = .ref d ∧ H d = none ∧ ¬ Rg pl us ∧ FoundAt H' d us f la ∧ FIn pl us f ∧ ∀ s ∈ us, ∀ g, g ∈ f s ↔ LeadOf pl us s g) → Q x H'
theorem merge_all {us : List Nat} {g : Nat → V} (nd : us.Nodup) : mergeK [] (us.map fun s : Nat => ((.inl (s : Int) : L2.Key), g s)) = us.map fun s : Nat => ((.inl (s : Int) : L2.Key), g s) := by
  have key : ∀ (b a : List Nat), (a ++ b).Nodup → mergeK (a.map fun s : Nat => ((.inl (s : Int) : L2.Key), g s)) (b.map fun s : Nat => ((.inl (s : Int) : L2.Key), g s)) = (a ++ b).map fun s : Nat => ((.inl (s : Int) : L2.Key), g s) := by
    intro b
    induction b with
    | nil => intro a _; rw [List.append_nil]; rfl
    | cons x b ih =>
      intro a nd
      have hx : x ∉ a := fun h => by
        have := (List.nodup_append.mp nd).2.2 x h x List.mem_cons_self
        exact this rfl
      have hv : valV (a.map fun s : Nat => ((.inl (s : Int) : L2.Key), g s)) (.inl (x : Int)) = none := by
        rw [valV_keys, List.map_map]
        intro h
        obtain ⟨y, hy, e⟩ := List.mem_map.mp h
        have : (y : Int) = (x : Int) := Sum.inl.inj e
        have : y = x := by omega
        exact hx (this ▸ hy)
      have := ih (a ++ [x]) (by rw [List.append_assoc]; exact nd)
      rw [List.map_append, List.append_assoc] at this
      show mergeK (putK (a.map fun s : Nat => ((.inl (s : Int) : L2.Key), g s)) (.inl (x : Int)) (g x)) _ = _
      rw [putK_new _ hv]
      exact this
  have := key us [] (by simpa using nd)
  simpa using this
theorem paired_get {α β : Type} {R : α → β → Prop} : ∀ {l : List α} {m : List β}, l.length = m.length → (∀ (j : Nat) x y, l[j]? = some x → m[j]? = some y → R x y) → Paired R l m
  | [], [], _, _ => .nil
  | [], _ :: _, h, _ => by simp at h
  | _ :: _, [], h, _ => by simp at h
  | x :: l, y :: m, h, g => .cons (g 0 x y rfl rfl) (paired_get (by simpa using h) fun j a b ha hb => g (j + 1) a b (by simpa using ha) (by simpa using hb))
theorem gain_some {pl : Plan} {us : List Nat} {top many long : Nat} (hO : pl.Ok top many long) {e : T3} (he : e ∈ someL pl us) : e.2.1 ≤ (long : Int) ∧ -(long : Int) ≤ e.2.1 := by
  obtain ⟨m, hm, _, _, rfl⟩ := mem_some.mp he
  obtain ⟨_, _, h1, h2, _⟩ := hO.m m hm
  show m.gain ≤ _ ∧ _ ≤ m.gain
  unfold Mv.gain
  omega

section
variable {P : Program} {w : World} {K : PySem.W.Frag} {mg : Str → Option Value} {base : Heap}
theorem ok_LHeights {ff : Addr} {fd : FuncData} {k : Nat} (F : Fun K "_law_heights" "_law_heights" sLHeights ff fd) (nlen : mg "len" = none) (ndict : mg "dict" = none) (CLUsed : Cal P w K mg base k "_law_used" ["_law_w"] (spUsedL K)) (CLIsApart : Cal P w K mg base k "_law_is_apart" ["_law_used_here", "_law_some"] (spIsApart K)) (CLClosed : CalG P w K mg base k "_law_closed" ["_law_found", "_law_some"] (spClosed K)) : FnG P w K mg base (k + 1) ff fd ["_law_w"] (spHeights K) := by
  refine FnG.body F scLHeights (fun vs H Q E h => ?_) (fun cdv A outer s H vs Q E hg h => ?_)
  · obtain ⟨p, pl, top, many, long, us, rfl, _⟩ := h; rfl
  · obtain ⟨p, pl, top, many, long, us, rfl, hP, hO, t1, t2, hB, t3, U, few, kQ⟩ := h
    have hr := hg.r
    have hu := hr.units
    have hu1 : (A.deeper (envOfC "_law_heights" (defScope sLHeights) s.heap.objs.size ff cdv)).units + 1 < cLine := by omega
    refine ⟨_, (pss_cons (ps_set (i := 1) scLHeights.nd rfl (by first | exact Or.inl rfl | exact Or.inr rfl) (pe_cal CLUsed hr (by rfl) pass0 (pa_cons (pv 0) pa_nil)))
      (pss_cons (ps_setLc (i := 2) (own := [("_law_near", 4), ("_law_x", 5), ("_law_y", 6), ("_law_far", 7)]) (g := (gTup K 4 (gCons (gName 4) (gCons (gName 5) (gCons (gName 6) (gCons (gName 7) gNil)))))) (by rfl) scLHeights.nd rfl rfl (sw_true rfl rfl rfl (by decide +kernel)) (pi_tup (pe_dget hu1 (pv 0) pe_str (fun _ _ => rfl))) (blkOk_by (own := [("_law_near", 4), ("_law_x", 5), ("_law_y", 6), ("_law_far", 7)]) (N := ["_law_w", "_law_used_here", "_law_some", "_law_found", "_law_near", "_law_x", "_law_y", "_law_far", "_law_spot"]) (sc := defScope sLHeights) (by decide +kernel)) (fun _ _ _ _ _ => (pg_tup (by rfl) (pgs_cons (pg_name (i := 4) scLHeights.nd rfl (by first | exact Or.inl rfl | exact Or.inr rfl)) (pgs_cons (pg_name (i := 5) scLHeights.nd rfl (by first | exact Or.inl rfl | exact Or.inr rfl)) (pgs_cons (pg_name (i := 6) scLHeights.nd rfl (by first | exact Or.inl rfl | exact Or.inr rfl)) (pgs_cons (pg_name (i := 7) scLHeights.nd rfl (by first | exact Or.inl rfl | exact Or.inr rfl)) pgs_nil)))))) (fun _ _ _ _ _ => (pts_one (PW.pt (pw_and (pt_cmpR (show OpR _ _ (rIn K false) from op_in_seq) (pv 4) (pv 1) (by rfl)) (pw_and1 (pt_cmpR (show OpR _ _ (rIn K false) from op_in_seq) (pv 7) (pv 1) (by rfl))))))) (fun _ _ _ _ _ => (pe_tup (pa_cons (pv 4) (pa_cons (pe_op op_sub (pe_callB (show CallR _ _ (rLenK K) from call_len) (by rfl) nlen (by decide +kernel) (pa_cons (pv 5) pa_nil)) (pe_callB (show CallR _ _ (rLenK K) from call_len) (by rfl) nlen (by decide +kernel) (pa_cons (pv 6) pa_nil))) (pa_cons (pv 7) pa_nil))))))
      (pss_cons (ps_set (i := 3) scLHeights.nd rfl (by first | exact Or.inl rfl | exact Or.inr rfl) (pe_callTy (call_dictP rfl) (by rfl) ndict (by decide +kernel) (pa_cons (pe_lc (own := [("_law_spot", 8)]) (g := (gName 8)) (by rfl) scLHeights.nd (pi_list (pv 1)) (blkOk_by (own := [("_law_spot", 8)]) (N := ["_law_w", "_law_used_here", "_law_some", "_law_found", "_law_near", "_law_x", "_law_y", "_law_far", "_law_spot"]) (sc := defScope sLHeights) (by decide +kernel)) (fun _ _ _ _ _ => (pg_name (i := 8) scLHeights.nd rfl (by first | exact Or.inl rfl | exact Or.inr rfl))) (fun _ _ _ _ _ => pts_nil) (fun _ _ _ _ _ => (pe_tup (pa_cons (pv 8) (pa_cons (pe_ifExp (pt_cmpR (show OpR _ _ (rIn K false) from op_in_seq) (pv 8) (pe_dget hu1 (pv 0) pe_str (fun _ _ => rfl)) (by rfl)) (pe_lst (pa_cons pe_int pa_nil)) (pe_lst pa_nil)) pa_nil))))) pa_nil)))
      (pss_one (ps_ret (pe_ifExp (pt_val (pe_cal CLIsApart hr (by rfl) pass0 (pa_cons (pv 1) (pa_cons (pv 2) pa_nil)))) pe_non (pe_calG CLClosed hg (by rfl) pass0 (pa_cons (pv 3) (pa_cons (pv 2) pa_nil))))))))), ?_⟩
    obtain ⟨vi, vw, vo, g1, g2, g3, g4, d1, d2, d3⟩ := hP.get
    have two : 2 ≤ sizeLine := by decide
    have three : 3 ≤ sizeLine := by decide
    obtain ⟨ms, hms, hma⟩ : ∃ ms, SqT K H vw ms ∧ DqAll K H ms (pl.ways.map mvD) := by
      cases d2 with
      | tup w1 w2 => exact ⟨_, w1, w2⟩
    obtain ⟨is, his, hia⟩ : ∃ is, SqT K H vi is ∧ DqAll K H is (nats pl.ins) := by
      cases d1 with
      | tup w1 w2 => exact ⟨_, w1, w2⟩
    obtain rfl := dqAll_nats hia
    have hml : ms.length = pl.ways.length := by rw [hma.len, List.length_map]
    have hn := hO.n
    have hw2 := hO.w2
    refine ⟨_, rfl, p, pl, top, many, long, us, rfl, hP, hO, t1, t2, t3, U, fun l H1 s1 nl gl => ?_⟩
    refine ⟨_, rfl, p, _, rfl, dget_up g3 s1, vw, rfl, ⟨_, ex_t' s1 hms⟩, fun D nD => ?_⟩
    have hms1 := ex_t' s1 hms
    refine it_gen (walk_tup (K := K) (a := vw) (xs := ms)) (fun i => LcG K D H1 (fun i => ((pl.ways.take i).filterMap (someF us)).map t3D) i) (LcG.start nD rfl) (fun i H' _ L => ex_t' (L.sm nD) hms1) ?_ ?_
    · rintro i v H9 H2 hi L ⟨rfl, hv⟩
      obtain ⟨dd, hdd, hdq⟩ := hma.at hv
      obtain ⟨m, hm, rfl⟩ := mv_get hdd
      have sL := s1.trans (L.sm nD)
      obtain ⟨e, rfl, hab⟩ := dq_mv (hdq.up sL)
      have gl2 := (L.sm nD) _ _ gl
      refine ⟨e, _, rfl, hab, rfl, _, _, rfl, _, _, rfl, _, _, rfl, _, _, rfl, rfl, ?_⟩
      have tk : (pl.ways.take (i + 1)).filterMap (someF us) = (pl.ways.take i).filterMap (someF us) ++ (someF us m).toList := by
        rw [take_snoc hm, List.filterMap_append]
        cases h : someF us m <;> simp [h]
      refine ⟨rfl, _, rfl, _, rfl, l, _, rfl, .inl (sqOf gl2), rfl, flat_ixs _, _, rfl, ?_⟩
      rw [in_F]
      by_cases h1 : m.s ∈ us
      · rw [decide_eq_true h1]
        refine iteT ⟨_, rfl, _, rfl, l, _, rfl, .inl (sqOf gl2), rfl, flat_ixs _, _, rfl, ?_⟩
        rw [in_F]
        by_cases h2 : m.t ∈ us
        · rw [decide_eq_true h2]
          refine iteT ⟨_, rfl, ?_⟩
          obtain ⟨_, _, ll, lr, _⟩ := hO.m m (List.mem_of_getElem? hm)
          refine ⟨_, rfl, _, m.l.length, rfl, ⟨len_sz (by show m.l.toArray.size ≤ _; simp; omega), by show _ = m.l.toArray.size; simp⟩, _, rfl, _, m.r.length, rfl, ⟨len_sz (by show m.r.toArray.size ≤ _; simp; omega), by show _ = m.r.toArray.size; simp⟩, _, _, rfl, rfl, _, rfl, three, fun tp ntp => ?_⟩
          have hsf : someF us m = some (m.s, m.gain, m.t) := by unfold someF inU; rw [decide_eq_true h1, decide_eq_true h2]; rfl
          refine lcg_some L (same_upd ntp) (by rw [tk, hsf, List.map_append]; rfl) (tup_wo L.at ntp ?_) (by omega)
          exact .cons (.int _) (.cons (.int _) (.cons (.int _) .nil))
        · rw [decide_eq_false h2]
          refine iteF (lcg_none L (Same.refl _) ?_)
          have : someF us m = none := by unfold someF inU; rw [decide_eq_false h2, Bool.and_false]; rfl
          rw [tk, this]; simp
      · rw [decide_eq_false h1]
        refine iteF (iteF (lcg_none L (Same.refl _) ?_))
        have : someF us m = none := by unfold someF inU; rw [decide_eq_false h1, Bool.false_and]; rfl
        rw [tk, this]; simp
    rintro H2 L
    rw [hml] at L
    obtain ⟨vs, gD, _, da, _⟩ := L.done
    rw [List.take_length] at da
    have s2 := s1.trans (L.sm nD)
    have gl2 := (L.sm nD) _ _ gl
    have SA : SomeAt K H2 D (someL pl us) := ⟨vs, gD, da⟩
    refine ⟨.ref l, rfl, l, rfl, ⟨_, sqOf gl2⟩, fun B nB => ?_⟩
    have und : us.Nodup := U.as.imp fun h => Nat.ne_of_lt h
    have ul : us.length ≤ 50 := by
      have := asc_len (n := pl.wide) ⟨U.as, useful_lt hO U⟩
      omega
    have st : ∀ s : Nat, (if s ∈ pl.ins then [(0 : Int)] else []) = if decide (s ∈ pl.ins) = true then [0] else [] := fun s => by
      by_cases h : s ∈ pl.ins <;> simp [h]
    have INV : ∃ I : Nat → Hp → Prop, I = fun i H' => Same H2 H' ∧ ∃ (ps : List Addr) (la : Nat → Addr), ps.length = i ∧ H' B = some (.lst (ps.map V.ref)) ∧ ∀ (j s : Nat) (q : Addr), us[j]? = some s → ps[j]? = some q → H' q = some (.tup [.int (s : Int), .ref (la s)]) ∧ la s ≠ B ∧ H' (la s) = some (.lst ((if s ∈ pl.ins then [(0 : Int)] else []).map V.int)) := ⟨_, rfl⟩
    obtain ⟨I, hI⟩ := INV
    refine it_gen (walk_list (K := K) (a := l) (xs := ixs us)) I (by rw [hI]; exact ⟨same_upd nB, [], fun _ => 0, rfl, upd_same, fun j s q _ h => by simp at h⟩) (fun i H' _ z => by rw [hI] at z; exact sqOf (z.1 _ _ gl2)) ?_ ?_
    · rintro i v H9 H3 hi z ⟨rfl, hv⟩
      have zz := z
      rw [hI] at zz
      obtain ⟨s3, ps, la, lp, gB, hall⟩ := zz
      obtain ⟨b, hb, rfl⟩ : ∃ b, us[i]? = some b ∧ v = .int (b : Int) := by
        unfold ixs at hv
        rw [List.getElem?_map] at hv
        obtain ⟨b, h1, h2⟩ := Option.map_eq_some_iff.mp hv
        exact ⟨b, h1, h2.symm⟩
      have hi50 : i < 50 := by
        have := (List.getElem?_eq_some_iff.mp hb).1
        omega
      have s03 := s2.trans s3
      have fin : ∀ (L0 : Addr) (H4 : Hp), Same H3 H4 → L0 ≠ B → H4 L0 = some (.lst ((if b ∈ pl.ins then [(0 : Int)] else []).map V.int)) → ∀ tp, H4 tp = none → ∃ acc, upd H4 tp (.tup [.int (b : Int), .ref L0]) B = some (.lst acc) ∧ acc.length < sizeLine ∧ I (i + 1) (upd (upd H4 tp (.tup [.int (b : Int), .ref L0])) B (.lst (acc ++ [.ref tp]))) := by
        intro L0 H4 s4 nLB g4 tp ntp
        have s5 := same_upd (o := .tup [.int (b : Int), .ref L0]) ntp
        have g5 : upd H4 tp (.tup [.int (b : Int), .ref L0]) tp = some (.tup [.int (b : Int), .ref L0]) := upd_same
        generalize upd H4 tp (.tup [.int (b : Int), .ref L0]) = H5 at s5 g5 ⊢
        have gB5 := s5 _ _ (s4 _ _ gB)
        have off : ∀ x o, x ≠ B → H5 x = some o → upd H5 B (.lst (ps.map V.ref ++ [.ref tp])) x = some o := fun x o n h => by rw [upd_ne n]; exact h
        refine ⟨ps.map V.ref, gB5, lt_sz (by rw [List.length_map]; omega), ?_⟩
        rw [hI]
        refine ⟨fun x o h => by rw [upd_ne (ne_of_none h nB)]; exact s5 _ _ (s4 _ _ (s3 _ _ h)), ps ++ [tp], fun s => if s = b then L0 else la s, by rw [List.length_append, lp]; rfl, by rw [upd_same, List.map_append]; rfl, fun j s q hj hq => ?_⟩
        rcases Nat.lt_or_ge j i with lt | ge
        · rw [List.getElem?_append_left (by omega)] at hq
          have ne : s ≠ b := fun e => by
            subst e
            have und2 := und
            unfold List.Nodup at und2
            rw [List.pairwise_iff_getElem] at und2
            obtain ⟨lj, ej⟩ := List.getElem?_eq_some_iff.mp hj
            obtain ⟨li, ei⟩ := List.getElem?_eq_some_iff.mp hb
            exact und2 j i lj li lt (ej.trans ei.symm)
          dsimp only
          rw [if_neg ne]
          obtain ⟨q1, q2, q3⟩ := hall j s q hj hq
          have q1' := s5 _ _ (s4 _ _ q1)
          exact ⟨off _ _ (fun e => by rw [e, gB5] at q1'; cases q1') q1', q2, off _ _ q2 (s5 _ _ (s4 _ _ q3))⟩
        · rw [List.getElem?_append_right (by omega)] at hq
          have j0 : j - ps.length = 0 := by
            have := (List.getElem?_eq_some_iff.mp hq).1
            simp only [List.length_cons, List.length_nil] at this; omega
          rw [j0] at hq
          obtain rfl : tp = q := by simpa using hq
          obtain rfl : j = i := by omega
          rw [hb] at hj
          cases hj
          dsimp only
          rw [if_pos rfl]
          exact ⟨off _ _ (fun e => by rw [e, gB5] at g5; cases g5) g5, nLB, off _ _ nLB (s5 _ _ g4)⟩
      refine ⟨rfl, ?_⟩
      dsimp only [tYes]
      have one : 1 ≤ sizeLine := by decide
      refine iteT ⟨_, rfl, _, rfl, _, rfl, p, _, rfl, dget_up g2 s03, vi, _, rfl, .inr (ex_t' s03 his), rfl, flat_ixs _, _, rfl, ?_⟩
      rw [in_F]
      by_cases hbi : b ∈ pl.ins
      · rw [decide_eq_true hbi]
        refine iteT ⟨one, fun L0 nL0 => ⟨two, fun tp ntp => ?_⟩⟩
        exact fin L0 _ (same_upd nL0) (fun e => by rw [e, gB] at nL0; cases nL0) (by rw [upd_same, if_pos hbi]; rfl) tp ntp
      · rw [decide_eq_false hbi]
        refine iteF ⟨Nat.zero_le _, fun L0 nL0 => ⟨two, fun tp ntp => ?_⟩⟩
        exact fin L0 _ (same_upd nL0) (fun e => by rw [e, gB] at nL0; cases nL0) (by rw [upd_same, if_neg hbi]; rfl) tp ntp
    · rintro H3 z
      rw [hI] at z
      obtain ⟨s3, ps, la, lp, gB, hall⟩ := z
      have e0 : (ixs us).length = us.length := by unfold ixs; rw [List.length_map]
      rw [e0] at lp
      dsimp only [tNil]
      refine ⟨B, ps, us.map fun s : Nat => ((.inl (s : Int) : L2.Key), V.ref (la s)), rfl, sqOf gB, paired_get (by rw [List.length_map, lp]) fun j q kv hq hkv => ?_, fun d nd => ?_⟩
      · rw [List.getElem?_map] at hkv
        obtain ⟨s, hs, rfl⟩ := Option.map_eq_some_iff.mp hkv
        exact stOf (hall j s q hs hq).1
      · rw [merge_all und]
        have s4 := same_upd (o := .dK (us.map fun s : Nat => ((.inl (s : Int) : L2.Key), V.ref (la s)))) nd
        have g4 : upd H3 d (.dK (us.map fun s : Nat => ((.inl (s : Int) : L2.Key), V.ref (la s)))) d = some (.dK (us.map fun s : Nat => ((.inl (s : Int) : L2.Key), V.ref (la s)))) := upd_same
        generalize upd H3 d (.dK (us.map fun s : Nat => ((.inl (s : Int) : L2.Key), V.ref (la s)))) = H4 at s4 g4 ⊢
        have sH4 := (s2.trans s3).trans s4
        have FA : FoundAt H4 d us (fun s => if s ∈ pl.ins then [0] else []) la := ⟨g4, fun s hs => by
          obtain ⟨j, hj⟩ := List.mem_iff_getElem?.mp hs
          obtain ⟨q, hq⟩ : ∃ q, ps[j]? = some q := ⟨_, List.getElem?_eq_getElem (by have := (List.getElem?_eq_some_iff.mp hj).1; omega)⟩
          exact s4 _ _ (hall j s q hj hq).2.2⟩
        have s24 := s3.trans s4
        have ndH : H d = none := (s2.trans s3).free nd
        have hlt := useful_lt hO U
        have small : ∀ s ∈ us, s ≤ 1000 := fun s hs => by have := hlt s hs; omega
        have SA4 := SA.up s24
        have FI : FIn pl us (fun s => if s ∈ pl.ins then [0] else []) := by
          refine ⟨fun s hs => ?_, fun s hs g hg => ?_, fun s hs hi => ?_⟩
          · split
            · exact List.pairwise_singleton _ _
            · exact .nil
          · split at hg
            · next h => rw [List.mem_singleton.mp hg]; exact lead_zero h hs
            · cases hg
          · rw [if_pos hi]; exact List.mem_cons_self
        refine ⟨.ref l, rfl, .ref D, rfl, l, D, pl, us, long, rfl, s24 _ _ gl2, SA4, ul, by omega, fun e he => gain_some hO he, by omega, small, few, fun b H5 s5 hb => ⟨_, rfl, ?_⟩⟩
        have rg : b = true ↔ Rg pl us := hb.trans (rg_at U).symm
        cases b with
        | true => exact iteT (kQ _ H5 (sH4.trans s5) (.inl ⟨rfl, rg.mp rfl⟩))
        | false =>
          have nr : ¬ Rg pl us := fun z => by have := rg.mpr z; cases this
          refine iteF ⟨.ref d, rfl, .ref D, rfl, d, D, pl, us, _, la, long * us.length, rfl, FA.up s5, SA4.up s5, ul, by omega, small, und, FI, fun s g h => lead_bound' U nr (fun e he => gain_some hO he) h, hB, fun f' la' H6 o6 FA6 F6 all => ?_⟩
          exact kQ _ H6 (fun x o h => o6 x o (ne_of_none h ndH) (ne_of_none h ndH) (s5 _ _ (sH4 _ _ h))) (.inr ⟨d, f', la', rfl, ndH, nr, FA6, F6, all⟩)
end
end KP
/-! sum(lists, []): no lists, too -/
namespace EL
open PySem PySem.Spec PyProof.Rows L2
section
variable {prog : Program} {w : World} {A : Around} {E : Value → Shared → Prop} {lx : Addr} {items : Array Value} {parts : Nat → Array Value}
theorem sumM_call {s : Shared} {t : Addr} {Q : Value → Shared → Prop} (hh : A.handled = none) (hlx : s.heap.IsList lx items) (ht : ∃ n, IsL s.heap t #[] n) (hcat : ∀ i, i ≤ items.size → (catA parts i).size ≤ 1000000)
    (hp : ∀ j, j < items.size → ∃ b n, items[j]? = some (.ref b) ∧ IsL s.heap b (parts j) n)
    (hQ : ∀ h' tk T' n, (∀ b o, s.heap.get? b = some o → h'.get? b = some o) → IsL h' T' (catA parts items.size) n → (s.heap.objs.size ≤ T' ∨ (items.size = 0 ∧ T' = t)) → Q (.ref T') { s with heap := h', toks := tk }) :
    wpAny (model prog w) A (call (.builtin "sum") [.ref lx, .ref t]) Q E s := by
  refine call_function_tree PySem.F.kind_sum PySem.F.plain_sum PySem.F.entry_sum (args_sum2 _ _) ?_
  unfold Builtin.«sum»
  simp only [List.length_cons, List.length_nil]
  rw [if_neg (by decide)]
  refine wpAny_bind (wpAny_of_eq (show Builtin.Builtins.bindParams "sum" ["start"] 0 ⟨[.ref t], []⟩ = pure [some (.ref t)] from rfl) ?_)
  refine wpAny_bind (wpAny_pyIter_list hlx ?_)
  obtain ⟨nt, ht⟩ := ht
  generalize hI : s.heap.objs.size = it
  have up : ∀ b o, s.heap.get? b = some o → (s.heap.push { cls := .type "list_iterator", data := .fields #[.ref lx, .int 0 0] }).get? b = some o := fun b o e => Heap.get?_push_of_some _ e
  have gI : (s.heap.push { cls := .type "list_iterator", data := .fields #[.ref lx, .int 0 0] }).get? it = some { cls := .type "list_iterator", data := .fields #[.ref lx, .int 0 0] } := by rw [← hI]; exact Heap.get?_push_size _ rfl
  have szI : (s.heap.push { cls := .type "list_iterator", data := .fields #[.ref lx, .int 0 0] }).objs.size = it + 1 := by rw [Heap.size_push, hI]
  generalize s.heap.push { cls := .type "list_iterator", data := .fields #[.ref lx, .int 0 0] } = h1 at up gI szI ⊢
  refine wpAny_bind (wpAny_pure ?_)
  have ty : ({ s with heap := h1 } : Shared).TypeIs (.ref t) "list" := ⟨_, up _ _ ht, rfl⟩
  simp only [List.forIn_cons, List.forIn_nil]
  refine wpAny_bind (wpAny_bind (wpAny_bind (wpAny_isInstance (T := "list") (b := false) ty sub_list_str ?_)))
  simp only [Bool.false_eq_true, if_false]
  refine wpAny_pure (wpAny_bind (wpAny_bind (wpAny_isInstance (T := "list") (b := false) ty PySem.F.sub_list_bytes ?_)))
  simp only [Bool.false_eq_true, if_false]
  refine wpAny_pure (wpAny_bind (wpAny_bind (wpAny_isInstance (T := "list") (b := false) ty PySem.F.sub_list_bytearray ?_)))
  simp only [Bool.false_eq_true, if_false]
  refine wpAny_pure (wpAny_pure ?_)
  refine wpAny_bind (wpAny_newObj_type ?_)
  have old : ∀ b o, s.heap.get? b = some o → b < it := fun b o e => by rw [← hI]; exact Heap.lt_size e
  have ltx : lx < it := by obtain ⟨o, ho, _⟩ := hlx; exact old _ _ ho
  have ltt : t < it := old _ _ ht
  have itS : it < h1.objs.size := by rw [szI]; exact Nat.lt_succ_self _
  have up2 : ∀ b o, h1.get? b = some o → (h1.push { cls := .type "list", data := .seq #[.ref t] }).get? b = some o := fun b o e => Heap.get?_push_of_some _ e
  show wpAny _ _ (pure _) _ _ _
  refine wpAny_pure ⟨plainId_quiet PySem.F.plain_sum_loop _, sumL_loop (I := it) (lx := lx) (S := h1.objs.size) (items := items) (parts := parts) hh (Nat.ne_of_lt ltx) (Nat.ne_of_gt itS) (Nat.ne_of_gt (Nat.lt_trans ltx itS)) hcat items.size 0 _ t _ rfl (Nat.zero_le _) ⟨_, up2 _ _ gI, rfl, rfl⟩ ?_ (Heap.get?_push_size _ rfl) (Nat.ne_of_lt (Nat.lt_trans ltt itS)) (Nat.ne_of_lt ltt) ⟨nt, up2 _ _ (up _ _ ht)⟩ (fun j _ hj => ?_) fun h' tk T' n keep hT' hn => ?_⟩
  · obtain ⟨o, ho, hr⟩ := hlx
    exact ⟨o, up2 _ _ (up _ _ ho), hr⟩
  · obtain ⟨b, n, q1, q2⟩ := hp j hj
    have := old _ _ q2
    exact ⟨b, n, q1, Nat.ne_of_lt (Nat.lt_trans this itS), Nat.ne_of_lt this, up2 _ _ (up _ _ q2)⟩
  · refine hQ h' tk T' n (fun b o e => keep b o (Nat.ne_of_lt (old b o e)) (Nat.ne_of_lt (Nat.lt_trans (old b o e) itS)) (up2 _ _ (up _ _ e))) hT' ?_
    rcases hn with ⟨h0, h1⟩ | hn
    · exact .inr ⟨h0.symm, h1⟩
    · refine .inl ?_
      rw [hI]; exact Nat.le_of_lt hn
end
def rSumM (K : PySem.W.Frag) : List V → Hp → VK → Prop := fun xs H Q => ∃ (l t : Addr) (vs : List V) (parts : List (List V)), xs = [.ref l, .ref t] ∧ SqL K H l vs ∧ H t = some (.lst []) ∧ vs.length = parts.length ∧ parts.flatten.length ≤ 1000000 ∧
  (∀ (j : Nat) (p : List V), parts[j]? = some p → ∃ b, vs[j]? = some (.ref b) ∧ H b = some (.lst p)) ∧ (vs = [] → Q (.ref t) H) ∧ ∀ q, H q = none → Q (.ref q) (L2.upd H q (.lst parts.flatten))
theorem cr_sumM {X : Cx} (hc : X.calm = true) : CallR X (.builtin "sum") (rSumM X.K) := by
  intro pins s σ H xs us Q I rv h
  obtain ⟨l, t, vs, parts, rfl, hS, ht, hlen, hz, hk, q0, q⟩ := h
  obtain ⟨u1, u2, rfl, r1, r2⟩ : ∃ u1 u2, us = [u1, u2] ∧ RelV (.ref l) u1 ∧ RelV (.ref t) u2 := by
    cases rv with
    | cons a r =>
      cases r with
      | cons b r => cases r; exact ⟨_, _, rfl, a, b⟩
  cases r1
  cases r2
  obtain ⟨its, rv2, pl, _⟩ := I.list hS
  have li : its.length = vs.length := rv2.length.symm
  have ch : ∀ j : Nat, ∃ ws : List Value, ∀ p, parts[j]? = some p → Vals p ws ∧ ∃ b n, its.toArray[j]? = some (.ref b) ∧ IsL s.heap b ws.toArray n := fun j => by
    cases e : parts[j]? with
    | none => exact ⟨[], fun p h => by cases h⟩
    | some p =>
      obtain ⟨b, hb1, hb2⟩ := hk j p e
      obtain ⟨u, hu1, hu2⟩ := rv2.get hb1
      cases hu2
      obtain ⟨_, ws, n, rw', gb⟩ := (show ObjOk X.prog X.w H s.heap b (.lst p) from I.hok b _ hb2)
      exact ⟨ws, fun p' h => by cases h; exact ⟨rw', b, n, by simpa using hu1, gb⟩⟩
  obtain ⟨f, hf⟩ := Classical.skolem.mp ch
  have vals : ∀ i, i ≤ parts.length → Vals (parts.take i).flatten (catA (fun j => (f j).toArray) i).toList := by
    intro i
    induction i with
    | zero => intro _; exact .nil
    | succ i ih =>
      intro hi
      have e : parts[i]? = some (parts[i]'(by omega)) := List.getElem?_eq_getElem (by omega)
      rw [List.take_add_one, e]
      simp only [Option.toList_some, List.flatten_append, List.flatten_cons, List.flatten_nil, List.append_nil, catA, Array.toList_append]
      exact vals_append (ih (by omega)) (hf i _ e).1
  have szs : ∀ i, i ≤ parts.length → (catA (fun j => (f j).toArray) i).size ≤ 1000000 := fun i hi => by
    have e1 : (parts.take i).flatten.length = (catA (fun j => (f j).toArray) i).toList.length := (vals i hi).length
    have e3 : (catA (fun j => (f j).toArray) i).toList.length = (catA (fun j => (f j).toArray) i).size := Array.length_toList
    have e2 : parts.flatten.length = (parts.take i).flatten.length + (parts.drop i).flatten.length := by
      rw [← List.length_append, ← List.flatten_append, List.take_append_drop]
    omega
  have sz : its.toArray.size = parts.length := by rw [List.size_toArray, li, hlen]
  obtain ⟨_, w0, n0, r0, g0⟩ := (show ObjOk X.prog X.w H s.heap t (.lst []) from I.hok t _ ht)
  cases r0
  refine sumM_call (parts := fun j => (f j).toArray) (I.ok.hd hc) pl.isList ⟨n0, g0⟩ (fun i hi => szs i (by rw [← sz]; exact hi)) (fun j hj => ?_) fun h' tk T' n keep hT' le => ?_
  · exact (hf j _ (List.getElem?_eq_getElem (by rw [← sz]; exact hj))).2
  · rw [sz] at hT'
    have v2 := vals parts.length (Nat.le_refl _)
    rw [List.take_of_length_le (Nat.le_refl _)] at v2
    rcases le with le | ⟨z, rfl⟩
    · refine ⟨.ref T', _, I.laid (t' := tk) (o := .lst parts.flatten) keep le ⟨len_sz hz, _, n, v2, ?_⟩, rfl, q T' (I.hok.fresh le)⟩
      rw [Array.toArray_toList]
      exact hT'
    · exact ⟨.ref T', H, I.kept (t' := tk) keep, rfl, q0 (List.eq_nil_of_length_eq_zero (by rw [hlen, ← sz]; exact z))⟩
end EL
namespace EL
open PySem PySem.Spec PyProof.Rows L2
/-- sum(lists, []): a list, with all of them one behind the other -/
def rSumN (K : PySem.W.Frag) : List V → Hp → VK → Prop := fun xs H Q => ∃ (l t : Addr) (vs : List V) (parts : List (List V)), xs = [.ref l, .ref t] ∧ SqL K H l vs ∧ H t = some (.lst []) ∧ vs.length = parts.length ∧ parts.flatten.length ≤ 1000000 ∧
  (∀ (j : Nat) (p : List V), parts[j]? = some p → ∃ b, vs[j]? = some (.ref b) ∧ H b = some (.lst p)) ∧ ∀ q H', Same H H' → H' q = some (.lst parts.flatten) → Q (.ref q) H'
theorem cr_sumN {X : Cx} (hc : X.calm = true) : CallR X (.builtin "sum") (rSumN X.K) := by
  intro pins s σ H xs us Q I rv h
  obtain ⟨l, t, vs, parts, h1, h2, h3, h4, h5, h6, q⟩ := h
  refine cr_sumM hc pins s σ H xs us Q I rv ⟨l, t, vs, parts, h1, h2, h3, h4, h5, h6, fun e => ?_, fun p np => q p _ (same_upd np) upd_same⟩
  have : parts = [] := List.eq_nil_of_length_eq_zero (by rw [← h4, e]; rfl)
  exact q t H (Same.refl H) (by rw [this]; exact h3)
end EL
namespace KP
open PySem PySem.Spec PyProof.Rows L2 EL
open Evl (pss_cut)
abbrev sLAreBounds : Stmt := topS 77
theorem scLAreBounds : FnScope ["_law_w", "_law_it", "_law_flat", "_law_used_here", "_law_low", "_law_high", "_law_near", "_law_x", "_law_y", "_law_far", "_law_gain_here", "_law_part", "_law_spot"] ["_law_w", "_law_it"] (defScope sLAreBounds) := ⟨rfl, rfl, rfl, by decide +kernel, rfl, by decide +kernel, by decide +kernel⟩
def rListK (K : PySem.W.Frag) : List V → Hp → VK → Prop := fun xs H Q => ∃ p ys, xs = [V.ref p] ∧ (SqL K H p ys ∨ SqT K H p ys) ∧ ∀ (l : Addr), H l = none → Q (V.ref l) (upd H l (HO.lst ys))
def is3 : PyData → Bool
  | .tuple [_, _, _] => true
  | _ => false
theorem is3_of {d : PyData} (h : is3 d = true) : ∃ a b c, d = .tuple [a, b, c] := by
  unfold is3 at h
  split at h
  · exact ⟨_, _, _, rfl⟩
  · cases h
def flat3 : List PyData → List PyData
  | [] => []
  | .tuple es :: r => es ++ flat3 r
  | _ :: r => flat3 r
theorem trips_of : ∀ {ds : List PyData}, (∀ e ∈ ds, is3 e = true) → (∀ e ∈ flat3 ds, isIntD e = true) → ∃ ts : List T3i, ds = ts.map tripD
  | [], _, _ => ⟨[], rfl⟩
  | d :: r, h1, h2 => by
    obtain ⟨a, b, c, rfl⟩ := is3_of (h1 d List.mem_cons_self)
    have h2' : ∀ e ∈ [a, b, c] ++ flat3 r, isIntD e = true := h2
    obtain ⟨i, rfl⟩ := isInt_of (h2' a (by simp))
    obtain ⟨j, rfl⟩ := isInt_of (h2' b (by simp))
    obtain ⟨k, rfl⟩ := isInt_of (h2' c (by simp))
    obtain ⟨ts, rfl⟩ := trips_of (ds := r) (fun e he => h1 e (List.mem_cons_of_mem _ he)) (fun e he => h2' e (List.mem_append_right _ he))
    exact ⟨(i, j, k) :: ts, rfl⟩
theorem bnd_is3 (us : List Nat) (lo hi : Nat → Int) : ∀ e ∈ us.map (bndD lo hi), is3 e = true := fun e he => by
  obtain ⟨s, _, rfl⟩ := List.mem_map.mp he
  rfl
theorem bnd_ints (lo hi : Nat → Int) : ∀ us : List Nat, ∀ e ∈ flat3 (us.map (bndD lo hi)), isIntD e = true
  | [], e, h => nomatch h
  | s :: us, e, h => by
    have h : e ∈ [PyData.int (s : Int), .int (lo s), .int (hi s)] ++ flat3 (us.map (bndD lo hi)) := h
    rcases List.mem_append.mp h with z | z
    · simp at z
      rcases z with rfl | rfl | rfl <;> rfl
    · exact bnd_ints lo hi us e z
theorem boundsB_yes {pl : Plan} {us : List Nat} {lo hi : Nat → Int} (B : BndOk pl us lo hi) : boundsB pl us (.tuple (us.map (bndD lo hi))) = true := by
  simp only [boundsB, decide_eq_true_eq]
  exact ⟨lo, hi, rfl, B⟩
theorem boundsB_not {pl : Plan} {us : List Nat} {lo hi : Nat → Int} (nB : ¬ BndOk pl us lo hi) : boundsB pl us (.tuple (us.map (bndD lo hi))) = false := boundsB_no fun lo' hi' e B => nB (by
  have e : us.map (bndD lo hi) = us.map (bndD lo' hi') := by injection e
  have ag := bnd_agree e
  refine ⟨fun s hs => ?_, fun b hb hu => ?_, fun s hs x hx => ?_⟩
  · rw [(ag s hs).1, (ag s hs).2]; exact B.le s hs
  · rw [(ag b hu).1, (ag b hu).2]; exact B.be b hb hu
  · obtain ⟨m, _, _, _, h4, _, h6⟩ := mem_leav.mp hx
    have hu : x.2.2 ∈ us := by rw [h6]; exact h4
    rw [(ag s hs).1, (ag s hs).2, (ag _ hu).1, (ag _ hu).2]; exact B.st s hs x hx)
theorem flat3_snoc (l : List PyData) (es : List PyData) : flat3 (l ++ [.tuple es]) = flat3 l ++ es := by
  induction l with
  | nil => show es ++ [] = _; rw [List.append_nil]; rfl
  | cons d r ih =>
    rw [List.cons_append]
    cases d <;> first | exact ih | (show _ ++ flat3 (r ++ [.tuple es]) = (_ ++ flat3 r) ++ es; rw [ih, List.append_assoc])
theorem bulk4 : ∀ {ds : List PyData}, (∀ e ∈ ds, is3 e = true) → 4 * ds.length ≤ PyData.bulkAll ds
  | [], _ => Nat.zero_le _
  | d :: r, h => by
    obtain ⟨a, b, c, rfl⟩ := is3_of (h d List.mem_cons_self)
    have ih := bulk4 (ds := r) fun e he => h e (List.mem_cons_of_mem _ he)
    have e : PyData.bulkAll (.tuple [a, b, c] :: r) = (a.bulk + 1 + (b.bulk + 1 + (c.bulk + 1 + 0))) + 1 + PyData.bulkAll r := rfl
    rw [e, List.length_cons]
    omega
def spBoundsL (K : PySem.W.Frag) : Sp := fun vs H Q _ => ∃ (p : Addr) (pl : Plan) (top many long : Nat) (us : List Nat) (v : V) (d : PyData), vs = [.ref p, v] ∧ WorldAt K H p pl ∧ pl.Ok top many long ∧ top ≤ 50 ∧ many ≤ 50 ∧ long ≤ 50 ∧ UsefulL pl us ∧ Dq K H v d ∧ Sz d ∧
  ∀ H', Same H H' → Q (.bl (boundsB pl us d)) H'

section
variable {P : Program} {w : World} {K : PySem.W.Frag} {mg : Str → Option Value} {base : Heap}
theorem ok_LAreBounds {f : Addr} {fd : FuncData} {k : Nat} (F : Fun K "_law_are_bounds" "_law_are_bounds" sLAreBounds f fd) (nisinstance : mg "isinstance" = none) (ntuple : mg "tuple" = none) (nint : mg "int" = none) (nbool : mg "bool" = none) (nlen : mg "len" = none) (nlist : mg "list" = none) (nsum : mg "sum" = none) (ndict : mg "dict" = none) (CLUsed : Cal P w K mg base k "_law_used" ["_law_w"] (spUsedL K)) : FnOk P w K mg base CX0 (k + 1) f fd ["_law_w", "_law_it"] (spBoundsL K) := by
  refine F.ok scLAreBounds (fun vs H Q E h => ?_) (fun cdv A outer s H vs Q E hr h => ?_)
  · obtain ⟨p, pl, top, many, long, us, v, d, rfl, _⟩ := h; rfl
  · obtain ⟨p, pl, top, many, long, us, v, d, rfl, hP, hO, t1, t2, t3, U, hd, hz, q⟩ := h
    have hu := hr.units
    have hu1 : (A.deeper (envOfC "_law_are_bounds" (defScope sLAreBounds) s.heap.objs.size f cdv)).units + 1 < cLine := by omega
    refine ⟨_, (pss_cons (ps_if (PW.pt (pw_or (pt_not (pt_val (pe_callB (show CallR _ _ (rIsi K) from call_isi) (by rfl) nisinstance (by decide +kernel) (pa_cons (pv 1) (pa_cons (pe_tyN (n := "tuple") ntuple (by decide +kernel)) pa_nil))))) (pw_or1 (pt_cmpR (op_neN hr.units0) (pe_lc (own := [("_law_part", 11)]) (g := (gName 11)) (by rfl) scLAreBounds.nd (pi_tup (pv 1)) (blkOk_by (own := [("_law_part", 11)]) (N := ["_law_w", "_law_it", "_law_flat", "_law_used_here", "_law_low", "_law_high", "_law_near", "_law_x", "_law_y", "_law_far", "_law_gain_here", "_law_part", "_law_spot"]) (sc := defScope sLAreBounds) (by decide +kernel)) (fun _ _ _ _ _ => (pg_name (i := 11) scLAreBounds.nd rfl (by first | exact Or.inl rfl | exact Or.inr rfl))) (fun _ _ _ _ _ => (pts_one (PW.pt (pw_or (pt_not (pt_val (pe_callB (show CallR _ _ (rIsi K) from call_isi) (by rfl) nisinstance (by decide +kernel) (pa_cons (pv 11) (pa_cons (pe_tyN (n := "tuple") ntuple (by decide +kernel)) pa_nil))))) (pw_or1 (pt_cmpR op_ne (pe_callB (show CallR _ _ (rLenK K) from call_len) (by rfl) nlen (by decide +kernel) (pa_cons (pv 11) pa_nil)) pe_int (nomark _))))))) (fun _ _ _ _ _ => (pv 11))) (pe_lst pa_nil) (nomark _))))) (pss_one (ps_ret pe_bl)) pss_nil)
      (pss_cons (ps_set (i := 2) scLAreBounds.nd rfl (by first | exact Or.inl rfl | exact Or.inr rfl) (pe_callB (show CallR _ _ (rSumN K) from cr_sumN rfl) (by rfl) nsum (by decide +kernel) (pa_cons (pe_lc (own := [("_law_part", 11)]) (g := (gName 11)) (by rfl) scLAreBounds.nd (pi_tup (pv 1)) (blkOk_by (own := [("_law_part", 11)]) (N := ["_law_w", "_law_it", "_law_flat", "_law_used_here", "_law_low", "_law_high", "_law_near", "_law_x", "_law_y", "_law_far", "_law_gain_here", "_law_part", "_law_spot"]) (sc := defScope sLAreBounds) (by decide +kernel)) (fun _ _ _ _ _ => (pg_name (i := 11) scLAreBounds.nd rfl (by first | exact Or.inl rfl | exact Or.inr rfl))) (fun _ _ _ _ _ => pts_nil) (fun _ _ _ _ _ => (pe_callTy (show CallR _ _ (rListK K) from call_list_of) (by rfl) nlist (by decide +kernel) (pa_cons (pv 11) pa_nil)))) (pa_cons (pe_lst pa_nil) pa_nil))))
      (pss_cons (ps_if (pt_cmpR (op_neN hr.units0) (pe_lc (own := [("_law_x", 7)]) (g := (gName 7)) (by rfl) scLAreBounds.nd (pi_list (pv 2)) (blkOk_by (own := [("_law_x", 7)]) (N := ["_law_w", "_law_it", "_law_flat", "_law_used_here", "_law_low", "_law_high", "_law_near", "_law_x", "_law_y", "_law_far", "_law_gain_here", "_law_part", "_law_spot"]) (sc := defScope sLAreBounds) (by decide +kernel)) (fun _ _ _ _ _ => (pg_name (i := 7) scLAreBounds.nd rfl (by first | exact Or.inl rfl | exact Or.inr rfl))) (fun _ _ _ _ _ => (pts_one (PW.pt (pw_or (pt_not (pt_val (pe_callB (show CallR _ _ (rIsi K) from call_isi) (by rfl) nisinstance (by decide +kernel) (pa_cons (pv 7) (pa_cons (pe_tyN (n := "int") nint (by decide +kernel)) pa_nil))))) (pw_or1 (pt_val (pe_callB (show CallR _ _ (rIsi K) from call_isi) (by rfl) nisinstance (by decide +kernel) (pa_cons (pv 7) (pa_cons (pe_tyN (n := "bool") nbool (by decide +kernel)) pa_nil))))))))) (fun _ _ _ _ _ => (pv 7))) (pe_lst pa_nil) (nomark _)) (pss_one (ps_ret pe_bl)) pss_nil)
      (pss_cons (ps_set (i := 3) scLAreBounds.nd rfl (by first | exact Or.inl rfl | exact Or.inr rfl) (pe_cal CLUsed hr (by rfl) pass0 (pa_cons (pv 0) pa_nil)))
      (pss_cons (ps_if (PW.pt (pw_or (pt_cmpR (op_neD hu) (pe_lc (own := [("_law_part", 11)]) (g := (gName 11)) (by rfl) scLAreBounds.nd (pi_tup (pv 1)) (blkOk_by (own := [("_law_part", 11)]) (N := ["_law_w", "_law_it", "_law_flat", "_law_used_here", "_law_low", "_law_high", "_law_near", "_law_x", "_law_y", "_law_far", "_law_gain_here", "_law_part", "_law_spot"]) (sc := defScope sLAreBounds) (by decide +kernel)) (fun _ _ _ _ _ => (pg_name (i := 11) scLAreBounds.nd rfl (by first | exact Or.inl rfl | exact Or.inr rfl))) (fun _ _ _ _ _ => pts_nil) (fun _ _ _ _ _ => (pe_ix (show IxR _ (rIxT K) from ix_tup) (pv 11) pe_int (fun _ _ => rfl)))) (pv 3) (nomark _)) (pw_or1 (pt_cmpR (op_neN hr.units0) (pe_lc (own := [("_law_part", 11)]) (g := (gName 11)) (by rfl) scLAreBounds.nd (pi_tup (pv 1)) (blkOk_by (own := [("_law_part", 11)]) (N := ["_law_w", "_law_it", "_law_flat", "_law_used_here", "_law_low", "_law_high", "_law_near", "_law_x", "_law_y", "_law_far", "_law_gain_here", "_law_part", "_law_spot"]) (sc := defScope sLAreBounds) (by decide +kernel)) (fun _ _ _ _ _ => (pg_name (i := 11) scLAreBounds.nd rfl (by first | exact Or.inl rfl | exact Or.inr rfl))) (fun _ _ _ _ _ => (pts_one (pt_cmpR op_gt (pe_ix (show IxR _ (rIxT K) from ix_tup) (pv 11) pe_int (fun _ _ => rfl)) (pe_ix (show IxR _ (rIxT K) from ix_tup) (pv 11) pe_int (fun _ _ => rfl)) (nomark _)))) (fun _ _ _ _ _ => (pv 11))) (pe_lst pa_nil) (nomark _))))) (pss_one (ps_ret pe_bl)) pss_nil)
      (pss_cons (ps_asg (pe_tup (pa_cons (pe_callTy (call_dictP rfl) (by rfl) ndict (by decide +kernel) (pa_cons (pe_lc (own := [("_law_part", 11)]) (g := (gName 11)) (by rfl) scLAreBounds.nd (pi_tup (pv 1)) (blkOk_by (own := [("_law_part", 11)]) (N := ["_law_w", "_law_it", "_law_flat", "_law_used_here", "_law_low", "_law_high", "_law_near", "_law_x", "_law_y", "_law_far", "_law_gain_here", "_law_part", "_law_spot"]) (sc := defScope sLAreBounds) (by decide +kernel)) (fun _ _ _ _ _ => (pg_name (i := 11) scLAreBounds.nd rfl (by first | exact Or.inl rfl | exact Or.inr rfl))) (fun _ _ _ _ _ => pts_nil) (fun _ _ _ _ _ => (pe_tup (pa_cons (pe_ix (show IxR _ (rIxT K) from ix_tup) (pv 11) pe_int (fun _ _ => rfl)) (pa_cons (pe_ix (show IxR _ (rIxT K) from ix_tup) (pv 11) pe_int (fun _ _ => rfl)) pa_nil))))) pa_nil)) (pa_cons (pe_callTy (call_dictP rfl) (by rfl) ndict (by decide +kernel) (pa_cons (pe_lc (own := [("_law_part", 11)]) (g := (gName 11)) (by rfl) scLAreBounds.nd (pi_tup (pv 1)) (blkOk_by (own := [("_law_part", 11)]) (N := ["_law_w", "_law_it", "_law_flat", "_law_used_here", "_law_low", "_law_high", "_law_near", "_law_x", "_law_y", "_law_far", "_law_gain_here", "_law_part", "_law_spot"]) (sc := defScope sLAreBounds) (by decide +kernel)) (fun _ _ _ _ _ => (pg_name (i := 11) scLAreBounds.nd rfl (by first | exact Or.inl rfl | exact Or.inr rfl))) (fun _ _ _ _ _ => pts_nil) (fun _ _ _ _ _ => (pe_tup (pa_cons (pe_ix (show IxR _ (rIxT K) from ix_tup) (pv 11) pe_int (fun _ _ => rfl)) (pa_cons (pe_ix (show IxR _ (rIxT K) from ix_tup) (pv 11) pe_int (fun _ _ => rfl)) pa_nil))))) pa_nil)) pa_nil))) (pg_tup (by rfl) (pgs_cons (pg_name (i := 4) scLAreBounds.nd rfl (by first | exact Or.inl rfl | exact Or.inr rfl)) (pgs_cons (pg_name (i := 5) scLAreBounds.nd rfl (by first | exact Or.inl rfl | exact Or.inr rfl)) pgs_nil))))
      (pss_cons (ps_if (pt_cmpR (op_neN hr.units0) (pe_lc (own := [("_law_spot", 12)]) (g := (gName 12)) (by rfl) scLAreBounds.nd (pi_list (pv 3)) (blkOk_by (own := [("_law_spot", 12)]) (N := ["_law_w", "_law_it", "_law_flat", "_law_used_here", "_law_low", "_law_high", "_law_near", "_law_x", "_law_y", "_law_far", "_law_gain_here", "_law_part", "_law_spot"]) (sc := defScope sLAreBounds) (by decide +kernel)) (fun _ _ _ _ _ => (pg_name (i := 12) scLAreBounds.nd rfl (by first | exact Or.inl rfl | exact Or.inr rfl))) (fun _ _ _ _ _ => (pts_one (PW.pt (pw_and (pt_cmpR (show OpR _ _ (rIn K false) from op_in_seq) (pv 12) (pe_dget hu1 (pv 0) pe_str (fun _ _ => rfl)) (by rfl)) (pw_and1 (pt_not (pt_chain op_le op_le (pe_dget hu1 (pv 4) (pv 12) (fun _ _ => rfl)) pe_int (pe_dget hu1 (pv 5) (pv 12) (fun _ _ => rfl))))))))) (fun _ _ _ _ _ => (pv 12))) (pe_lst pa_nil) (nomark _)) (pss_one (ps_ret pe_bl)) pss_nil)
      (pss_cons (ps_for PassesOwn.never rfl (pi_tup (pe_dget hu1 (pv 0) pe_str (fun _ _ => rfl))) (pg_tup (by rfl) (pgs_cons (pg_name (i := 6) scLAreBounds.nd rfl (by first | exact Or.inl rfl | exact Or.inr rfl)) (pgs_cons (pg_name (i := 7) scLAreBounds.nd rfl (by first | exact Or.inl rfl | exact Or.inr rfl)) (pgs_cons (pg_name (i := 8) scLAreBounds.nd rfl (by first | exact Or.inl rfl | exact Or.inr rfl)) (pgs_cons (pg_name (i := 9) scLAreBounds.nd rfl (by first | exact Or.inl rfl | exact Or.inr rfl)) pgs_nil))))) (pss_cons (ps_set (i := 10) scLAreBounds.nd rfl (by first | exact Or.inl rfl | exact Or.inr rfl) (pe_op op_sub (pe_callB (show CallR _ _ (rLenK K) from call_len) (by rfl) nlen (by decide +kernel) (pa_cons (pv 7) pa_nil)) (pe_callB (show CallR _ _ (rLenK K) from call_len) (by rfl) nlen (by decide +kernel) (pa_cons (pv 8) pa_nil))))
      (pss_one (ps_if (PW.pt (pw_and (pt_cmpR op_in_seq (pv 6) (pv 3) (by rfl)) (pw_and1 (pt_cmpR op_in_seq (pv 9) (pv 3) (by rfl))))) (pss_one (ps_if (PW.pt (pw_or (pt_cmpR op_gt (pe_dget hu1 (pv 4) (pv 9) (fun _ _ => rfl)) (pe_op op_add (pe_dget hu1 (pv 4) (pv 6) (fun _ _ => rfl)) (pv 10)) (nomark _)) (pw_or1 (pt_cmpR op_lt (pe_dget hu1 (pv 5) (pv 9) (fun _ _ => rfl)) (pe_op op_add (pe_dget hu1 (pv 5) (pv 6) (fun _ _ => rfl)) (pv 10)) (nomark _))))) (pss_one (ps_ret pe_bl)) pss_nil)) pss_nil))))
      (pss_one (ps_ret pe_bl)))))))))), ?_⟩
    refine ⟨v, rfl, v, .ty "tuple", _, _, _, rfl, .ty "tuple", tyx_of hd, kit_ty (kit_tuple d), _, rfl, ?_⟩
    cases d with
    | tuple ds =>
      cases hd with
      | tup hs ha =>
      rename_i a xs
      have hzz : PyData.bulkAll ds ≤ 500000 := hz
      have lds := bulk_len ds
      have hxl : xs.length = ds.length := ha.len
      have hlen : xs.length ≤ 500000 := by rw [ha.len]; exact Nat.le_trans (bulk_len ds) hzz
      refine iteF ⟨.ref a, rfl, a, rfl, ⟨xs, hs⟩, fun D nD => ?_⟩
      refine it_gen (walk_tup (K := K) (a := a) (xs := xs)) (fun i H' => Same H H' ∧ ∃ acc, H' D = some (.lst acc) ∧ acc.length ≤ i ∧ (acc = [] ↔ ∀ e ∈ ds.take i, is3 e = true)) ⟨same_upd nD, [], upd_same, Nat.le_refl _, by rw [List.take_zero]; exact ⟨fun _ _ h => (nomatch h), fun _ => rfl⟩⟩ (fun i H' _ z => ex_t' z.1 hs) ?_ ?_
      · rintro i y H9 H1 hi ⟨s1, acc, gA, lA, eA⟩ ⟨rfl, hy⟩
        obtain ⟨e, ee, he⟩ := ha.at hy
        have tk := take_snoc ee
        have more : is3 e = false → ∃ acc, H1 D = some (.lst acc) ∧ acc.length < sizeLine ∧ (Same H (upd H1 D (.lst (acc ++ [y]))) ∧ ∃ acc', upd H1 D (.lst (acc ++ [y])) D = some (.lst acc') ∧ acc'.length ≤ i + 1 ∧ (acc' = [] ↔ ∀ e ∈ ds.take (i + 1), is3 e = true)) := fun h3 => by
          refine ⟨acc, gA, lt_sz (by omega), fun x o h => by rw [upd_ne (ne_of_none h nD)]; exact s1 _ _ h, _, upd_same, by rw [List.length_append]; show _ + 1 ≤ _; omega, fun z => absurd z (by simp), fun z => ?_⟩
          rw [tk] at z
          have := z e (List.mem_append_right _ List.mem_cons_self)
          rw [h3] at this; cases this
        have same : is3 e = true → Same H H1 ∧ ∃ acc, H1 D = some (.lst acc) ∧ acc.length ≤ i + 1 ∧ (acc = [] ↔ ∀ e ∈ ds.take (i + 1), is3 e = true) := fun h3 => by
          refine ⟨s1, acc, gA, by omega, ?_⟩
          rw [tk, eA]
          constructor
          · intro z x hx
            rcases List.mem_append.mp hx with w | w
            · exact z x w
            · rw [List.mem_singleton.mp w]; exact h3
          · exact fun z x hx => z x (List.mem_append_left _ hx)
        have he1 := he.up s1
        refine ⟨rfl, _, rfl, y, .ty "tuple", _, _, _, rfl, .ty "tuple", tyx_of he1, kit_ty (kit_tuple e), _, rfl, ?_⟩
        cases e with
        | tuple es =>
          cases he1 with
          | tup hs2 ha2 =>
          rename_i a2 xs2
          refine iteF ⟨.ref a2, rfl, .ref a2, xs2.length, rfl, .inr ⟨_, hs2, rfl⟩, rfl, _, rfl, ?_⟩
          have h3 : is3 (.tuple es) = decide (es.length = 3) := by
            match es with
            | [] => rfl
            | [_] => rfl
            | [_, _] => rfl
            | [_, _, _] => rfl
            | _ :: _ :: _ :: _ :: _ => simp [is3]
          by_cases l3 : es.length = 3
          · rw [decide_eq_true (by rw [ha2.len, l3]; rfl)]
            exact iteF (same (by rw [h3, decide_eq_true l3]))
          · rw [decide_eq_false (fun z => l3 (by have := ha2.len; injection z with z; omega))]
            exact iteT ⟨_, rfl, more (by rw [h3, decide_eq_false l3])⟩
        | _ => exact iteT (iteT ⟨_, rfl, more rfl⟩)
      rintro H1 ⟨s1, acc, gA, lA, eA⟩
      rw [hxl, List.take_length] at eA
      refine ⟨Nat.zero_le _, fun B1 nB1 => ?_⟩
      have sB1 := same_upd (o := .lst []) nB1
      have gB1 : upd H1 B1 (.lst []) B1 = some (.lst []) := upd_same
      dsimp only [tNil]
      generalize upd H1 B1 (.lst []) = H2 at sB1 gB1 ⊢
      have s2 := s1.trans sB1
      refine ⟨D, B1, acc, rfl, rfl, sqOf (sB1 _ _ gA), sqOf gB1, _, rfl, ?_⟩
      by_cases hall : ∀ e ∈ ds, is3 e = true
      case neg =>
        rw [decide_eq_false (fun z => hall (eA.mp z))]
        refine iteT ?_
        have := q H2 s2
        rw [boundsB_no fun lo hi e B => hall (by injection e with e; rw [e]; exact bnd_is3 us lo hi)] at this
        exact this
      rw [decide_eq_true (eA.mpr hall)]
      refine iteF ?_
      have b4 := bulk4 hall
      refine ⟨.ref a, rfl, a, rfl, ⟨xs, ex_t' s2 hs⟩, fun D2 nD2 => ?_⟩
      refine it_gen (walk_tup (K := K) (a := a) (xs := xs)) (fun i H' => Same H2 H' ∧ ∃ (vs : List V) (parts : List (List V)), H' D2 = some (.lst vs) ∧ vs.length = i ∧ parts.length = i ∧ parts.flatten.length = 3 * i ∧ DqAll K H parts.flatten (flat3 (ds.take i)) ∧ ∀ (j : Nat) (p : List V), parts[j]? = some p → ∃ b, vs[j]? = some (.ref b) ∧ b ≠ D2 ∧ H' b = some (.lst p))
        ⟨same_upd nD2, [], [], upd_same, rfl, rfl, rfl, by rw [List.take_zero]; exact .nil, fun j p h => by simp at h⟩ (fun i H' _ z => ex_t' (s2.trans z.1) hs) ?_ ?_
      · rintro i y H9 H3 hi ⟨s3, vs, parts, gD, l1, l2, l3, dA, hp⟩ ⟨rfl, hy⟩
        obtain ⟨e, ee, he⟩ := ha.at hy
        obtain ⟨x1, x2, x3, rfl⟩ := is3_of (hall e (List.mem_of_getElem? ee))
        have s03 := s2.trans s3
        obtain ⟨b, ps, rfl, hb, hpa⟩ : ∃ b ps, y = .ref b ∧ SqT K H b ps ∧ DqAll K H ps [x1, x2, x3] := by
          cases he with
          | tup hs ha => exact ⟨_, _, rfl, hs, ha⟩
        have hpl : ps.length = 3 := hpa.len
        refine ⟨rfl, ?_⟩
        dsimp only [tYes]
        refine iteT ⟨_, rfl, b, ps, rfl, .inr (ex_t' s03 hb), fun l nl => ?_⟩
        have s4 := same_upd (o := .lst ps) nl
        have g4 : upd H3 l (.lst ps) l = some (.lst ps) := upd_same
        generalize upd H3 l (.lst ps) = H4 at s4 g4 ⊢
        have lD : l ≠ D2 := fun e => by rw [e, gD] at nl; cases nl
        refine ⟨vs, s4 _ _ gD, lt_sz (by omega), fun x o h => by rw [upd_ne (ne_of_none h nD2)]; exact s4 _ _ (s3 _ _ h), vs ++ [.ref l], parts ++ [ps], upd_same, by rw [List.length_append, l1]; rfl, by rw [List.length_append, l2]; rfl, ?_, ?_, fun j p hj => ?_⟩
        · rw [List.flatten_append, List.length_append, l3]
          simp [hpl]
          omega
        · rw [take_snoc ee, flat3_snoc, List.flatten_append]
          have : [ps].flatten = ps := by simp
          rw [this]
          exact dA.app hpa
        · rcases Nat.lt_or_ge j parts.length with lt | ge
          · rw [List.getElem?_append_left lt] at hj
            obtain ⟨b2, q1, q2, q3⟩ := hp j p hj
            exact ⟨b2, by rw [List.getElem?_append_left (by omega)]; exact q1, q2, by rw [upd_ne q2]; exact s4 _ _ q3⟩
          · rw [List.getElem?_append_right ge] at hj
            have j0 : j - parts.length = 0 := by
              have := (List.getElem?_eq_some_iff.mp hj).1
              simp only [List.length_cons, List.length_nil] at this; omega
            rw [j0] at hj
            obtain rfl : ps = p := by simpa using hj
            refine ⟨l, ?_, lD, by rw [upd_ne lD]; exact g4⟩
            rw [List.getElem?_append_right (by omega), show j - vs.length = 0 by omega]
            rfl
      rintro H3 ⟨s3, vs, parts, gD2, l1, l2, l3, dA, hp⟩
      rw [hxl] at l1 l2 l3
      rw [hxl, List.take_length] at dA
      refine ⟨Nat.zero_le _, fun B2 nB2 => ?_⟩
      have sB2 := same_upd (o := .lst []) nB2
      have gB2 : upd H3 B2 (.lst []) B2 = some (.lst []) := upd_same
      dsimp only [tNil]
      generalize upd H3 B2 (.lst []) = H4 at sB2 gB2 ⊢
      have s4 := (s2.trans s3).trans sB2
      refine ⟨D2, B2, vs, parts, rfl, sqOf (sB2 _ _ gD2), gB2, by omega, by omega, fun j p hj => ?_, fun fl H5 s5 gfl => ?_⟩
      · obtain ⟨b, q1, _, q3⟩ := hp j p hj
        exact ⟨b, q1, sB2 _ _ q3⟩
      have s05 := s4.trans s5
      have lfl : parts.flatten.length = (flat3 ds).length := dA.len
      refine ⟨_, rfl, fl, rfl, ⟨_, sqOf gfl⟩, fun D3 nD3 => ?_⟩
      refine it_gen (walk_list (K := K) (a := fl) (xs := parts.flatten)) (fun i H' => Same H5 H' ∧ ∃ acc, H' D3 = some (.lst acc) ∧ acc.length ≤ i ∧ (acc = [] ↔ ∀ e ∈ (flat3 ds).take i, isIntD e = true)) ⟨same_upd nD3, [], upd_same, Nat.le_refl _, by rw [List.take_zero]; exact ⟨fun _ _ h => (nomatch h), fun _ => rfl⟩⟩ (fun i H' _ z => sqOf (z.1 _ _ gfl)) ?_ ?_
      · rintro i y H9 H6 hi ⟨s6, acc, gA, lA, eA⟩ ⟨rfl, hy⟩
        obtain ⟨e, ee, he⟩ := dA.at hy
        have tk := take_snoc ee
        have more : isIntD e = false → ∃ acc, H6 D3 = some (.lst acc) ∧ acc.length < sizeLine ∧ (Same H5 (upd H6 D3 (.lst (acc ++ [y]))) ∧ ∃ acc', upd H6 D3 (.lst (acc ++ [y])) D3 = some (.lst acc') ∧ acc'.length ≤ i + 1 ∧ (acc' = [] ↔ ∀ e ∈ (flat3 ds).take (i + 1), isIntD e = true)) := fun h3 => by
          refine ⟨acc, gA, lt_sz (by omega), fun x o h => by rw [upd_ne (ne_of_none h nD3)]; exact s6 _ _ h, _, upd_same, by rw [List.length_append]; show _ + 1 ≤ _; omega, fun z => absurd z (by simp), fun z => ?_⟩
          rw [tk] at z
          have := z e (List.mem_append_right _ List.mem_cons_self)
          rw [h3] at this; cases this
        have same : isIntD e = true → Same H5 H6 ∧ ∃ acc, H6 D3 = some (.lst acc) ∧ acc.length ≤ i + 1 ∧ (acc = [] ↔ ∀ e ∈ (flat3 ds).take (i + 1), isIntD e = true) := fun h3 => by
          refine ⟨s6, acc, gA, by omega, ?_⟩
          rw [tk, eA]
          constructor
          · intro z x hx
            rcases List.mem_append.mp hx with w | w
            · exact z x w
            · rw [List.mem_singleton.mp w]; exact h3
          · exact fun z x hx => z x (List.mem_append_left _ hx)
        have he1 := he.up (s05.trans s6)
        refine ⟨rfl, _, rfl, y, .ty "int", _, _, _, rfl, .ty "int", tyx_of he1, kit_ty (kit_int e), _, rfl, ?_⟩
        cases e with
        | int n => exact iteF ⟨_, rfl, y, .ty "bool", _, _, _, rfl, .ty "bool", tyx_of he1, kit_ty (kit_bool (.int n)), _, rfl, iteF (same rfl)⟩
        | bool b => exact iteF ⟨_, rfl, y, .ty "bool", _, _, _, rfl, .ty "bool", tyx_of he1, kit_ty (kit_bool (.bool b)), _, rfl, iteT ⟨_, rfl, more rfl⟩⟩
        | _ => exact iteT (iteT ⟨_, rfl, more rfl⟩)
      rintro H6 ⟨s6, acc3, gA3, lA3, eA3⟩
      rw [lfl, List.take_length] at eA3
      refine ⟨Nat.zero_le _, fun B3 nB3 => ?_⟩
      have sB3 := same_upd (o := .lst []) nB3
      have gB3 : upd H6 B3 (.lst []) B3 = some (.lst []) := upd_same
      dsimp only [tNil]
      generalize upd H6 B3 (.lst []) = H7 at sB3 gB3 ⊢
      have s07 := (s05.trans s6).trans sB3
      refine ⟨D3, B3, acc3, rfl, rfl, sqOf (sB3 _ _ gA3), sqOf gB3, _, rfl, ?_⟩
      by_cases hints : ∀ e ∈ flat3 ds, isIntD e = true
      case neg =>
        rw [decide_eq_false (fun z => hints (eA3.mp z))]
        refine iteT ?_
        have := q H7 s07
        rw [boundsB_no fun lo hi e B => hints (by injection e with e; rw [e]; exact bnd_ints lo hi us)] at this
        exact this
      rw [decide_eq_true (eA3.mpr hints)]
      refine iteF ?_
      obtain ⟨ts, rfl⟩ := trips_of hall hints
      have lts : xs.length = ts.length := by rw [ha.len, List.length_map]
      have part : ∀ {G : Hp} {i : Nat} {y : V}, Same H G → xs[i]? = some y → ∃ t b, ts[i]? = some t ∧ y = .ref b ∧ SqT K G b [.int t.1, .int t.2.1, .int t.2.2] := fun {G i y} sm hy => by
        obtain ⟨e, ee, he⟩ := ha.at hy
        rw [List.getElem?_map] at ee
        obtain ⟨t, ht, rfl⟩ := Option.map_eq_some_iff.mp ee
        obtain ⟨b, rfl, hb⟩ := dq_trip (he.up sm)
        exact ⟨t, b, ht, rfl, hb⟩
      refine ⟨_, rfl, p, pl, top, many, long, us, rfl, hP.up s07, hO, t1, t2, t3, U, fun ul H8 s8 nul gul => ?_⟩
      have s08 := s07.trans s8
      refine ⟨.ref a, rfl, a, rfl, ⟨xs, ex_t' s08 hs⟩, fun D4 nD4 => ?_⟩
      refine it_gen (walk_tup (K := K) (a := a) (xs := xs)) (fun i H' => H' D4 = some (.lst (((ts.take i).map (·.1)).map V.int)) ∧ Same H8 H') ⟨upd_same, same_upd nD4⟩ (fun i H' _ z => ex_t' (s08.trans z.2) hs) ?_ ?_
      · rintro i y H9 H10 hi ⟨gD, s10⟩ ⟨rfl, hy⟩
        obtain ⟨t, b, ht, rfl, hb⟩ := part (s08.trans s10) hy
        refine ⟨rfl, ?_⟩
        dsimp only [tYes]
        refine iteT ⟨_, rfl, b, _, 0, _, rfl, rfl, hb, atI_nat (j := 0) rfl, _, gD, lt_sz (by simp; omega), ?_, ?_⟩
        · rw [upd_same, take_more ht]
          simp only [List.map_append, List.map_cons, List.map_nil]
        · exact fun x o h => by rw [upd_ne (ne_of_none h nD4)]; exact s10 _ _ h
      rintro H9 ⟨gD4, s9⟩
      rw [lts, List.take_length] at gD4
      have gul9 := s9 _ _ gul
      have gul9' : H9 ul = some (.lst ((us.map fun n : Nat => (n : Int)).map V.int)) := by rw [gul9, List.map_map]; rfl
      refine ⟨_, rfl, .list ((ts.map (·.1)).map PyData.int), .list ((us.map fun n : Nat => (n : Int)).map PyData.int), .lst (sqOf gD4) (dpInts _), .lst (sqOf gul9') (dpInts _), shaped_ints _, shaped_ints _, _, rfl, ?_⟩
      have heq : PyData.eqv (.list ((ts.map (·.1)).map PyData.int)) (.list ((us.map fun n : Nat => (n : Int)).map PyData.int)) = decide (ts.map (·.1) = us.map fun n : Nat => (n : Int)) := by
        simp only [PyData.eqv]; exact eqv_ints _ _
      rw [heq]
      have s09 := s08.trans s9
      by_cases hf : ts.map (·.1) = us.map fun n : Nat => (n : Int)
      case neg =>
        rw [decide_eq_false hf]
        refine iteT ?_
        have := q H9 s09
        rw [boundsB_no fun lo hi e B => hf ?_] at this
        · exact this
        · injection e with e
          rw [← fst_trips, e, fst_bnds]
      rw [decide_eq_true hf]
      have ndu := asc_nodup U.as
      obtain ⟨lo, hi, ets⟩ := trips_fn ndu hf
      have eds : ts.map tripD = us.map (bndD lo hi) := by rw [ets, List.map_map]; rfl
      rw [eds] at q
      have part2 : ∀ {G : Hp} {i : Nat} {y : V}, Same H G → xs[i]? = some y → ∃ s b, us[i]? = some s ∧ y = .ref b ∧ SqT K G b [.int (s : Int), .int (lo s), .int (hi s)] := fun {G i y} sm hy => by
        obtain ⟨t, b, ht, rfl, hb⟩ := part sm hy
        rw [ets, List.getElem?_map] at ht
        obtain ⟨s, hs2, rfl⟩ := Option.map_eq_some_iff.mp ht
        exact ⟨s, b, hs2, rfl, hb⟩
      have lxs : xs.length = us.length := by rw [lts, ets, List.length_map]
      have lus : us.length ≤ 50 := by
        have := asc_len (n := pl.wide) ⟨U.as, useful_lt hO U⟩
        have := hO.w2
        omega
      refine iteF ⟨.ref a, rfl, a, rfl, ⟨xs, ex_t' s09 hs⟩, fun D5 nD5 => ?_⟩
      refine it_gen (walk_tup (K := K) (a := a) (xs := xs)) (fun i H' => Same H9 H' ∧ ∃ acc, H' D5 = some (.lst acc) ∧ acc.length ≤ i ∧ (acc = [] ↔ ∀ s ∈ us.take i, ¬ lo s > hi s)) ⟨same_upd nD5, [], upd_same, Nat.le_refl _, by rw [List.take_zero]; exact ⟨fun _ _ h => (nomatch h), fun _ => rfl⟩⟩ (fun i H' _ z => ex_t' (s09.trans z.1) hs) ?_ ?_
      · rintro i y H11 H10 hi2 ⟨s10, acc, gA, lA, eA⟩ ⟨rfl, hy⟩
        obtain ⟨s0, b, hs0, rfl, hb⟩ := part2 (s09.trans s10) hy
        have tk := take_snoc hs0
        refine ⟨rfl, _, rfl, b, _, 1, _, rfl, rfl, hb, atI_nat (j := 1) rfl, _, rfl, b, _, 2, _, rfl, rfl, hb, atI_nat (j := 2) rfl, _, _, rfl, rfl, _, rfl, ?_⟩
        by_cases hl : lo s0 > hi s0
        · rw [decide_eq_true hl]
          refine iteT ⟨_, rfl, acc, gA, lt_sz (by omega), fun x o h => by rw [upd_ne (ne_of_none h nD5)]; exact s10 _ _ h, _, upd_same, by rw [List.length_append]; show _ + 1 ≤ _; omega, fun z => absurd z (by simp), fun z => ?_⟩
          rw [tk] at z
          exact absurd hl (z s0 (List.mem_append_right _ List.mem_cons_self))
        · rw [decide_eq_false hl]
          refine iteF ⟨s10, acc, gA, by omega, ?_⟩
          rw [tk]
          exact eA.trans (all_snoc hl)
      rintro H10 ⟨s10, acc5, gA5, lA5, eA5⟩
      rw [lxs, List.take_length] at eA5
      refine ⟨Nat.zero_le _, fun B5 nB5 => ?_⟩
      have sB5 := same_upd (o := .lst []) nB5
      have gB5 : upd H10 B5 (.lst []) B5 = some (.lst []) := upd_same
      dsimp only [tNil]
      generalize upd H10 B5 (.lst []) = H11 at sB5 gB5 ⊢
      have s011 := (s09.trans s10).trans sB5
      refine ⟨D5, B5, acc5, rfl, rfl, sqOf (sB5 _ _ gA5), sqOf gB5, _, rfl, ?_⟩
      by_cases hle : ∀ s ∈ us, ¬ lo s > hi s
      case neg =>
        rw [decide_eq_false (fun z => hle (eA5.mp z))]
        refine iteT ?_
        have := q H11 s011
        rw [boundsB_not fun B => hle fun s hs z => by have := B.le s hs; omega] at this
        exact this
      rw [decide_eq_true (eA5.mpr hle)]
      refine iteF ?_
      have gul11 := (s10.trans sB5) _ _ gul9
      have two : 2 ≤ sizeLine := by decide
      refine ⟨.ref a, rfl, a, rfl, ⟨xs, ex_t' s011 hs⟩, fun L1 nL1 => ?_⟩
      refine it_gen (walk_tup (K := K) (a := a) (xs := xs)) (fun i H' => Same H11 H' ∧ ∃ ps : List Addr, ps.length = i ∧ H' L1 = some (.lst (ps.map V.ref)) ∧ ∀ (j s : Nat) (z : Addr), us[j]? = some s → ps[j]? = some z → H' z = some (.tup [.int (s : Int), .int (lo s)])) ⟨same_upd nL1, [], rfl, upd_same, fun j s z _ h => by simp at h⟩ (fun i H' _ z => ex_t' (s011.trans z.1) hs) ?_ ?_
      · rintro i y Hx Hi hi2 ⟨sI, ps, lp, gL, hp⟩ ⟨rfl, hy⟩
        obtain ⟨s0, b, hs0, rfl, hb⟩ := part2 (s011.trans sI) hy
        have l50 : i < 50 := by
          have := (List.getElem?_eq_some_iff.mp hs0).1
          omega
        refine ⟨rfl, ?_⟩
        dsimp only [tYes]
        refine iteT ⟨_, rfl, b, _, 0, _, rfl, rfl, hb, atI_nat (j := 0) rfl, _, rfl, b, _, 1, _, rfl, rfl, hb, atI_nat (j := 1) rfl, two, fun tp ntp => ?_⟩
        have s5 := same_upd (o := .tup [.int (s0 : Int), .int (lo s0)]) ntp
        have g5 : upd Hi tp (.tup [.int (s0 : Int), .int (lo s0)]) tp = some (.tup [.int (s0 : Int), .int (lo s0)]) := upd_same
        dsimp only [tNil]
        generalize upd Hi tp (.tup [.int (s0 : Int), .int (lo s0)]) = Hj at s5 g5 ⊢
        have gL5 := s5 _ _ gL
        have off : ∀ x ys, Hj x = some (.tup ys) → upd Hj L1 (.lst (ps.map V.ref ++ [.ref tp])) x = some (.tup ys) := fun x ys h => by rw [upd_ne (fun e => by rw [e, gL5] at h; cases h)]; exact h
        refine ⟨ps.map V.ref, gL5, lt_sz (by rw [List.length_map]; omega), fun x o h => by rw [upd_ne (ne_of_none h nL1)]; exact s5 _ _ (sI _ _ h), ps ++ [tp], by rw [List.length_append, lp]; rfl, by rw [upd_same, List.map_append]; rfl, fun j s z hj hz => ?_⟩
        rcases Nat.lt_or_ge j i with lt | ge
        · rw [List.getElem?_append_left (by omega)] at hz
          exact off _ _ (s5 _ _ (hp j s z hj hz))
        · rw [List.getElem?_append_right (by omega)] at hz
          have j0 : j - ps.length = 0 := by
            have := (List.getElem?_eq_some_iff.mp hz).1
            simp only [List.length_cons, List.length_nil] at this; omega
          rw [j0] at hz
          obtain rfl : tp = z := by simpa using hz
          obtain rfl : j = i := by omega
          rw [hs0] at hj
          cases hj
          exact off _ _ g5
      rintro Hp1 ⟨sp1, ps1, lp1, gL1, hp1⟩
      rw [lxs] at lp1
      refine ⟨L1, ps1, numV us lo, rfl, sqOf gL1, paired_get (by unfold numV; rw [List.length_map, lp1]) fun j z kv hz hkv => ?_, fun d1 nd1 => ?_⟩
      · unfold numV at hkv
        rw [List.getElem?_map] at hkv
        obtain ⟨s0, hs0, rfl⟩ := Option.map_eq_some_iff.mp hkv
        exact stOf (hp1 j s0 z hs0 hz)
      have em1 : mergeK [] (numV us lo) = numV us lo := merge_all ndu
      rw [em1]
      have sd1 := same_upd (o := .dK (numV us lo)) nd1
      have gd1 : upd Hp1 d1 (.dK (numV us lo)) d1 = some (.dK (numV us lo)) := upd_same
      dsimp only [tNil]
      generalize upd Hp1 d1 (.dK (numV us lo)) = Hq1 at sd1 gd1 ⊢
      have sq1 := (s011.trans sp1).trans sd1
      refine ⟨.ref a, rfl, a, rfl, ⟨xs, ex_t' sq1 hs⟩, fun L2 nL2 => ?_⟩
      refine it_gen (walk_tup (K := K) (a := a) (xs := xs)) (fun i H' => Same Hq1 H' ∧ ∃ ps : List Addr, ps.length = i ∧ H' L2 = some (.lst (ps.map V.ref)) ∧ ∀ (j s : Nat) (z : Addr), us[j]? = some s → ps[j]? = some z → H' z = some (.tup [.int (s : Int), .int (hi s)])) ⟨same_upd nL2, [], rfl, upd_same, fun j s z _ h => by simp at h⟩ (fun i H' _ z => ex_t' (sq1.trans z.1) hs) ?_ ?_
      · rintro i y Hx Hi hi2 ⟨sI, ps, lp, gL, hp⟩ ⟨rfl, hy⟩
        obtain ⟨s0, b, hs0, rfl, hb⟩ := part2 (sq1.trans sI) hy
        have l50 : i < 50 := by
          have := (List.getElem?_eq_some_iff.mp hs0).1
          omega
        refine ⟨rfl, ?_⟩
        dsimp only [tYes]
        refine iteT ⟨_, rfl, b, _, 0, _, rfl, rfl, hb, atI_nat (j := 0) rfl, _, rfl, b, _, 2, _, rfl, rfl, hb, atI_nat (j := 2) rfl, two, fun tp ntp => ?_⟩
        have s5 := same_upd (o := .tup [.int (s0 : Int), .int (hi s0)]) ntp
        have g5 : upd Hi tp (.tup [.int (s0 : Int), .int (hi s0)]) tp = some (.tup [.int (s0 : Int), .int (hi s0)]) := upd_same
        dsimp only [tNil]
        generalize upd Hi tp (.tup [.int (s0 : Int), .int (hi s0)]) = Hj at s5 g5 ⊢
        have gL5 := s5 _ _ gL
        have off : ∀ x ys, Hj x = some (.tup ys) → upd Hj L2 (.lst (ps.map V.ref ++ [.ref tp])) x = some (.tup ys) := fun x ys h => by rw [upd_ne (fun e => by rw [e, gL5] at h; cases h)]; exact h
        refine ⟨ps.map V.ref, gL5, lt_sz (by rw [List.length_map]; omega), fun x o h => by rw [upd_ne (ne_of_none h nL2)]; exact s5 _ _ (sI _ _ h), ps ++ [tp], by rw [List.length_append, lp]; rfl, by rw [upd_same, List.map_append]; rfl, fun j s z hj hz => ?_⟩
        rcases Nat.lt_or_ge j i with lt | ge
        · rw [List.getElem?_append_left (by omega)] at hz
          exact off _ _ (s5 _ _ (hp j s z hj hz))
        · rw [List.getElem?_append_right (by omega)] at hz
          have j0 : j - ps.length = 0 := by
            have := (List.getElem?_eq_some_iff.mp hz).1
            simp only [List.length_cons, List.length_nil] at this; omega
          rw [j0] at hz
          obtain rfl : tp = z := by simpa using hz
          obtain rfl : j = i := by omega
          rw [hs0] at hj
          cases hj
          exact off _ _ g5
      rintro Hp2 ⟨sp2, ps2, lp2, gL2, hp2⟩
      rw [lxs] at lp2
      refine ⟨L2, ps2, numV us hi, rfl, sqOf gL2, paired_get (by unfold numV; rw [List.length_map, lp2]) fun j z kv hz hkv => ?_, fun d2 nd2 => ?_⟩
      · unfold numV at hkv
        rw [List.getElem?_map] at hkv
        obtain ⟨s0, hs0, rfl⟩ := Option.map_eq_some_iff.mp hkv
        exact stOf (hp2 j s0 z hs0 hz)
      have em2 : mergeK [] (numV us hi) = numV us hi := merge_all ndu
      rw [em2]
      have sd2 := same_upd (o := .dK (numV us hi)) nd2
      have gd2 : upd Hp2 d2 (.dK (numV us hi)) d2 = some (.dK (numV us hi)) := upd_same
      dsimp only [tNil]
      generalize upd Hp2 d2 (.dK (numV us hi)) = Hq2 at sd2 gd2 ⊢
      have sq2 := (sq1.trans sp2).trans sd2
      refine ⟨two, fun T nT => ?_⟩
      have sT := same_upd (o := .tup [.ref d1, .ref d2]) nT
      have gT : upd Hq2 T (.tup [.ref d1, .ref d2]) T = some (.tup [.ref d1, .ref d2]) := upd_same
      generalize upd Hq2 T (.tup [.ref d1, .ref d2]) = HT at sT gT ⊢
      have sHT := sq2.trans sT
      have glo := sT _ _ ((sp2.trans sd2) _ _ gd1)
      have ghi := sT _ _ gd2
      have gulT := (((sp1.trans sd1).trans (sp2.trans sd2)).trans sT) _ _ gul11
      refine ⟨T, _, rfl, stOf gT, rfl, _, _, rfl, _, _, rfl, rfl, ?_⟩
      obtain ⟨vi, vw, vo, w1, w2, w3, w4, e1, e2, e3⟩ := (hP.up sHT).get
      obtain ⟨is, his, hia⟩ : ∃ is, SqT K HT vi is ∧ DqAll K HT is (nats pl.ins) := by
        cases e1 with
        | tup w1 w2 => exact ⟨_, w1, w2⟩
      obtain rfl := dqAll_nats hia
      obtain ⟨ms, hms, hma⟩ : ∃ ms, SqT K HT vw ms ∧ DqAll K HT ms (pl.ways.map mvD) := by
        cases e2 with
        | tup w1 w2 => exact ⟨_, w1, w2⟩
      have hml : ms.length = pl.ways.length := by rw [hma.len, List.length_map]
      have gget : ∀ {G : Hp} (dd : Addr) (f : Nat → Int) (x : Nat), G dd = some (.dK (numV us f)) → x ∈ us → DGet G dd (.int (x : Int)) (some (.int (f x))) := fun {G} dd f x hh hx => by
        have := DGet.k (k := .inl (x : Int)) hh
        rw [numV_get, if_pos hx] at this; exact this
      refine ⟨_, rfl, ul, rfl, ⟨_, sqOf gulT⟩, fun D6 nD6 => ?_⟩
      refine it_gen (walk_list (K := K) (a := ul) (xs := ixs us)) (fun i H' => Same HT H' ∧ ∃ acc, H' D6 = some (.lst acc) ∧ acc.length ≤ i ∧ (acc = [] ↔ ∀ s ∈ us.take i, ¬ (s ∈ pl.ins ∧ ¬ (lo s ≤ 0 ∧ 0 ≤ hi s)))) ⟨same_upd nD6, [], upd_same, Nat.le_refl _, by rw [List.take_zero]; exact ⟨fun _ _ h => (nomatch h), fun _ => rfl⟩⟩ (fun i H' _ z => sqOf (z.1 _ _ gulT)) ?_ ?_
      · rintro i y Hx Hi hi2 ⟨sI, acc, gA, lA, eA⟩ ⟨rfl, hy⟩
        obtain ⟨s0, hs0, rfl⟩ : ∃ b, us[i]? = some b ∧ y = .int (b : Int) := by
          unfold ixs at hy
          rw [List.getElem?_map] at hy
          obtain ⟨b, h1, h2⟩ := Option.map_eq_some_iff.mp hy
          exact ⟨b, h1, h2.symm⟩
        have hsu := List.mem_of_getElem? hs0
        have l50 : i < 50 := by
          have := (List.getElem?_eq_some_iff.mp hs0).1
          omega
        have tk := take_snoc hs0
        have more : (s0 ∈ pl.ins ∧ ¬ (lo s0 ≤ 0 ∧ 0 ≤ hi s0)) → ∃ acc, Hi D6 = some (.lst acc) ∧ acc.length < sizeLine ∧ (Same HT (upd Hi D6 (.lst (acc ++ [.int (s0 : Int)]))) ∧ ∃ acc', upd Hi D6 (.lst (acc ++ [.int (s0 : Int)])) D6 = some (.lst acc') ∧ acc'.length ≤ i + 1 ∧ (acc' = [] ↔ ∀ s ∈ us.take (i + 1), ¬ (s ∈ pl.ins ∧ ¬ (lo s ≤ 0 ∧ 0 ≤ hi s)))) := fun h3 => by
          refine ⟨acc, gA, lt_sz (by omega), fun x o h => by rw [upd_ne (ne_of_none h nD6)]; exact sI _ _ h, _, upd_same, by rw [List.length_append]; show _ + 1 ≤ _; omega, fun z => absurd z (by simp), fun z => ?_⟩
          rw [tk] at z
          exact absurd h3 (z s0 (List.mem_append_right _ List.mem_cons_self))
        have same : ¬ (s0 ∈ pl.ins ∧ ¬ (lo s0 ≤ 0 ∧ 0 ≤ hi s0)) → Same HT Hi ∧ ∃ acc, Hi D6 = some (.lst acc) ∧ acc.length ≤ i + 1 ∧ (acc = [] ↔ ∀ s ∈ us.take (i + 1), ¬ (s ∈ pl.ins ∧ ¬ (lo s ≤ 0 ∧ 0 ≤ hi s))) := fun h3 => by
          refine ⟨sI, acc, gA, by omega, ?_⟩
          rw [tk, eA]
          exact all_snoc h3
        refine ⟨rfl, _, rfl, _, rfl, p, _, rfl, dget_up w2 sI, vi, _, rfl, .inr (ex_t' sI his), rfl, flat_ixs _, _, rfl, ?_⟩
        rw [in_F]
        by_cases hbi : s0 ∈ pl.ins
        · rw [decide_eq_true hbi]
          refine iteT ⟨_, rfl, _, rfl, d1, _, rfl, gget d1 lo s0 (sI _ _ glo) hsu, _, _, rfl, rfl, _, rfl, ?_⟩
          by_cases z : lo s0 ≤ 0
          · rw [decide_eq_true z]
            refine iteT ⟨_, rfl, _, rfl, d2, _, rfl, gget d2 hi s0 (sI _ _ ghi) hsu, _, _, rfl, rfl, _, rfl, ?_⟩
            by_cases z2 : 0 ≤ hi s0
            · rw [decide_eq_true z2]
              exact iteF (same fun w => w.2 ⟨z, z2⟩)
            · rw [decide_eq_false z2]
              exact iteT ⟨_, rfl, more ⟨hbi, fun w => z2 w.2⟩⟩
          · rw [decide_eq_false z]
            exact iteF ⟨_, rfl, iteT ⟨_, rfl, more ⟨hbi, fun w => z w.1⟩⟩⟩
        · rw [decide_eq_false hbi]
          exact iteF (iteF (same fun w => hbi w.1))
      rintro H12 ⟨s12, acc6, gA6, lA6, eA6⟩
      rw [show (ixs us).length = us.length by unfold ixs; rw [List.length_map], List.take_length] at eA6
      refine ⟨Nat.zero_le _, fun B6 nB6 => ?_⟩
      have sB6 := same_upd (o := .lst []) nB6
      have gB6 : upd H12 B6 (.lst []) B6 = some (.lst []) := upd_same
      dsimp only [tNil]
      generalize upd H12 B6 (.lst []) = H13 at sB6 gB6 ⊢
      have sT13 := s12.trans sB6
      have s013 := sHT.trans sT13
      refine ⟨D6, B6, acc6, rfl, rfl, sqOf (sB6 _ _ gA6), sqOf gB6, _, rfl, ?_⟩
      by_cases hst : ∀ s ∈ us, ¬ (s ∈ pl.ins ∧ ¬ (lo s ≤ 0 ∧ 0 ≤ hi s))
      case neg =>
        rw [decide_eq_false (fun z => hst (eA6.mp z))]
        refine iteT ?_
        have := q H13 s013
        rw [boundsB_not fun B => hst fun s hs z => z.2 (B.be s z.1 hs)] at this
        exact this
      rw [decide_eq_true (eA6.mpr hst)]
      refine iteF ?_
      have hn := hO.n
      have gul13 := sT13 _ _ gulT
      have glo13 := sT13 _ _ glo
      have ghi13 := sT13 _ _ ghi
      have stp : ∃ St : Mv → Prop, St = fun m => m.s ∈ us → m.t ∈ us → lo m.t ≤ lo m.s + m.gain ∧ hi m.s + m.gain ≤ hi m.t := ⟨_, rfl⟩
      obtain ⟨St, hSt⟩ := stp
      have bad : ∀ (H' : Hp) (m : Mv), Same H13 H' → m ∈ pl.ways → m.s ∈ us → m.t ∈ us → ¬ (lo m.t ≤ lo m.s + m.gain ∧ hi m.s + m.gain ≤ hi m.t) → Q (.bl false) H' := fun H' m sm hm h1 h2 h3 => by
        have := q H' (s013.trans sm)
        rw [boundsB_not fun B => h3 ?_] at this
        · exact this
        · obtain ⟨i, hi'⟩ := List.mem_iff_getElem?.mp hm
          exact B.st m.s h1 (i, m.gain, m.t) (mem_leav.mpr ⟨m, hi', rfl, h1, h2, rfl, rfl⟩)
      refine ⟨_, rfl, p, _, rfl, dget_up w3 sT13, vw, rfl, ⟨_, ex_t' sT13 hms⟩, ?_⟩
      refine for_it (walk_tup (K := K) (a := vw) (xs := ms)) (fun j σ H' => ∃ (y6 y7 y8 y9 y10 : Option V), σ = [some (.ref p), some (.ref a), some (.ref fl), some (.ref ul), some (.ref d1), some (.ref d2), y6, y7, y8, y9, y10, none, none] ∧ Same H13 H' ∧ ∀ m ∈ pl.ways.take j, St m)
        ⟨none, none, none, none, none, rfl, Same.refl _, fun m hm => by rw [List.take_zero] at hm; cases hm⟩ (fun j σ H' _ z => by obtain ⟨_, _, _, _, _, _, sm, _⟩ := z; exact ex_t' (sT13.trans sm) hms) ?_ ?_
      · rintro j v σ Hx H14 hj ⟨y6, y7, y8, y9, y10, rfl, s14, al⟩ ⟨rfl, hv⟩
        obtain ⟨dd, hdd, hdq⟩ := hma.at hv
        obtain ⟨m, hm, rfl⟩ := mv_get hdd
        obtain ⟨e, rfl, hab⟩ := dq_mv (hdq.up (sT13.trans s14))
        have hmem := List.mem_of_getElem? hm
        obtain ⟨_, _, ll, lr, _⟩ := hO.m m hmem
        have tk := take_snoc hm
        have next : St m → ∀ x ∈ pl.ways.take (j + 1), St x := fun h x hx => by
          rw [tk] at hx
          rcases List.mem_append.mp hx with w | w
          · exact al x w
          · rw [List.mem_singleton.mp w]; exact h
        refine ⟨e, _, rfl, hab, rfl, _, _, rfl, _, _, rfl, _, _, rfl, _, _, rfl, rfl, ?_⟩
        refine ⟨_, rfl, _, m.l.length, rfl, ⟨len_sz (by show m.l.toArray.size ≤ _; simp; omega), by show _ = m.l.toArray.size; simp⟩, _, rfl, _, m.r.length, rfl, ⟨len_sz (by show m.r.toArray.size ≤ _; simp; omega), by show _ = m.r.toArray.size; simp⟩, _, _, rfl, rfl, ?_⟩
        have gulj := s14 _ _ gul13
        refine ⟨_, rfl, _, rfl, ul, _, rfl, .inl (sqOf gulj), rfl, flat_ixs _, _, rfl, ?_⟩
        rw [in_F]
        by_cases h1 : m.s ∈ us
        · rw [decide_eq_true h1]
          refine iteT ⟨_, rfl, _, rfl, ul, _, rfl, .inl (sqOf gulj), rfl, flat_ixs _, _, rfl, ?_⟩
          rw [in_F]
          by_cases h2 : m.t ∈ us
          · rw [decide_eq_true h2]
            refine iteT ⟨_, rfl, _, rfl, d1, _, rfl, gget d1 lo m.t (s14 _ _ glo13) h2, _, rfl, _, rfl, d1, _, rfl, gget d1 lo m.s (s14 _ _ glo13) h1, _, rfl, _, _, rfl, rfl, _, _, rfl, rfl, _, rfl, ?_⟩
            have eg : (m.l.length : Int) - (m.r.length : Int) = m.gain := rfl
            by_cases z : lo m.t > lo m.s + m.gain
            · rw [decide_eq_true (by rw [eg]; exact z)]
              refine iteT (iteT ?_)
              exact bad _ m s14 hmem h1 h2 fun w => by omega
            · rw [decide_eq_false (by rw [eg]; exact z)]
              refine iteF ⟨_, rfl, _, rfl, d2, _, rfl, gget d2 hi m.t (s14 _ _ ghi13) h2, _, rfl, _, rfl, d2, _, rfl, gget d2 hi m.s (s14 _ _ ghi13) h1, _, rfl, _, _, rfl, rfl, _, _, rfl, rfl, _, rfl, ?_⟩
              by_cases z2 : hi m.t < hi m.s + m.gain
              · rw [decide_eq_true (by rw [eg]; exact z2)]
                refine iteT ?_
                exact bad _ m s14 hmem h1 h2 fun w => by omega
              · rw [decide_eq_false (by rw [eg]; exact z2)]
                refine iteF ⟨_, _, _, _, _, rfl, s14, next ?_⟩
                rw [hSt]
                exact fun _ _ => ⟨by omega, by omega⟩
          · rw [decide_eq_false h2]
            refine iteF ⟨_, _, _, _, _, rfl, s14, next ?_⟩
            rw [hSt]
            exact fun _ w => absurd w h2
        · rw [decide_eq_false h1]
          refine iteF (iteF ⟨_, _, _, _, _, rfl, s14, next ?_⟩)
          rw [hSt]
          exact fun w _ => absurd w h1
      · rintro σ H14 ⟨y6, y7, y8, y9, y10, rfl, s14, al⟩
        rw [hml, List.take_length, hSt] at al
        have := q H14 (s013.trans s14)
        rw [boundsB_yes ⟨fun s hs => by have := hle s hs; omega, fun b hb hu => Classical.byContradiction fun w => hst b hu ⟨hb, w⟩, fun s hs x hx => ?_⟩] at this
        · exact this
        · obtain ⟨m, q1, q2, q3, q4, q5, q6⟩ := mem_leav.mp hx
          have := al m (List.mem_of_getElem? q1) (by rw [q2]; exact hs) q4
          rw [q5, q6, ← q2]
          exact this
    | _ =>
      refine iteT ?_
      have := q H (Same.refl H)
      rw [boundsB_no fun lo hi e _ => by cases e] at this
      exact this
end
end KP
/-! x == (), x data of any kind -/
namespace EL
open PySem PySem.Spec PyProof.Rows L2
section
variable {A : Around} {s : Shared}
theorem dict_no_tuple (l b : Addr) (es : Array DictEntry) (n n2 : Nat) (items : Array Value) (dd dd2 : Option Addr) (sl sl2 : Array (Option Value)) :
    Meets (Builtin.«dict.__eq__» ⟨[.ref l, .ref b], []⟩) (fun _ R s => s.heap.get? l = some { cls := .type "dict", dict := dd, data := .dict es n, slots := sl } ∧ s.heap.get? b = some { cls := .type "tuple", dict := dd2, data := .seq items n2, slots := sl2 } ∧ R (.ok (.ret .notImplemented)) s) :=
  .of_wp fun prog w A R s h => by
    obtain ⟨hl, hb, h⟩ := h
    have ty : s.TypeIs (.ref l) "dict" := ⟨_, hl, rfl⟩
    have tb : s.TypeIs (.ref b) "tuple" := ⟨_, hb, rfl⟩
    show wpAny _ _ (Builtin.Dict.dictSlotArgs "__eq__" ⟨[.ref l, .ref b], []⟩ >>= _) _ _ s
    refine wpAny_bind ?_
    unfold Builtin.Dict.dictSlotArgs
    refine wpAny_bind (wpAny_notOrdered_dict ty ?_)
    show wpAny _ _ (pure (Value.ref l, Value.ref b)) _ _ s
    refine wpAny_pure ?_
    refine wpAny_bind (wpAny_isInstance (T := "tuple") tb PySem.F.sub_tuple_dict ?_)
    simp only [Bool.not_false, if_true]
    exact wpAny_bind (wpAny_rule (wpAny_pure ⟨_, rfl, h⟩))
theorem tuple_no_dict (l b : Addr) (es : Array DictEntry) (n n2 : Nat) (items : Array Value) (dd dd2 : Option Addr) (sl sl2 : Array (Option Value)) :
    Meets (Builtin.«tuple.__eq__» ⟨[.ref b, .ref l], []⟩) (fun _ R s => s.heap.get? l = some { cls := .type "dict", dict := dd, data := .dict es n, slots := sl } ∧ s.heap.get? b = some { cls := .type "tuple", dict := dd2, data := .seq items n2, slots := sl2 } ∧ R (.ok (.ret .notImplemented)) s) :=
  .of_wp fun prog w A R s h => by
    obtain ⟨hp, g, d, tk, os⟩ := s
    obtain ⟨hl, hb, h⟩ := h
    have f1 := PySem.F.sub_dict_tuple
    wp_walk using wpAny_loadPart' hl, wpAny_loadPart' hb
    exact ⟨_, rfl, h⟩
theorem dict_tuple_rc {l b : Addr} {es : Array DictEntry} {n : Nat} {items : Array Value} (hl : ∃ o, s.heap.get? l = some o ∧ o.cls = .type "dict" ∧ o.data = .dict es n) (hb : s.heap.IsTuple b items) (hu : A.units < cLine) : SeqAt.RcAt A s (.ref l) (.ref b) false := fun prog w E Q h => by
  obtain ⟨⟨cls, dd, data, sl⟩, ho, hc, hd⟩ := hl
  obtain rfl : cls = .type "dict" := hc
  obtain rfl : data = .dict es n := hd
  obtain ⟨⟨cls2, dd2, data2, sl2⟩, ho2, hc2, n2, hd2⟩ := hb
  obtain rfl : cls2 = .type "tuple" := hc2
  obtain rfl : data2 = .seq items n2 := hd2
  have ne : l ≠ b := fun e => by
    rw [e, ho2] at ho
    have hc := congrArg Obj.cls (Option.some.inj ho)
    exact absurd (Value.type.inj hc) (by decide)
  exact SeqAt.rc_eq_decline_or (k := false) ⟨_, ho, rfl⟩ ⟨_, ho2, rfl⟩ (by decide) PySem.F.sub_tuple_dict PySem.F.slot_dict_eq PySem.F.slot_tuple_eq_refl
    (fun _ hq => call_meets PySem.F.slot_dict_eq ⟨_, ho, rfl⟩ PySem.F.entry_dict_eq (PySem.F.args_dict_eq_2 _ _) (dict_no_tuple l b es n n2 items dd dd2 sl sl2) ⟨ho, ho2, hq⟩)
    (fun _ hq => call_meets PySem.F.slot_tuple_eq_refl ⟨_, ho2, rfl⟩ PySem.F.entry_tuple_eq (PySem.F.args_tuple_eq_2 _ _) (tuple_no_dict l b es n n2 items dd dd2 sl sl2) ⟨ho, ho2, hq⟩)
    (fun _ hq => wpAny_isSame_ref_other ne ho ho2 (by simp) hq) (.inr hu) h
end
def isNilT : PyData → Bool
  | .tuple [] => true
  | _ => false
/-- x == y, y the empty tuple -/
def rEqT0 (K : PySem.W.Frag) : R2 := fun x y H Q => ∃ d b, Dq K H x d ∧ y = .ref b ∧ SqT K H b [] ∧ Q (.bl (isNilT d)) H
theorem op_eqT0 {X : Cx} (hu : X.A.units < cLine) : OpR X (compareOp .Eq) (rEqT0 X.K) := by
  intro pins s σ H x y v u Q I rx ry h
  obtain ⟨d, b, hd, rfl, hb, q⟩ := h
  cases ry
  obtain ⟨its2, r2, pb, _⟩ := I.tuple hb
  cases r2
  obtain ⟨o2, ho2, hc2, n2, hd2⟩ := pb
  have T2 : s.heap.IsTuple b #[] := ⟨o2, ho2, hc2, n2, hd2⟩
  cases hd with
  | non => cases rx; exact SeqAt.RcAt.none_tuple T2 hu _ _ _ _ ⟨.bl _, H, I, rfl, q⟩
  | bl c => cases rx; exact SeqAt.RcAt.bool_tuple c T2 hu _ _ _ _ ⟨.bl _, H, I, rfl, q⟩
  | int i => obtain ⟨t, rfl⟩ := rx; exact SeqAt.RcAt.int_tuple i t T2 hu _ _ _ _ ⟨.bl _, H, I, rfl, q⟩
  | str z => obtain ⟨t, rfl⟩ := rx; exact SeqAt.RcAt.str_tuple z t T2 hu _ _ _ _ ⟨.bl _, H, I, rfl, q⟩
  | lst hq _ =>
    cases rx
    obtain ⟨its, _, ⟨o, n, ho, hc, _, hdd⟩, _⟩ := I.list hq
    exact SeqAt.RcAt.list_tuple ⟨o, ho, hc, n, hdd⟩ T2 hu _ _ _ _ ⟨.bl _, H, I, rfl, q⟩
  | tup hq ha =>
    cases rx
    obtain ⟨its, r1, ⟨o, ho, hc, n, hdd⟩, _⟩ := I.tuple hq
    have key := SeqAt.RcAt.tuples (e := fun _ => true) (items := its.toArray) (items2 := #[]) ⟨o, ho, hc, n, hdd⟩ T2 hu (fun j _ h2 => absurd h2 (by simp))
    refine key _ _ _ _ ⟨.bl _, H, I, rfl, ?_⟩
    cases ha with
    | nil => cases r1; exact q
    | cons _ _ => cases r1; exact q
  | dic hq =>
    cases rx
    obtain ⟨_, o, n, ho, hc, hdd⟩ := not_sys I hq
    exact dict_tuple_rc ⟨o, ho, hc, hdd⟩ T2 hu _ _ _ _ ⟨.bl _, H, I, rfl, q⟩
end EL
namespace KP
open PySem PySem.Spec PyProof.Rows L2 EL
open Evl (pss_cut)
abbrev sLIsPaper : Stmt := topS 76
theorem scLIsPaper : FnScope ["_law_w", "_law_it", "_law_spot"] ["_law_w", "_law_it"] (defScope sLIsPaper) := ⟨rfl, rfl, rfl, by decide +kernel, rfl, by decide +kernel, by decide +kernel⟩
theorem holds_no {pl : Plan} {us : List Nat} {x : PyData} {r : List PyData} (h1 : strIs "leads" x = false) (h2 : strIs "ring" x = false) : holdsB pl us (.tuple (x :: r)) = false := by
  match r with
  | [] => rfl
  | [b] => show (strIs "leads" x && _) = false; rw [h1]; rfl
  | [_, _] => rfl
  | [_, _, _] => rfl
  | [_, _, _, _] => show (strIs "ring" x && _) = false; rw [h2]; rfl
  | _ :: _ :: _ :: _ :: _ :: _ => rfl
theorem holds_leads {pl : Plan} {us : List Nat} {r : List PyData} (h : r.length ≠ 1) : holdsB pl us (.tuple (.str "leads" :: r)) = false := by
  match r, h with
  | [], _ => rfl
  | [b], h => exact absurd rfl h
  | [_, _], _ => rfl
  | [_, _, _], _ => rfl
  | [_, _, _, _], _ =>
    have : strIs "ring" (.str "leads") = false := by decide +kernel
    simp only [holdsB, this, Bool.false_and]
  | _ :: _ :: _ :: _ :: _ :: _, _ => rfl
theorem holds_ring {pl : Plan} {us : List Nat} {r : List PyData} (h : r.length ≠ 4) : holdsB pl us (.tuple (.str "ring" :: r)) = false := by
  match r, h with
  | [], _ => rfl
  | [b], h =>
    have : strIs "leads" (.str "ring") = false := by decide +kernel
    simp only [holdsB, this, Bool.false_and]
  | [_, _], _ => rfl
  | [_, _, _], _ => rfl
  | [_, _, _, _], h => exact absurd rfl h
  | _ :: _ :: _ :: _ :: _ :: _, _ => rfl
def spPaperL (K : PySem.W.Frag) : Sp := fun vs H Q _ => ∃ (p : Addr) (pl : Plan) (top many long : Nat) (us : List Nat) (v : V) (d : PyData), vs = [.ref p, v] ∧ WorldAt K H p pl ∧ pl.Ok top many long ∧ top ≤ 50 ∧ many ≤ 50 ∧ long ≤ 50 ∧ UsefulL pl us ∧ Dq K H v d ∧ Sz d ∧
  ∀ H', Same H H' → Q (.bl (holdsB pl us d)) H'

section
variable {P : Program} {w : World} {K : PySem.W.Frag} {mg : Str → Option Value} {base : Heap}
theorem ok_LIsPaper {f : Addr} {fd : FuncData} {k : Nat} (F : Fun K "_law_is_paper" "_law_is_paper" sLIsPaper f fd) (nisinstance : mg "isinstance" = none) (ntuple : mg "tuple" = none) (nstr : mg "str" = none) (nint : mg "int" = none) (nbool : mg "bool" = none) (nlen : mg "len" = none) (CLAreBounds : Cal P w K mg base k "_law_are_bounds" ["_law_w", "_law_it"] (spBoundsL K)) (CLSpotBehind : Cal P w K mg base k "_law_spot_behind" ["_law_w", "_law_spot", "_law_lot"] (spSpotL K)) (CLGain : Cal P w K mg base k "_law_gain" ["_law_w", "_law_lot"] (spGainL K)) : FnOk P w K mg base CX0 (k + 1) f fd ["_law_w", "_law_it"] (spPaperL K) := by
  refine F.ok scLIsPaper (fun vs H Q E h => ?_) (fun cdv A outer s H vs Q E hr h => ?_)
  · obtain ⟨p, pl, top, many, long, us, v, d, rfl, _⟩ := h; rfl
  · obtain ⟨p, pl, top, many, long, us, v, d, rfl, hP, hO, t1, t2, t3, U, hd, hz, q⟩ := h
    have hu := hr.units
    have hu1 : (A.deeper (envOfC "_law_is_paper" (defScope sLIsPaper) s.heap.objs.size f cdv)).units + 1 < cLine := by omega
    refine ⟨_, (pss_cons (ps_if (PW.pt (pw_or (pt_not (pt_val (pe_callB (show CallR _ _ (rIsi K) from call_isi) (by rfl) nisinstance (by decide +kernel) (pa_cons (pv 1) (pa_cons (pe_tyN (n := "tuple") ntuple (by decide +kernel)) pa_nil))))) (pw_or (pt_cmpR (op_eqT0 hr.units0) (pv 1) (pe_tup pa_nil) (nomark _)) (pw_or1 (pt_not (pt_val (pe_callB (show CallR _ _ (rIsi K) from call_isi) (by rfl) nisinstance (by decide +kernel) (pa_cons (pe_ix (show IxR _ (rIxT K) from ix_tup) (pv 1) pe_int (fun _ _ => rfl)) (pa_cons (pe_tyN (n := "str") nstr (by decide +kernel)) pa_nil))))))))) (pss_one (ps_ret pe_bl)) pss_nil)
      (pss_cons (ps_if (pt_cmpR op_eq (pe_ix (show IxR _ (rIxT K) from ix_tup) (pv 1) pe_int (fun _ _ => rfl)) pe_str (nomark _)) (pss_one (ps_ret (pe_and (pe_cmpR op_eq (pe_callB (show CallR _ _ (rLenK K) from call_len) (by rfl) nlen (by decide +kernel) (pa_cons (pv 1) pa_nil)) pe_int (nomark _)) (pe_one (pe_cal CLAreBounds hr (by rfl) pass0 (pa_cons (pv 0) (pa_cons (pe_ix (show IxR _ (rIxT K) from ix_tup) (pv 1) pe_int (fun _ _ => rfl)) pa_nil))))))) pss_nil)
      (pss_cons (ps_if (PW.pt (pw_or (pt_cmpR op_ne (pe_ix (show IxR _ (rIxT K) from ix_tup) (pv 1) pe_int (fun _ _ => rfl)) pe_str (nomark _)) (pw_or (pt_cmpR op_ne (pe_callB (show CallR _ _ (rLenK K) from call_len) (by rfl) nlen (by decide +kernel) (pa_cons (pv 1) pa_nil)) pe_int (nomark _)) (pw_or (pt_not (pt_val (pe_callB (show CallR _ _ (rIsi K) from call_isi) (by rfl) nisinstance (by decide +kernel) (pa_cons (pe_ix (show IxR _ (rIxT K) from ix_tup) (pv 1) pe_int (fun _ _ => rfl)) (pa_cons (pe_tyN (n := "int") nint (by decide +kernel)) pa_nil))))) (pw_or1 (pt_val (pe_callB (show CallR _ _ (rIsi K) from call_isi) (by rfl) nisinstance (by decide +kernel) (pa_cons (pe_ix (show IxR _ (rIxT K) from ix_tup) (pv 1) pe_int (fun _ _ => rfl)) (pa_cons (pe_tyN (n := "bool") nbool (by decide +kernel)) pa_nil))))))))) (pss_one (ps_ret pe_bl)) pss_nil)
      (pss_cons (ps_set (i := 2) scLIsPaper.nd rfl (by first | exact Or.inl rfl | exact Or.inr rfl) (pe_ifExp (pt_cmpR op_in_seq (pe_ix (show IxR _ (rIxT K) from ix_tup) (pv 1) pe_int (fun _ _ => rfl)) (pe_dget hu1 (pv 0) pe_str (fun _ _ => rfl)) (by rfl)) (pe_cal CLSpotBehind hr (by rfl) pass0 (pa_cons (pv 0) (pa_cons (pe_ix (show IxR _ (rIxT K) from ix_tup) (pv 1) pe_int (fun _ _ => rfl)) (pa_cons (pe_ix (show IxR _ (rIxT K) from ix_tup) (pv 1) pe_int (fun _ _ => rfl)) pa_nil)))) pe_non))
      (pss_cons (ps_if (PW.pt (pw_or (pt_cmpR op_isN (pv 2) pe_non (nomark _)) (pw_or (pt_cmpR (op_eqT0 hr.units0) (pe_ix (show IxR _ (rIxT K) from ix_tup) (pv 1) pe_int (fun _ _ => rfl)) (pe_tup pa_nil) (nomark _)) (pw_or1 (pt_cmpR (show OpR _ _ rNe from op_ne) (pe_cal CLSpotBehind hr (by rfl) pass0 (pa_cons (pv 0) (pa_cons (pv 2) (pa_cons (pe_ix (show IxR _ (rIxT K) from ix_tup) (pv 1) pe_int (fun _ _ => rfl)) pa_nil)))) (pv 2) (nomark _)))))) (pss_one (ps_ret pe_bl)) pss_nil)
      (pss_cons (ps_if (pt_cmpR op_eq (pe_cal CLGain hr (by rfl) pass0 (pa_cons (pv 0) (pa_cons (pe_ix (show IxR _ (rIxT K) from ix_tup) (pv 1) pe_int (fun _ _ => rfl)) pa_nil))) pe_int (nomark _)) (pss_one (ps_ret pe_bl)) pss_nil)
      (pss_one (ps_ret (pe_cmpR op_in_seq (pe_cal CLSpotBehind hr (by rfl) pass0 (pa_cons (pv 0) (pa_cons (pv 2) (pa_cons (pe_ix (show IxR _ (rIxT K) from ix_tup) (pv 1) pe_int (fun _ _ => rfl)) pa_nil)))) (pe_dget hu1 (pv 0) pe_str (fun _ _ => rfl)) (by rfl)))))))))), ?_⟩
    refine ⟨v, rfl, v, .ty "tuple", _, _, _, rfl, .ty "tuple", tyx_of hd, kit_ty (kit_tuple d), _, rfl, ?_⟩
    have q0 := q H (Same.refl H)
    cases d with
    | tuple ds =>
      have hd0 := hd
      cases hd with
      | tup hs ha =>
      rename_i a xs
      have hzz : PyData.bulkAll ds ≤ 500000 := hz
      refine iteF ⟨_, rfl, Nat.zero_le _, fun e0 ne0 => ⟨.tuple ds, e0, hd0.up (same_upd ne0), rfl, stOf upd_same, _, rfl, ?_⟩⟩
      have s0 := same_upd (o := .tup []) ne0
      generalize upd H e0 (.tup []) = H0 at s0 ⊢
      have q1 := q H0 s0
      cases ha with
      | nil => exact iteT (iteT q1)
      | @cons v0 vs0 x r z1 zr =>
      have hs1 := ex_t' s0 hs
      refine iteF ⟨_, rfl, a, _, 0, v0, rfl, rfl, hs1, atI_nat (j := 0) rfl, v0, .ty "str", _, _, _, rfl, .ty "str", tyx_of (z1.up s0), kit_ty (kit_str x), _, rfl, ?_⟩
      cases x with
      | str y =>
        cases z1
        refine iteF ⟨_, rfl, a, _, 0, _, rfl, rfl, hs1, atI_nat (j := 0) rfl, rfl, _, rfl, ?_⟩
        by_cases hy : y = "leads"
        · subst hy
          rw [decide_eq_true rfl]
          refine iteT ⟨_, rfl, _, _, rfl, .inr ⟨_, hs1, rfl⟩, rfl, _, rfl, ?_⟩
          by_cases l2 : r.length = 1
          · rw [decide_eq_true (by rw [List.length_cons, zr.len, l2]; rfl)]
            match r, l2 with
            | [b], _ =>
            cases zr with
            | @cons v1 vs1 _ _ z2 z3 =>
            cases z3
            refine iteT ⟨_, rfl, _, rfl, a, _, 1, v1, rfl, rfl, hs1, atI_nat (j := 1) rfl, p, pl, top, many, long, us, v1, b, rfl, hP.up s0, hO, t1, t2, t3, U, z2.up s0, sz_mem hzz b (by simp), fun H1 s1 => ?_⟩
            have := q H1 (s0.trans s1)
            have e : holdsB pl us (.tuple [.str "leads", b]) = boundsB pl us b := by
              have : strIs "leads" (.str "leads") = true := by decide +kernel
              simp only [holdsB, this, Bool.true_and]
            rw [e] at this
            exact this
          · rw [decide_eq_false (fun z => l2 (by have := zr.len; injection z with z; rw [List.length_cons] at z; omega))]
            rw [holds_leads l2] at q1
            exact iteF q1
        · rw [decide_eq_false (fun z => hy (by injection z))]
          refine iteF ?_
          have nl : strIs "leads" (.str y) = false := by show decide (y = "leads") = false; exact decide_eq_false hy
          refine ⟨_, rfl, a, _, 0, _, rfl, rfl, hs1, atI_nat (j := 0) rfl, rfl, _, rfl, ?_⟩
          by_cases hy2 : y = "ring"
          case neg =>
            rw [decide_eq_false (fun z => hy2 (by injection z))]
            rw [holds_no nl (by show decide (y = "ring") = false; exact decide_eq_false hy2)] at q1
            exact iteT (iteT q1)
          subst hy2
          rw [decide_eq_true rfl]
          refine iteF ⟨_, rfl, _, _, rfl, .inr ⟨_, hs1, rfl⟩, rfl, _, rfl, ?_⟩
          by_cases l5 : r.length = 4
          case neg =>
            rw [decide_eq_false (fun z => l5 (by have := zr.len; injection z with z; rw [List.length_cons] at z; omega))]
            rw [holds_ring l5] at q1
            exact iteT (iteT q1)
          rw [decide_eq_true (by rw [List.length_cons, zr.len, l5]; rfl)]
          match r, l5 with
          | [b, th, rg, on], _ =>
          cases zr with
          | @cons vb vs1 _ _ zb z3 =>
          cases z3 with
          | @cons vt vs2 _ _ zt z4 =>
          cases z4 with
          | @cons vr vs3 _ _ zr z5 =>
          cases z5 with
          | @cons vo vs4 _ _ zo z6 =>
          cases z6
          have szt := sz_mem hzz th (by simp)
          have szr := sz_mem hzz rg (by simp)
          have szo := sz_mem hzz on (by simp)
          have eH : ∀ b, holdsB pl us (.tuple [.str "ring", b, th, rg, on]) = ringB pl [.str "ring", b, th, rg, on] := fun b => by
            have : strIs "ring" (.str "ring") = true := by decide +kernel
            simp only [holdsB, this, Bool.true_and]
          refine iteF ⟨_, rfl, a, _, 1, vb, rfl, rfl, hs1, atI_nat (j := 1) rfl, vb, .ty "int", _, _, _, rfl, .ty "int", tyx_of (zb.up s0), kit_ty (kit_int b), _, rfl, ?_⟩
          cases b with
          | int n =>
            refine iteF ⟨_, rfl, a, _, 1, vb, rfl, rfl, hs1, atI_nat (j := 1) rfl, vb, .ty "bool", _, _, _, rfl, .ty "bool", tyx_of (zb.up s0), kit_ty (kit_bool (.int n)), _, rfl, iteF ?_⟩
            cases zb
            obtain ⟨vi, vw, vo', g1, g2, g3, g4, d1, d2, d3⟩ := (hP.up s0).get
            obtain ⟨is, his, hia⟩ : ∃ is, SqT K H0 vi is ∧ DqAll K H0 is (nats pl.ins) := by
              cases d1 with
              | tup w1 w2 => exact ⟨_, w1, w2⟩
            obtain rfl := dqAll_nats hia
            obtain ⟨os, hos, hoa⟩ : ∃ os, SqT K H0 vo' os ∧ DqAll K H0 os (nats pl.outs) := by
              cases d3 with
              | tup w1 w2 => exact ⟨_, w1, w2⟩
            obtain rfl := dqAll_nats hoa
            have rB : ∀ m : Int, ringB pl [.str "ring", .int m, th, rg, on] = (inI m pl.ins && restB pl rg on (behindD pl m.toNat th)) := fun _ => rfl
            refine ⟨_, rfl, a, _, 1, _, rfl, rfl, hs1, atI_nat (j := 1) rfl, _, rfl, p, _, rfl, g2, vi, _, rfl, .inr his, rfl, flat_ixs _, _, rfl, ?_⟩
            have e1 : (if false = true then !inV (V.int n) (ixs pl.ins) else inV (V.int n) (ixs pl.ins)) = inI n pl.ins := by rw [if_neg (by decide), inV_int]
            rw [e1]
            rw [eH, rB] at q1
            cases hin : inI n pl.ins with
            | false =>
              rw [hin, Bool.false_and] at q1
              refine iteF ⟨_, rfl, rfl, _, rfl, ?_⟩
              rw [decide_eq_true rfl]
              exact iteT (iteT q1)
            | true =>
            obtain ⟨b0, hb0, rfl⟩ : ∃ b0 : Nat, b0 ∈ pl.ins ∧ n = (b0 : Int) := by
              unfold inI at hin
              obtain ⟨y, hy, e⟩ := List.any_eq_true.mp hin
              have : (y : Int) = n := by simpa using e
              exact ⟨y, hy, this.symm⟩
            refine iteT ⟨_, rfl, _, rfl, a, _, 1, _, rfl, rfl, hs1, atI_nat (j := 1) rfl, _, rfl, a, _, 2, vt, rfl, rfl, hs1, atI_nat (j := 2) rfl, p, pl, top, many, long, b0, vt, th, rfl, hP.up s0, hO, t1, t2, t3, zt.up s0, szt, fun H1 s1 => ?_⟩
            have s01 := s0.trans s1
            have q2 : ∀ H', Same H0 H' → Q (.bl (restB pl rg on (behindD pl b0 th))) H' := fun H' sm => by
              have := q H' (s0.trans sm)
              rw [eH, rB, hin, Bool.true_and, Int.toNat_natCast] at this
              exact this
            cases hb : behindD pl b0 th with
            | none =>
              have := q2 H1 s1
              rw [hb] at this
              refine ⟨_, rfl, rfl, _, rfl, ?_⟩
              rw [show decide (optV none = V.non) = true from decide_eq_true rfl]
              exact iteT (iteT this)
            | some st =>
            rw [hb] at q2
            have hs2 := ex_t' s1 hs1
            refine ⟨_, rfl, rfl, _, rfl, ?_⟩
            rw [decide_eq_false (fun z => by cases z)]
            refine iteF ⟨_, rfl, a, _, 3, vr, rfl, rfl, hs2, atI_nat (j := 3) rfl, Nat.zero_le _, fun e2 ne2 => ⟨rg, e2, (zr.up s01).up (same_upd ne2), rfl, stOf upd_same, _, rfl, ?_⟩⟩
            have s2 := same_upd (o := .tup []) ne2
            generalize upd H1 e2 (.tup []) = H2 at s2 ⊢
            have s12 := s1.trans s2
            have s02 := s01.trans s2
            have hs3 := ex_t' s2 hs2
            cases hnil : isNilT rg with
            | true =>
              have : rg = .tuple [] := by
                unfold isNilT at hnil
                split at hnil
                · rfl
                · cases hnil
              subst this
              have := q2 H2 s12
              have er : restB pl (.tuple []) on (some st) = false := by
                show (decide (some st = some st) && (decide ((0 : Int) ≠ 0) && _)) = false
                simp
              rw [er] at this
              exact iteT (iteT this)
            | false =>
            refine iteF ⟨_, rfl, _, rfl, _, rfl, a, _, 3, vr, rfl, rfl, hs3, atI_nat (j := 3) rfl, p, pl, top, many, long, st, vr, rg, rfl, hP.up s02, hO, t1, t2, t3, zr.up s02, szr, fun H3 s3 => ?_⟩
            have s13 := s12.trans s3
            have s03 := s02.trans s3
            have hs4 := ex_t' s3 hs3
            have q3 := q2 H3 s13
            cases hb2 : behindD pl st rg with
            | none =>
              have er : restB pl rg on (some st) = false := by
                cases rg with
                | tuple rs =>
                  have hb2 : behindL pl st rs = none := hb2
                  show (decide (behindL pl st rs = some st) && _) = false
                  rw [hb2]; rfl
                | _ => rfl
              rw [er] at q3
              exact ⟨_, rfl, rfl, _, rfl, iteT q3⟩
            | some st2 =>
            obtain ⟨rs, rfl⟩ : ∃ rs, rg = .tuple rs := by
              cases rg with
              | tuple rs => exact ⟨rs, rfl⟩
              | _ => cases hb2
            have hb2 : behindL pl st rs = some st2 := hb2
            refine ⟨_, rfl, rfl, _, rfl, ?_⟩
            by_cases h12 : st2 = st
            case neg =>
              have er : restB pl (.tuple rs) on (some st) = false := by
                show (decide (behindL pl st rs = some st) && _) = false
                rw [hb2, decide_eq_false (fun z => h12 (by injection z)), Bool.false_and]
              rw [er] at q3
              have hne : ¬ optV (some st2) = optV (some st) := fun z => by
                have z : V.int (st2 : Int) = V.int (st : Int) := z
                injection z with z
                exact h12 (by omega)
              rw [decide_eq_false hne]
              exact iteT q3
            subst h12
            rw [decide_eq_true rfl]
            have lrs : rs.length ≤ 500000 := by
              have := bulk_len rs
              have : PyData.bulkAll rs ≤ 500000 := szr
              omega
            refine iteF ⟨_, rfl, _, rfl, a, _, 3, vr, rfl, rfl, hs4, atI_nat (j := 3) rfl, p, pl, top, many, long, vr, rs, rfl, hP.up s03, hO, t1, t2, t3, zr.up s03, lrs, behind_all hb2, fun H4 s4 => ?_⟩
            have er : restB pl (.tuple rs) on (some st2) = (decide (sumG pl rs ≠ 0) && endB pl (behindD pl st2 on)) := by
              show (decide (behindL pl st2 rs = some st2) && _) = _
              rw [hb2, decide_eq_true rfl, Bool.true_and]
            rw [er] at q2
            refine ⟨rfl, _, rfl, ?_⟩
            by_cases hg : sumG pl rs = 0
            · have := q2 H4 (s13.trans s4)
              rw [show decide (sumG pl rs ≠ 0) = false from decide_eq_false (fun z => z hg), Bool.false_and] at this
              rw [decide_eq_true (by rw [hg])]
              exact iteT this
            · rw [show decide (sumG pl rs ≠ 0) = true from decide_eq_true hg, Bool.true_and] at q2
              rw [decide_eq_false (fun z => hg (by injection z))]
              refine iteF ⟨_, rfl, _, rfl, _, rfl, a, _, 4, vo, rfl, rfl, ex_t' s4 hs4, atI_nat (j := 4) rfl, p, pl, top, many, long, st2, vo, on, rfl, hP.up (s03.trans s4), hO, t1, t2, t3, zo.up (s03.trans s4), szo, fun H5 s5 => ?_⟩
              have s05 := (s03.trans s4).trans s5
              have s15 := (s13.trans s4).trans s5
              have sH5 : Same H0 H5 := s15
              have q5 := q2 H5 s15
              refine ⟨_, rfl, p, _, rfl, dget_up g4 sH5, vo', _, rfl, .inr (ex_t' sH5 hos), flat_opt _, flat_ixs _, ?_⟩
              have e5 : (if false = true then !inV (optV (behindD pl st2 on)) (ixs pl.outs) else inV (optV (behindD pl st2 on)) (ixs pl.outs)) = endB pl (behindD pl st2 on) := by rw [if_neg (by decide), inV_opt]
              rw [e5]
              exact q5
          | bool c =>
            refine iteF ⟨_, rfl, a, _, 1, vb, rfl, rfl, hs1, atI_nat (j := 1) rfl, vb, .ty "bool", _, _, _, rfl, .ty "bool", tyx_of (zb.up s0), kit_ty (kit_bool (.bool c)), _, rfl, iteT ?_⟩
            rw [eH] at q1
            exact q1
          | _ =>
            rw [eH] at q1
            exact iteT (iteT q1)
      | _ => exact iteT (by rw [holds_no rfl rfl] at q1; exact q1)
    | _ => exact iteT (iteT q0)
end
end KP
namespace KP
open PySem PySem.Spec PyProof.Rows L2 EL
open Evl (pss_cut)
abbrev sLRight : Stmt := topS 78
theorem scLRight : FnScope ["_law_w", "_law_code_here", "_law_is_fine", "_law_told", "_law_held"] ["_law_w"] (defScope sLRight) := ⟨rfl, rfl, rfl, by decide +kernel, rfl, by decide +kernel, by decide +kernel⟩
theorem beh_goes {pl : Plan} : ∀ {is : List Nat} {s : Nat}, behindL pl s (nats is) = goesTo pl s is
  | [], _ => rfl
  | i :: is, s => by
    show (ixOk pl s (.int (i : Int))).bind (fun m => behindL pl m.t (nats is)) = (pl.ways[i]?).bind fun m => if m.s = s then goesTo pl m.t is else none
    rw [ixOk_int]
    by_cases h : i < pl.ways.length
    · rw [if_pos ⟨by omega, by omega⟩, Int.toNat_natCast]
      cases e : pl.ways[i]? with
      | none => rfl
      | some m =>
        rw [Option.bind_some, Option.bind_some]
        by_cases z : m.s = s
        · rw [if_pos z, if_pos z, Option.bind_some]; exact beh_goes
        · rw [if_neg z, if_neg z]; rfl
    · rw [if_neg (fun z => h (by omega)), List.getElem?_eq_none (by omega)]; rfl
theorem sum_gsum {pl : Plan} : ∀ is : List Nat, sumG pl (nats is) = gsum pl is
  | [] => rfl
  | i :: is => by
    have ih := sum_gsum (pl := pl) is
    unfold sumG at ih ⊢
    show (gainI pl (.int (i : Int)) :: (nats is).map (gainI pl)).sum = _
    rw [List.sum_cons, ih]
    rfl
theorem judged_holds {pl : Plan} {us : List Nat} {d : PyData} (J : Judged pl us d) : holdsB pl us d = true := by
  rcases J with ⟨lo, hi, rfl, B⟩ | ⟨b, th, rg, on, rfl, R⟩
  · have : strIs "leads" (.str "leads") = true := by decide +kernel
    simp only [holdsB, this, Bool.true_and]
    exact boundsB_yes B
  · have h1 : strIs "ring" (.str "ring") = true := by decide +kernel
    simp only [holdsB, h1, Bool.true_and]
    obtain ⟨s, t, q1, q2, q3, q4, q5, _⟩ := R.ex
    have e1 : inI (b : Int) pl.ins = true := by
      unfold inI
      rw [List.any_eq_true]
      exact ⟨b, R.bi, by simp⟩
    have e2 : behindD pl b (.tuple (nats th)) = some s := by show behindL pl b (nats th) = some s; rw [beh_goes]; exact q1
    have e3 : behindL pl s (nats rg) = some s := by rw [beh_goes]; exact q2
    have e4 : behindD pl s (.tuple (nats on)) = some t := by show behindL pl s (nats on) = some t; rw [beh_goes]; exact q4
    show (inI (b : Int) pl.ins && restB pl (.tuple (nats rg)) (.tuple (nats on)) (behindD pl (b : Int).toNat (.tuple (nats th)))) = true
    rw [e1, Int.toNat_natCast, e2]
    show (decide (behindL pl s (nats rg) = some s) && (decide (sumG pl (nats rg) ≠ 0) && endB pl (behindD pl s (.tuple (nats on))))) = true
    rw [e3, e4, sum_gsum, decide_eq_true rfl, decide_eq_true q3]
    show inI (t : Int) pl.outs = true
    unfold inI
    rw [List.any_eq_true]
    exact ⟨t, q5, by simp⟩
theorem judged_lead {pl : Plan} {us : List Nat} {d : PyData} (U : UsefulL pl us) (J : Judged pl us d) : isLead d = true ↔ ¬ Rg pl us := by
  rcases J with ⟨lo, hi, rfl, B⟩ | ⟨b, th, rg, on, rfl, R⟩
  · refine ⟨fun _ ⟨s, hs, is, h1, h2⟩ => h2 (bnd_ring U B hs h1), fun _ => ?_⟩
    show decide (("leads" : Str) = "leads") = true
    exact decide_eq_true rfl
  · obtain ⟨s, t, q1, q2, q3, q4, q5, q6⟩ := R.ex
    refine ⟨fun h => ?_, fun h => absurd ⟨s, q6, rg, q2, q3⟩ h⟩
    have h : decide (("ring" : Str) = "leads") = true := h
    rw [decide_eq_true_eq] at h
    exact absurd h (by decide +kernel)
theorem judged_str {pl : Plan} {us : List Nat} {d : PyData} (J : Judged pl us d) : ∃ r, d = .tuple (.str (if isLead d = true then "leads" else "ring") :: r) := by
  rcases J with ⟨lo, hi, rfl, B⟩ | ⟨b, th, rg, on, rfl, R⟩
  · have : isLead (leadsD us lo hi) = true := by show decide (("leads" : Str) = "leads") = true; exact decide_eq_true rfl
    rw [if_pos this]
    exact ⟨_, rfl⟩
  · have : ¬ isLead (ringD b th rg on) = true := fun h => by
      have h : decide (("ring" : Str) = "leads") = true := h
      rw [decide_eq_true_eq] at h
      exact absurd h (by decide +kernel)
    rw [if_neg this]
    exact ⟨_, rfl⟩
theorem shw_two {d : PyData} (h : ShJ d) : Shw (.list [d, d]) := by
  refine ⟨?_, .inl ?_, ?_, ?_⟩
  · show (pln d && (pln d && true)) = true
    rw [h.p]; rfl
  · show (d.hasDict || (d.hasDict || false)) = false
    rw [h.n]; rfl
  · show max d.depth (max d.depth 0) + 1 ≤ 60
    have := h.dp
    omega
  · show d.bulk + 1 + (d.bulk + 1 + 0) ≤ 200000
    have := h.bk
    omega
theorem ifC {c : Bool} {A B : Str} {σ : L2.St} {H : Hp} {R : VK} (h : R (.str (if c = true then A else B)) H) : if c = true then tC (.str A) σ H R else tC (.str B) σ H R := by
  cases c with
  | true => rw [if_pos rfl] at h; exact iteT h
  | false => rw [if_neg (by decide)] at h; exact iteF h
def spRightW (K : PySem.W.Frag) : Sp := fun vs H Q _ => ∃ (p : Addr) (pl : Plan) (top many long : Nat) (us : List Nat), vs = [.ref p] ∧ WorldAt K H p pl ∧ pl.Ok top many long ∧ top ≤ 10 ∧ many ≤ 50 ∧ long * us.length ≤ 15 ∧ long ≤ 50 ∧ UsefulL pl us ∧ Few pl us ∧ ∀ H', Same H H' → Q (.bl true) H'

section
variable {P : Program} {w : World} {K : PySem.W.Frag} {mg : Str → Option Value} {base : Heap}
theorem ok_LRight {ff C : Addr} {fd : FuncData} {k : Nat} (F : Fun K "_law_right" "_law_right" sLRight ff fd) (nrepr : mg "repr" = none) (CLCode : Cal P w K mg base k "_law_code" ["_law_w"] (spCodeW K C)) (CLHeights : CalG P w K mg base k "_law_heights" ["_law_w"] (spHeights K)) (CJudge : Cal P w K mg base k "judge" ["pacer"] (spJudge K C)) (CIsEven : Cal P w K mg base k "is_even" ["pacer"] (spIsEven K C)) (CJudgeHolds : Cal P w K mg base k "judge_holds" ["pacer", "thing"] (spJudgeHolds K C)) (CLIsPaper : Cal P w K mg base k "_law_is_paper" ["_law_w", "_law_it"] (spPaperL K)) (kbJudge : KBinds K CJudge.fd ["pacer"] ["pacer"] kw1 kw1) (kbEven : KBinds K CIsEven.fd ["pacer"] ["pacer"] kw1 kw1) (kbHolds : KBinds K CJudgeHolds.fd ["pacer", "thing"] ["thing", "pacer"] kw2r kw2r) : FnG P w K mg base (k + 1) ff fd ["_law_w"] (spRightW K) := by
  refine FnG.body F scLRight (fun vs H Q E h => ?_) (fun cdv A outer s H vs Q E hg h => ?_)
  · obtain ⟨p, pl, top, many, long, us, rfl, _⟩ := h; rfl
  · obtain ⟨p, pl, top, many, long, us, rfl, hP, hO, t1, t2, hB, t3, U, few, kQ⟩ := h
    have hr := hg.r
    have hu := hr.units
    refine ⟨_, (pss_cons (ps_par (i := 1) (j := 2) (by rfl) scLRight.nd rfl rfl (by decide) rfl rfl (pa_cons (pe_cal CLCode hr (by rfl) pass0 (pa_cons (pv 0) pa_nil)) (pa_cons (pe_cmpR op_notN (pe_calG CLHeights hg (by rfl) pass0 (pa_cons (pv 0) pa_nil)) pe_non (nomark _)) pa_nil)) (by rfl))
      (pss_cons (ps_set (i := 3) scLRight.nd rfl (by first | exact Or.inl rfl | exact Or.inr rfl) (pe_lst (pa_cons (pe_cal CJudge hr (by rfl) pass0 (pa_cons (pv 1) pa_nil)) (pa_cons (pe_calK0 CJudge hr (by rfl) kbJudge pass0 (pk_cons (pv 1) pk_nil)) (pa_cons (pe_cal CJudge hr (by rfl) pass0 (pa_cons (pv 1) pa_nil)) pa_nil)))))
      (pss_cons (ps_if (PW.pt (pw_or (pt_cmpR op_ne (pe_callB (call_repr hg) (by rfl) nrepr (by decide +kernel) (pa_cons (pe_slice sl_list (pv 3) (po_some pe_int) po_none) pa_nil)) (pe_callB (call_repr hg) (by rfl) nrepr (by decide +kernel) (pa_cons (pe_op op_rep (pe_slice sl_list (pv 3) po_none (po_some pe_int)) pe_int) pa_nil)) (nomark _)) (pw_or1 (pt_cmpR op_ne (pe_ix (show IxR _ (rIxT K) from ix_tup) (pe_ix (show IxR _ (rIxL K) from ix_list) (pv 3) pe_int (fun _ _ => rfl)) pe_int (fun _ _ => rfl)) (pe_ifExp (pt_val (pv 2)) pe_str pe_str) (nomark _))))) (pss_one (ps_ret pe_bl)) pss_nil)
      (pss_cons (ps_if (PW.pt (pw_or (pt_not (pt_val (pe_cal CLIsPaper hr (by rfl) pass0 (pa_cons (pv 0) (pa_cons (pe_ix (show IxR _ (rIxL K) from ix_list) (pv 3) pe_int (fun _ _ => rfl)) pa_nil))))) (pw_or1 (pt_cmpR op_ne (pe_callB (call_repr hg) (by rfl) nrepr (by decide +kernel) (pa_cons (pe_lst (pa_cons (pe_cal CIsEven hr (by rfl) pass0 (pa_cons (pv 1) pa_nil)) (pa_cons (pe_calK0 CIsEven hr (by rfl) kbEven pass0 (pk_cons (pv 1) pk_nil)) pa_nil))) pa_nil)) (pe_callB (call_repr hg) (by rfl) nrepr (by decide +kernel) (pa_cons (pe_lst (pa_cons (pv 2) (pa_cons (pv 2) pa_nil))) pa_nil)) (nomark _))))) (pss_one (ps_ret pe_bl)) pss_nil)
      (pss_cons (ps_set (i := 4) scLRight.nd rfl (by first | exact Or.inl rfl | exact Or.inr rfl) (pe_lst (pa_cons (pe_cal CJudgeHolds hr (by rfl) pass0 (pa_cons (pv 1) (pa_cons (pe_ix (show IxR _ (rIxL K) from ix_list) (pv 3) pe_int (fun _ _ => rfl)) pa_nil))) (pa_cons (pe_calK0 CJudgeHolds hr (by rfl) kbHolds pass0 (pk_cons (pe_ix (show IxR _ (rIxL K) from ix_list) (pv 3) pe_int (fun _ _ => rfl)) (pk_cons (pv 1) pk_nil))) pa_nil))))
      (pss_one (ps_ret (pe_cmpR op_eq (pe_callB (call_repr hg) (by rfl) nrepr (by decide +kernel) (pa_cons (pv 4) pa_nil)) (pe_callB (call_repr hg) (by rfl) nrepr (by decide +kernel) (pa_cons (kd_lst (kd_cons kd_bl (kd_cons kd_bl kd_nil))) pa_nil)) (nomark _))))))))), ?_⟩
    refine ⟨_, rfl, p, pl, top, many, long, rfl, hP, hO, by omega, t2, t3, fun c H1 s1 nc hPc => ?_⟩
    have hP1 := hP.up s1
    have three : 3 ≤ sizeLine := by decide
    have two : 2 ≤ sizeLine := by decide
    refine ⟨_, rfl, p, pl, top, many, long, us, rfl, hP1, hO, by omega, t2, hB, t3, U, few, fun x H2 s2 hx => ?_⟩
    obtain ⟨fine, hfx, hf⟩ : ∃ fine : Bool, (!decide (x = V.non)) = fine ∧ (fine = true ↔ ¬ Rg pl us) := by
      rcases hx with ⟨rfl, r⟩ | ⟨d, _, _, rfl, _, nr, _⟩
      · exact ⟨false, by rw [decide_eq_true rfl]; rfl, fun h => (nomatch h), fun h => absurd r h⟩
      · exact ⟨true, by rw [decide_eq_false (fun z => by cases z)]; rfl, fun _ => nr, fun _ => rfl⟩
    refine ⟨rfl, ?_⟩
    dsimp only
    rw [hfx]
    refine ⟨_, _, rfl, ?_⟩
    have hP2 := hPc.up s2
    refine ⟨_, rfl, c, pl, top, many, long, rfl, hP2, hO, t1, t2, t3, fun v1 H3 us1 d1 s3 e1 U1 J1 D1 S1 => ?_⟩
    obtain rfl := useful_uniq U U1
    have hP3 := hP2.up s3
    refine ⟨_, rfl, c, pl, top, many, long, rfl, hP3, hO, t1, t2, t3, fun v2 H4 us1 d2 s4 e2 U2 J2 D2 S2 => ?_⟩
    obtain rfl := useful_uniq U U2
    obtain rfl := jdet_uniq D1 D2
    have hP4 := hP3.up s4
    refine ⟨_, rfl, c, pl, top, many, long, rfl, hP4, hO, t1, t2, t3, fun v3 H5 us1 d2 s5 e3 U3 J3 D3 S3 => ?_⟩
    obtain rfl := useful_uniq U U3
    obtain rfl := jdet_uniq D1 D3
    have hP5 := hP4.up s5
    refine ⟨three, fun L nL => ?_⟩
    have sL := same_upd (o := .lst [v1, v2, v3]) nL
    have gL : upd H5 L (.lst [v1, v2, v3]) L = some (.lst [v1, v2, v3]) := upd_same
    dsimp only [tNil]
    generalize upd H5 L (.lst [v1, v2, v3]) = H6 at sL gL ⊢
    have x1 := e1.up ((s4.trans s5).trans sL)
    have x2 := e2.up (s5.trans sL)
    have x3 := e3.up sL
    have s06 := ((s1.trans s2).trans (s3.trans s4)).trans (s5.trans sL)
    have hP6 := hP5.up sL
    refine ⟨.ref L, rfl, _, rfl, L, _, rfl, sqOf gL, fun p1 np1 => ?_⟩
    have sp1 := same_upd (o := .lst (cutV [v1, v2, v3] (some 1) none)) np1
    have gp1 : upd H6 p1 (.lst (cutV [v1, v2, v3] (some 1) none)) p1 = some (.lst [v2, v3]) := upd_same
    dsimp only [tNil]
    generalize upd H6 p1 (.lst (cutV [v1, v2, v3] (some 1) none)) = H7 at sp1 gp1 ⊢
    refine repr_shw (d := .list [d1, d1]) (.lst (sqOf gp1) (.cons (x2.up sp1) (.cons (x3.up sp1) .nil))) (shw_two S1) ?_
    have gL7 := sp1 _ _ gL
    refine ⟨.ref L, rfl, _, rfl, L, _, rfl, sqOf gL7, fun p2 np2 => ?_⟩
    have sp2 := same_upd (o := .lst (cutV [v1, v2, v3] none (some 1))) np2
    have gp2 : upd H7 p2 (.lst (cutV [v1, v2, v3] none (some 1))) p2 = some (.lst [v1]) := upd_same
    generalize upd H7 p2 (.lst (cutV [v1, v2, v3] none (some 1))) = H8 at sp2 gp2 ⊢
    refine ⟨p2, 2, [v1], rfl, rfl, gp2, by decide, by decide, by show 1 * 2 ≤ sizeLine; exact two, fun p3 np3 => ?_⟩
    have sp3 := same_upd (o := .lst (List.replicate (2 : Int).toNat [v1]).flatten) np3
    have gp3 : upd H8 p3 (.lst (List.replicate (2 : Int).toNat [v1]).flatten) p3 = some (.lst [v1, v1]) := upd_same
    dsimp only [tNil]
    generalize upd H8 p3 (.lst (List.replicate (2 : Int).toNat [v1]).flatten) = H9 at sp3 gp3 ⊢
    have s69 := (sp1.trans sp2).trans sp3
    have y1 := x1.up s69
    refine repr_shw (d := .list [d1, d1]) (.lst (sqOf gp3) (.cons y1 (.cons y1 .nil))) (shw_two S1) ?_
    refine ⟨rfl, _, rfl, ?_⟩
    rw [decide_eq_true rfl]
    have gL9 := s69 _ _ gL
    have e0 : isLead d1 = fine := by
      have a := judged_lead U J1
      cases h : isLead d1 with
      | true => exact (hf.mpr (a.mp h)).symm
      | false =>
        cases fine with
        | false => rfl
        | true => have := a.mpr (hf.mp rfl); rw [h] at this; cases this
    obtain ⟨r1, hd1⟩ := judged_str J1
    rw [e0] at hd1
    obtain ⟨av, xs, rfl, hs⟩ : ∃ a xs, v1 = .ref a ∧ SqT K H9 a (V.str (if fine = true then "leads" else "ring") :: xs) := by
      rw [hd1] at y1
      cases y1 with
      | tup hs ha =>
        cases ha with
        | cons z1 z => cases z1; exact ⟨_, _, rfl, hs⟩
    refine iteF ⟨.ref L, rfl, L, _, 0, _, rfl, rfl, sqOf gL9, atI_nat (j := 0) rfl, av, _, 0, _, rfl, rfl, hs, atI_nat (j := 0) rfl, _, rfl, ?_⟩
    refine ⟨fine, rfl, ifC ⟨rfl, _, rfl, ?_⟩⟩
    rw [decide_eq_true rfl]
    refine iteF ?_
    have z1 := y1
    have hP9 := hP6.up s69
    have s09 := s06.trans s69
    have szd : Sz d1 := by
      show d1.bulk ≤ 500000
      have := S1.bk
      omega
    refine ⟨_, rfl, _, rfl, L, _, 0, _, rfl, rfl, sqOf gL9, atI_nat (j := 0) rfl, p, pl, top, many, long, us, .ref av, d1, rfl, hP.up s09, hO, by omega, t2, t3, U, y1, szd, fun HA sA => ⟨_, rfl, ?_⟩⟩
    rw [judged_holds J1]
    have hPA := hP9.up sA
    refine iteF ⟨_, rfl, c, pl, top, many, long, rfl, hPA, hO, t1, t2, t3, fun HB us1 d2 sB UB JB => ?_⟩
    obtain rfl := useful_uniq U UB
    have eb : isLead d2 = fine := by
      have a := judged_lead U JB
      cases h : isLead d2 with
      | true => exact (hf.mpr (a.mp h)).symm
      | false =>
        cases fine with
        | false => rfl
        | true => have := a.mpr (hf.mp rfl); rw [h] at this; cases this
    rw [eb]
    refine ⟨_, rfl, c, pl, top, many, long, rfl, hPA.up sB, hO, t1, t2, t3, fun HC us1 d3 sC UC JC => ?_⟩
    obtain rfl := useful_uniq U UC
    have ec : isLead d3 = fine := by
      have a := judged_lead U JC
      cases h : isLead d3 with
      | true => exact (hf.mpr (a.mp h)).symm
      | false =>
        cases fine with
        | false => rfl
        | true => have := a.mpr (hf.mp rfl); rw [h] at this; cases this
    rw [ec]
    refine ⟨two, fun q1 nq1 => ?_⟩
    have sq1 := same_upd (o := .lst [V.bl fine, .bl fine]) nq1
    have gq1 : upd HC q1 (.lst [V.bl fine, .bl fine]) q1 = some (.lst [V.bl fine, .bl fine]) := upd_same
    dsimp only [tNil]
    generalize upd HC q1 (.lst [V.bl fine, .bl fine]) = HD at sq1 gq1 ⊢
    refine repr_shw (d := .list ([fine, fine].map PyData.bool)) (.lst (sqOf gq1) (.cons (.bl _) (.cons (.bl _) .nil))) (shw_bools _ (by show 2 ≤ 100; decide)) ?_
    refine ⟨_, rfl, _, rfl, two, fun q2 nq2 => ?_⟩
    have sq2 := same_upd (o := .lst [V.bl fine, .bl fine]) nq2
    have gq2 : upd HD q2 (.lst [V.bl fine, .bl fine]) q2 = some (.lst [V.bl fine, .bl fine]) := upd_same
    dsimp only [tNil]
    generalize upd HD q2 (.lst [V.bl fine, .bl fine]) = HE at sq2 gq2 ⊢
    refine repr_shw (d := .list ([fine, fine].map PyData.bool)) (.lst (sqOf gq2) (.cons (.bl _) (.cons (.bl _) .nil))) (shw_bools _ (by show 2 ≤ 100; decide)) ?_
    refine ⟨rfl, _, rfl, ?_⟩
    rw [decide_eq_true rfl]
    refine iteF ?_
    have sAE := ((sA.trans sB).trans (sC.trans sq1)).trans sq2
    have gLE := sAE _ _ gL9
    have yE := y1.up sAE
    have hPE := hP9.up sAE
    refine ⟨_, rfl, _, rfl, L, _, 0, _, rfl, rfl, sqOf gLE, atI_nat (j := 0) rfl, c, pl, top, many, long, us, .ref av, d1, rfl, hPE, hO, by omega, t2, t3, U, yE, szd, fun HF sF => ?_⟩
    rw [judged_holds J1]
    refine ⟨_, rfl, L, _, 0, _, rfl, rfl, sqOf (sF _ _ gLE), atI_nat (j := 0) rfl, _, rfl, c, pl, top, many, long, us, .ref av, d1, rfl, hPE.up sF, hO, by omega, t2, t3, U, yE.up sF, szd, fun HG sG => ?_⟩
    rw [judged_holds J1]
    refine ⟨two, fun q3 nq3 => ?_⟩
    have sq3 := same_upd (o := .lst [V.bl true, .bl true]) nq3
    have gq3 : upd HG q3 (.lst [V.bl true, .bl true]) q3 = some (.lst [V.bl true, .bl true]) := upd_same
    dsimp only [tNil]
    generalize upd HG q3 (.lst [V.bl true, .bl true]) = HH at sq3 gq3 ⊢
    refine ⟨_, rfl, ?_⟩
    dsimp only [tNil]
    refine repr_shw (d := .list ([true, true].map PyData.bool)) (.lst (sqOf gq3) (.cons (.bl _) (.cons (.bl _) .nil))) (shw_bools _ (by show 2 ≤ 100; decide)) fun v HI sI dv => ?_
    dsimp only [tNil]
    refine repr_shw dv (shw_bools [true, true] (by show 2 ≤ 100; decide)) ?_
    refine ⟨rfl, ?_⟩
    have := kQ HI ((s09.trans sAE).trans ((sF.trans sG).trans (sq3.trans sI)))
    exact this
end
end KP
/-! the pacers by hand -/
namespace KP
open PySem PySem.Spec PyProof.Rows L2 EL
theorem useful_ex {pl : Plan} {top many long : Nat} (hO : pl.Ok top many long) : ∃ us, UsefulL pl us := by
  classical
  refine ⟨(List.range pl.wide).filter fun p => decide (GR (useE pl) pl.ins p ∧ GR (flipE (useE pl)) pl.outs p), List.Pairwise.sublist List.filter_sublist List.pairwise_lt_range, fun p => ?_⟩
  rw [List.mem_filter, List.mem_range, decide_eq_true_eq]
  refine ⟨fun h => h.2, fun h => ⟨gr_lt (fun s hs => hO.i.2 s hs) (fun e he => ?_) h.1, h⟩⟩
  obtain ⟨m, hm, rfl⟩ := List.mem_map.mp he
  exact (hO.m m hm).2.1
theorem few_small {pl : Plan} {us : List Nat} {top many long : Nat} (hO : pl.Ok top many long) (h : ∀ k, k < us.length → pl.ways.length * (2 * (long * k) + 1) < 64) : Few pl us := fun j f _ _ k hk _ =>
  few_bound (G := long) (fun e he => gain_some hO he) (Nat.lt_of_le_of_lt (Nat.mul_le_mul_right _ (some_len pl us)) (h k hk))
/-- heights: each move between useful states gains what they differ by -/
theorem no_rg {pl : Plan} {us : List Nat} {ht : Nat → Int} (U : UsefulL pl us) (hh : ∀ e ∈ someL pl us, e.2.1 = ht e.2.2 - ht e.1) : ¬ Rg pl us := by
  rintro ⟨s, hs, is, h1, h2⟩
  have w := goes_wlk U hs is.length rfl hs h1
  have wl : ∀ {k t : Nat} {g : Int}, WlkE (someL pl us) s k t g → g = ht t - ht s := by
    intro k
    induction k with
    | zero => rintro t g ⟨rfl, rfl⟩; omega
    | succ k ih =>
      rintro t g ⟨n, g0, d, h1, h2, rfl⟩
      have := ih h1
      have b : d = ht t - ht n := hh _ h2
      omega
  have := wl w
  omega
theorem some_ways {pl : Plan} {us : List Nat} {ht : Nat → Int} (h : ∀ m ∈ pl.ways, m.gain = ht m.t - ht m.s) : ∀ e ∈ someL pl us, e.2.1 = ht e.2.2 - ht e.1 := fun e he => by
  obtain ⟨m, hm, _, _, rfl⟩ := mem_some.mp he
  exact h m hm
abbrev rg4 : List Mv := [⟨0, [97, 98], [], 1⟩, ⟨1, [], [97], 2⟩, ⟨2, [98], [98, 98], 3⟩]
def W1 : Plan := ⟨4, [0], rg4 ++ [⟨3, [97], [97], 0⟩], [2]⟩
def W2 : Plan := ⟨4, [0], rg4 ++ [⟨3, [97, 97], [97], 0⟩], [1]⟩
def W3 : Plan := ⟨4, [0], rg4 ++ [⟨3, [97, 97], [97], 0⟩], []⟩
def W4 : Plan := ⟨1, [], [⟨0, [97], [], 0⟩], [0]⟩
def W5 : Plan := ⟨2, [0], [⟨0, [], [], 0⟩, ⟨0, [97], [], 1⟩, ⟨1, [], [98], 1⟩], [0]⟩
abbrev wd7 : List Mv := [⟨0, [97], [97], 0⟩, ⟨0, [98], [98], 0⟩, ⟨0, [], [97], 1⟩, ⟨1, [97], [], 0⟩, ⟨0, [97, 98], [], 2⟩, ⟨2, [], [97, 98], 0⟩, ⟨0, [98], [], 3⟩]
def W6 : Plan := ⟨4, [0], wd7 ++ [⟨3, [], [97], 0⟩], [0]⟩
def W7 : Plan := ⟨4, [0], wd7 ++ [⟨3, [], [97, 97], 0⟩], [0]⟩
theorem okp {pl : Plan} (h1 : 1 ≤ pl.wide) (h2 : pl.wide ≤ 4) (h3 : pl.ins.Pairwise (· < ·)) (h4 : ∀ x ∈ pl.ins, x < pl.wide) (h5 : pl.outs.Pairwise (· < ·)) (h6 : ∀ x ∈ pl.outs, x < pl.wide) (h7 : pl.ways.length ≤ 8)
    (h8 : ∀ m ∈ pl.ways, m.s < pl.wide ∧ m.t < pl.wide ∧ m.l.length ≤ 2 ∧ m.r.length ≤ 2 ∧ (∀ c ∈ m.l, c = 97 ∨ c = 98) ∧ ∀ c ∈ m.r, c = 97 ∨ c = 98) : pl.Ok 4 8 2 := ⟨h1, h2, ⟨h3, h4⟩, ⟨h5, h6⟩, h7, h8⟩
theorem W1_ok : W1.Ok 4 8 2 := okp (by decide) (by decide) (by decide) (by decide) (by decide) (by decide) (by decide) (by decide)
theorem W2_ok : W2.Ok 4 8 2 := okp (by decide) (by decide) (by decide) (by decide) (by decide) (by decide) (by decide) (by decide)
theorem W3_ok : W3.Ok 4 8 2 := okp (by decide) (by decide) (by decide) (by decide) (by decide) (by decide) (by decide) (by decide)
theorem W4_ok : W4.Ok 4 8 2 := okp (by decide) (by decide) (by decide) (by decide) (by decide) (by decide) (by decide) (by decide)
theorem W5_ok : W5.Ok 4 8 2 := okp (by decide) (by decide) (by decide) (by decide) (by decide) (by decide) (by decide) (by decide)
theorem W6_ok : W6.Ok 4 8 2 := okp (by decide) (by decide) (by decide) (by decide) (by decide) (by decide) (by decide) (by decide)
theorem W7_ok : W7.Ok 4 8 2 := okp (by decide) (by decide) (by decide) (by decide) (by decide) (by decide) (by decide) (by decide)
theorem len4 {pl : Plan} {us : List Nat} (hO : pl.Ok 4 8 2) (U : UsefulL pl us) : us.length ≤ 4 := by
  have := asc_len (n := pl.wide) ⟨U.as, useful_lt hO U⟩
  have := hO.w2
  omega
theorem few4 {pl : Plan} {us : List Nat} (hO : pl.Ok 4 8 2) (h4 : pl.ways.length ≤ 4) (U : UsefulL pl us) : Few pl us := few_small hO fun k hk => by
  have := len4 hO U
  have h1 : k ≤ 3 := by omega
  have : pl.ways.length * (2 * (2 * k) + 1) ≤ 4 * 13 := Nat.mul_le_mul h4 (by omega)
  omega
/-- ready to be judged: and whether it is even -/
def Hand (pl : Plan) (b : Bool) : Prop := pl.Ok 4 8 2 ∧ ∃ us, UsefulL pl us ∧ Few pl us ∧ us.length ≤ 4 ∧ (b = true ↔ ¬ Rg pl us)
theorem hand_of {pl : Plan} {b : Bool} (hO : pl.Ok 4 8 2) (few : ∀ us, UsefulL pl us → Few pl us) (h : ∀ us, UsefulL pl us → (b = true ↔ ¬ Rg pl us)) : Hand pl b := by
  obtain ⟨us, U⟩ := useful_ex hO
  exact ⟨hO, us, U, few us U, len4 hO U, h us U⟩
def ht1 (s : Nat) : Int := if s = 1 then 2 else if s = 2 then 1 else 0
theorem hh1 : ∀ m ∈ W1.ways, m.gain = ht1 m.t - ht1 m.s := by decide
theorem H1 : Hand W1 true := hand_of W1_ok (fun us U => few4 W1_ok (by decide) U) fun us U => ⟨fun _ => no_rg (ht := ht1) U (some_ways hh1), fun _ => rfl⟩
theorem H2 : Hand W2 false := hand_of W2_ok (fun us U => few4 W2_ok (by decide) U) fun us U => ⟨fun h => (nomatch h), fun h => absurd ⟨0, (U.me 0).mpr ⟨.base (by decide), .step (.base (show 1 ∈ W2.outs by decide)) (by decide)⟩, [0, 1, 2, 3], by decide, by decide⟩ h⟩
theorem H3 : Hand W3 true := hand_of W3_ok (fun us U => few4 W3_ok (by decide) U) fun us U => ⟨fun _ ⟨s, hs, _⟩ => by
  have := ((U.me s).mp hs).2
  have key : ∀ p, GR (flipE (useE W3)) W3.outs p → False := fun p h => by
    induction h with
    | base h => cases h
    | step _ _ ih => exact ih
  exact key s this, fun _ => rfl⟩
theorem H4 : Hand W4 true := hand_of W4_ok (fun us U => few4 W4_ok (by decide) U) fun us U => ⟨fun _ ⟨s, hs, _⟩ => by
  have := ((U.me s).mp hs).1
  have key : ∀ p, GR (useE W4) W4.ins p → False := fun p h => by
    induction h with
    | base h => cases h
    | step _ _ ih => exact ih
  exact key s this, fun _ => rfl⟩
theorem H5 : Hand W5 true := hand_of W5_ok (fun us U => few4 W5_ok (by decide) U) fun us U => ⟨fun _ => by
  have key : ∀ p, GR (flipE (useE W5)) W5.outs p → p = 0 := fun p h => by
    induction h with
    | base h =>
      have : ∀ x ∈ W5.outs, x = 0 := by decide
      exact this _ h
    | step _ he ih =>
      have : ∀ e ∈ flipE (useE W5), e.1 = 0 → e.2 = 0 := by decide
      exact this _ he ih
  refine no_rg (ht := fun _ => 0) U fun e he => ?_
  obtain ⟨m, hm, h1, h2, rfl⟩ := mem_some.mp he
  have a := key _ ((U.me _).mp h1).2
  have b := key _ ((U.me _).mp h2).2
  have : ∀ m ∈ W5.ways, m.s = 0 → m.t = 0 → m.gain = 0 := by decide
  show m.gain = 0 - 0
  rw [this m hm a b]; rfl, fun _ => rfl⟩
def ht6 (s : Nat) : Int := if s = 1 then -1 else if s = 2 then 2 else if s = 3 then 1 else 0
theorem hh6 : ∀ m ∈ W6.ways, m.gain = ht6 m.t - ht6 m.s := by decide
theorem H6 : Hand W6 true := by
  refine hand_of W6_ok (fun us U j f _ _ k _ _ => ?_) fun us U => ⟨fun _ => no_rg (ht := ht6) U (some_ways hh6), fun _ => rfl⟩
  refine few_heights (some_ways (ht := ht6) hh6) ?_
  have := some_len W6 us
  have : W6.ways.length = 8 := rfl
  omega
theorem H7 : Hand W7 false := by
  have in0 : ∀ us, UsefulL W7 us → 0 ∈ us := fun us U => (U.me 0).mpr ⟨.base (by decide), .base (by decide)⟩
  have in3 : ∀ us, UsefulL W7 us → 3 ∈ us := fun us U => (U.me 3).mpr ⟨.step (.base (show 0 ∈ W7.ins by decide)) (by decide), .step (.base (show 0 ∈ W7.outs by decide)) (by decide)⟩
  have len2 : ∀ us, UsefulL W7 us → 2 ≤ us.length := fun us U => by
    have h0 := in0 us U
    have h3 := in3 us U
    match us, h0, h3 with
    | [x], h0, h3 =>
      have a := List.mem_singleton.mp h0
      have b := List.mem_singleton.mp h3
      omega
    | _ :: _ :: _, _, _ => show 2 ≤ _ + 1 + 1; omega
  have fst0 : ∀ us, UsefulL W7 us → us[0]? = some 0 := fun us U => by
    have h0 := in0 us U
    have as := U.as
    match us, h0, as with
    | x :: r, h0, as =>
      rcases List.mem_cons.mp h0 with rfl | h
      · rfl
      · have := (List.pairwise_cons.mp as).1 0 h
        omega
  have ring : ∀ us, UsefulL W7 us → WlkE (someL W7 us) 0 2 0 (-1) := fun us U => by
    have := goes_wlk U (in0 us U) 2 (is := [6, 7]) rfl (in0 us U) (by decide)
    have e : gsum W7 [6, 7] = -1 := by decide
    rwa [e] at this
  have rgAt : ∀ us, UsefulL W7 us → ∀ n, 2 ≤ n → RgAt (someL W7 us) n 0 := fun us U n hn => ⟨1, -1, by omega, ring us U, by decide⟩
  refine hand_of W7_ok (fun us U j f hj none1 k hk nr => ?_) fun us U => ⟨fun h => (nomatch h), fun h => absurd ((rg_at U).mpr ⟨0, in0 us U, rgAt us U _ (len2 us U)⟩) h⟩
  have hj0 : j = 0 := by
    rcases Nat.eq_zero_or_pos j with z | z
    · exact z
    · exact absurd (rgAt us U _ (len2 us U)) (none1 0 0 z (fst0 us U))
  subst hj0
  rw [fst0 us U] at hj
  cases hj
  have k1 : k ≤ 1 := by
    rcases Nat.lt_or_ge k 2 with z | z
    · omega
    · exact absurd (rgAt us U k z) nr
  refine few_bound (G := 2) (fun e he => gain_some W7_ok he) ?_
  have := some_len W7 us
  have e8 : W7.ways.length = 8 := rfl
  have : (someL W7 us).length * (2 * (2 * k) + 1) ≤ 8 * 5 := Nat.mul_le_mul (by omega) (by omega)
  omega
def hands : List (Plan × Bool) := [(W1, true), (W2, false), (W3, true), (W4, true), (W5, true), (W6, true), (W7, false)]
theorem hands_ok : ∀ x ∈ hands, Hand x.1 x.2 := by
  intro x hx
  unfold hands at hx
  simp only [List.mem_cons, List.not_mem_nil, or_false] at hx
  rcases hx with rfl | rfl | rfl | rfl | rfl | rfl | rfl
  · exact H1
  · exact H2
  · exact H3
  · exact H4
  · exact H5
  · exact H6
  · exact H7
/-- drawn ones are few enough -/
theorem few_drawn {pl : Plan} {us : List Nat} (hO : pl.Ok 3 5 2) (U : UsefulL pl us) : Few pl us ∧ 2 * us.length ≤ 15 := by
  have l3 : us.length ≤ 3 := by
    have := asc_len (n := pl.wide) ⟨U.as, useful_lt hO U⟩
    have := hO.w2
    omega
  refine ⟨few_small hO fun k hk => ?_, by omega⟩
  have h5 := hO.n
  have : pl.ways.length * (2 * (2 * k) + 1) ≤ 5 * 9 := Nat.mul_le_mul h5 (by omega)
  omega
end KP
namespace KP
open PySem PySem.Spec PyProof.Rows L2 EL
open Evl (pss_cut)
abbrev sLaw : Stmt := topS 79
theorem scLaw : FnScope ["_law_script", "_law_deck_here", "_law_go", "_law_ring", "_law_some", "_law_wide", "_law_due", "_law_w"] ["_law_script"] (defScope sLaw) := ⟨rfl, rfl, rfl, by decide +kernel, rfl, by decide +kernel, by decide +kernel⟩
def spLaw (K : PySem.W.Frag) : Sp := fun vs H Q _ => ∃ (a : Addr) (ns : List Int), vs = [.ref a] ∧ SqL K H a (ns.map V.int) ∧ ns.length ≤ 63 ∧ ∀ H', Q (.bl true) H'

abbrev wV (n : Nat) (v1 v2 v3 : V) : List (L2.Key × V) := [(.inr "count", .int (n : Int)), (.inr "starts", v1), (.inr "goes", v2), (.inr "lasts", v3)]
theorem wV_merge (n : Nat) (v1 v2 v3 : V) : mergeK [] (wV n v1 v2 v3) = wV n v1 v2 v3 := by
  have n1 : ¬ ("count" : Str) = "starts" := by decide +kernel
  have n2 : ¬ ("count" : Str) = "goes" := by decide +kernel
  have n3 : ¬ ("starts" : Str) = "goes" := by decide +kernel
  have n4 : ¬ ("count" : Str) = "lasts" := by decide +kernel
  have n5 : ¬ ("starts" : Str) = "lasts" := by decide +kernel
  have n6 : ¬ ("goes" : Str) = "lasts" := by decide +kernel
  simp [mergeK, putK, n1, n2, n3, n4, n5, n6]
theorem noLDs_mv (l : List Mv) : noLDs (l.map mvD) = true := noLDs_map (fun _ => rfl) l
theorem world_new {K : PySem.W.Frag} {Hb H7 : Hp} {pd : Addr} {v1 v2 v3 : V} (pl : Plan) (n : Nat) (hn : pl.wide = n) (npd : Hb pd = none) (s : Same (upd Hb pd (.dK [])) H7) (d1 : Dq K H7 v1 (.tuple (nats pl.ins))) (d2 : Dq K H7 v2 (.tuple (pl.ways.map mvD))) (d3 : Dq K H7 v3 (.tuple (nats pl.outs))) :
    Same Hb (upd H7 pd (.dK (mergeK [] (wV n v1 v2 v3)))) ∧ WorldAt K (upd H7 pd (.dK (mergeK [] (wV n v1 v2 v3)))) pd pl := by
  subst hn
  have g7 : H7 pd = some (.dK []) := s _ _ upd_same
  have kp : KpT H7 (upd H7 pd (.dK (mergeK [] (wV pl.wide v1 v2 v3)))) := .dK g7
  refine ⟨fun x o h => by rw [upd_ne (ne_of_none h npd)]; exact s _ _ (same_upd npd _ _ h), ?_⟩
  have z1 := dq_kpt kp _ _ d1 (noLDs_nats _)
  have z2 := dq_kpt kp _ _ d2 (noLDs_mv _)
  have z3 := dq_kpt kp _ _ d3 (noLDs_nats _)
  obtain ⟨vi, rfl⟩ : ∃ x, v1 = .ref x := by cases d1; exact ⟨_, rfl⟩
  obtain ⟨vw, rfl⟩ : ∃ x, v2 = .ref x := by cases d2; exact ⟨_, rfl⟩
  obtain ⟨vo, rfl⟩ : ∃ x, v3 = .ref x := by cases d3; exact ⟨_, rfl⟩
  exact ⟨vi, vw, vo, by rw [upd_same, wV_merge], z1, z2, z3⟩
theorem cutcat {K : PySem.W.Frag} {σ : L2.St} {H : Hp} {Q : VK} {i : Nat} {a : Addr} {ms : List Mv} {m : Mv} (n : Nat) {j : Int} {d : PyData} (ej : j = (n : Int)) (ed : d = .tuple [mvD m]) (hv : σ[i]? = some (some (.ref a))) (hd : Dq K H (.ref a) (.tuple (ms.map mvD))) (hn : n < ms.length) (h0 : 0 < n) (hl : ms.length ≤ 1000)
    (q : ∀ z H', Same H H' → Dq K H' z (.tuple ((ms.take n ++ [m]).map mvD)) → Q z H') : tOp (rCatA K) (tSl (rSlA K) (tVar i) tNoPart (tPart (tC (.int j)))) (tK K d) σ H Q := by
  subst ej ed
  cases hd with
  | @tup _ xs _ hS hA =>
  have hxl : xs.length = ms.length := by rw [hA.len, List.length_map]
  refine ⟨_, hv, _, rfl, a, xs, rfl, hS, fun h => ?_, fun _ p np => ?_⟩
  · have := h.2
    have e : HT.sIx xs.length xs.length (some (n : Int)) = n := by rw [HT.sIx_nat]; omega
    rw [e] at this
    omega
  · have s1 := same_upd (o := .tup (cutV xs none (some (n : Int)))) np
    have g1 : upd H p (.tup (cutV xs none (some (n : Int)))) p = some (.tup (xs.take n)) := by rw [upd_same, EL.cut_tk]
    generalize upd H p (.tup (cutV xs none (some (n : Int)))) = H1 at s1 g1 ⊢
    intro v H2 s2 d2
    cases d2 with
    | @tup b ys _ hb hby =>
    have hyl : ys.length = 1 := hby.len
    have hy : ys ≠ [] := fun e => by rw [e] at hyl; cases hyl
    have hne : xs.take n ≠ [] := fun e => by
      have := congrArg List.length e
      rw [List.length_take, List.length_nil] at this
      omega
    refine ⟨p, b, _, _, rfl, rfl, stOf (s2 _ _ g1), hb, len_sz (by rw [List.length_take]; omega), fun e => absurd e hne, fun _ e => absurd e hy, fun _ _ r nr => ?_⟩
    have s3 := same_upd (o := .tup (xs.take n ++ ys)) nr
    refine q _ _ ((s1.trans s2).trans s3) (.tup (stOf upd_same) ?_)
    rw [List.map_append, List.map_take]
    exact ((hA.tk n).up ((s1.trans s2).trans s3)).app (hby.up s3)
theorem catw {K : PySem.W.Frag} {σ : L2.St} {H : Hp} {Q : VK} {i : Nat} {a : Addr} {ms ns : List Mv} {d : PyData} (ed : d = .tuple (ns.map mvD)) (hv : σ[i]? = some (some (.ref a))) (hd : Dq K H (.ref a) (.tuple (ms.map mvD))) (hm : 0 < ms.length) (hn : 0 < ns.length) (hl : ms.length + ns.length ≤ 1000)
    (q : ∀ z H', Same H H' → Dq K H' (.ref z) (.tuple ((ms ++ ns).map mvD)) → Q (.ref z) H') : tOp (rCatA K) (tVar i) (tK K d) σ H Q := by
  subst ed
  refine ⟨_, hv, fun v H2 s2 d2 => ?_⟩
  have hd2 := hd.up s2
  cases hd2 with
  | @tup _ xs _ hS hA =>
  cases d2 with
  | @tup b ys _ hb hby =>
  have hxl : xs.length = ms.length := by rw [hA.len, List.length_map]
  have hyl : ys.length = ns.length := by rw [hby.len, List.length_map]
  have hy : ys ≠ [] := fun e => by rw [e] at hyl; rw [← hyl] at hn; cases hn
  have hx : xs ≠ [] := fun e => by rw [e] at hxl; rw [← hxl] at hm; cases hm
  refine ⟨a, b, _, _, rfl, rfl, hS, hb, len_sz (by omega), fun e => absurd e hx, fun _ e => absurd e hy, fun _ _ r nr => ?_⟩
  have s3 := same_upd (o := .tup (xs ++ ys)) nr
  refine q _ _ (s2.trans s3) (.tup (stOf upd_same) ?_)
  rw [List.map_append]
  exact (hA.up s3).app (hby.up s3)
theorem dq_e {K : PySem.W.Frag} {H : Hp} {v : V} {d d' : PyData} (e : d = d') (h : Dq K H v d) : Dq K H v d' := e ▸ h
theorem WorldAt.wo {K : PySem.W.Frag} {H : Hp} {p m : Addr} {pl : Plan} {ws : List V} (h : WorldAt K H p pl) (g : H m = some (.lst ws)) : WorldAt K (wo m H) p pl := by
  obtain ⟨vi, vw, vo, h1, h2, h3, h4⟩ := h.at'
  have kp := KpT.wo g
  refine ⟨vi, vw, vo, by rw [wo_ne (fun e => by rw [e, g] at h1; cases h1)]; exact h1, dq_kpt kp _ _ h2 (noLDs_nats _), dq_kpt kp _ _ h3 (noLDs_mv _), dq_kpt kp _ _ h4 (noLDs_nats _)⟩
/-- the worlds by hand, in their list -/
structure HandsAt (K : PySem.W.Frag) (H : Hp) (m : Addr) (ps : List Plan) : Prop where
  at' : ∃ ws : List Addr, H m = some (.lst (ws.map V.ref)) ∧ ws.length = ps.length ∧ ∀ (j : Nat) (x : Addr) (pl : Plan), ws[j]? = some x → ps[j]? = some pl → x ≠ m ∧ WorldAt K (wo m H) x pl
theorem HandsAt.up {K : PySem.W.Frag} {H H' : Hp} {m : Addr} {ps : List Plan} (h : HandsAt K H m ps) (s : Same H H') : HandsAt K H' m ps := by
  obtain ⟨ws, h1, h2, h3⟩ := h.at'
  exact ⟨ws, s _ _ h1, h2, fun j x pl a b => ⟨(h3 j x pl a b).1, (h3 j x pl a b).2.up (same_wo s)⟩⟩
theorem HandsAt.one {K : PySem.W.Frag} {H : Hp} {m x : Addr} {pl : Plan} (nm : H m = none) (W : WorldAt K H x pl) : HandsAt K (upd H m (.lst [.ref x])) m [pl] := by
  have xm : x ≠ m := fun e => by obtain ⟨_, _, _, h, _⟩ := W.at'; rw [e, nm] at h; cases h
  refine ⟨[x], upd_same, rfl, fun j y p a b => ?_⟩
  cases j with
  | zero => simp at a b; subst a; subst b; rw [wo_upd, wo_id nm]; exact ⟨xm, W⟩
  | succ j => simp at a
theorem HandsAt.snoc {K : PySem.W.Frag} {H : Hp} {m x : Addr} {ps : List Plan} {pl : Plan} (h : HandsAt K H m ps) (W : WorldAt K (wo m H) x pl) : ∃ ws, H m = some (.lst ws) ∧ ws.length = ps.length ∧ HandsAt K (upd H m (.lst (ws ++ [.ref x]))) m (ps ++ [pl]) := by
  obtain ⟨ws, h1, h2, h3⟩ := h.at'
  have xm : x ≠ m := fun e => by obtain ⟨_, _, _, h, _⟩ := W.at'; rw [e, wo_at] at h; cases h
  refine ⟨_, h1, by rw [List.length_map, h2], ws ++ [x], by rw [upd_same, List.map_append]; rfl, by rw [List.length_append, List.length_append, h2]; rfl, fun j y p a b => ?_⟩
  rw [wo_upd]
  rcases Nat.lt_or_ge j ws.length with lt | ge
  · rw [List.getElem?_append_left lt] at a
    rw [List.getElem?_append_left (by omega)] at b
    exact h3 j y p a b
  · rw [List.getElem?_append_right ge] at a
    rw [List.getElem?_append_right (by omega)] at b
    have j0 : j - ws.length = 0 := by
      have := (List.getElem?_eq_some_iff.mp a).1
      simp only [List.length_cons, List.length_nil] at this; omega
    rw [j0] at a
    rw [show j - ps.length = 0 by omega] at b
    simp at a b; subst a; subst b
    exact ⟨xm, W⟩
abbrev labS (x : Plan × Bool) : Str := if x.2 = true then "leads" else "ring"
abbrev labV (x : Plan × Bool) : V := .str (labS x)
abbrev labD (x : Plan × Bool) : PyData := .str (labS x)
theorem labs {K : PySem.W.Frag} {H : Hp} : ∀ l : List (Plan × Bool), DqAll K H (l.map labV) (l.map labD)
  | [] => .nil
  | x :: r => .cons (.str _) (labs r)
theorem HandsAt.app {K : PySem.W.Frag} {H : Hp} {Q : VK} {m x : Addr} {ps : List Plan} {pl : Plan} (h : HandsAt K H m ps) (W : WorldAt K H x pl) (hl : ps.length ≤ 100) (q : ∀ H', KpT H H' → HandsAt K H' m (ps ++ [pl]) → Q .non H') : rAppend (.ref m) [.ref x] H Q := by
  obtain ⟨ws, g, _⟩ := h.at'
  obtain ⟨vs, g', hl', h'⟩ := h.snoc (W.wo g)
  exact ⟨m, vs, _, rfl, rfl, g', lt_sz (by omega), q _ (KpT.lst g') h'⟩
theorem HandsAt.cat {K : PySem.W.Frag} {H : Hp} {Q : VK} {m l x : Addr} {ps : List Plan} {pl : Plan} (h : HandsAt K H m ps) (W : WorldAt K H x pl) (gl : H l = some (.lst [.ref x])) (hl : ps.length ≤ 100) (q : ∀ p H', Same H H' → HandsAt K H' p (ps ++ [pl]) → Q (.ref p) H') : rCat (.ref m) (.ref l) H Q := by
  obtain ⟨ws, g, lw, hw⟩ := h.at'
  refine ⟨m, l, _, _, rfl, rfl, g, gl, len_sz (by rw [List.length_map]; simp only [List.length_cons, List.length_nil]; omega), fun p np => ?_⟩
  have nw : ∀ {y : Addr} {pl : Plan}, WorldAt K H y pl → y ≠ p := fun W e => by obtain ⟨_, _, _, h, _⟩ := W.at'; rw [e, np] at h; cases h
  refine q _ _ (same_upd np) ⟨ws ++ [x], by rw [upd_same, List.map_append]; rfl, by rw [List.length_append, List.length_append, lw]; rfl, fun j y p' a b => ?_⟩
  rw [wo_upd, wo_id np]
  rcases Nat.lt_or_ge j ws.length with lt | ge
  · rw [List.getElem?_append_left lt] at a
    rw [List.getElem?_append_left (by omega)] at b
    have w1 := (hw j y p' a b).2.up wo_sub
    exact ⟨nw w1, w1⟩
  · rw [List.getElem?_append_right ge] at a
    rw [List.getElem?_append_right (by omega)] at b
    have j0 : j - ws.length = 0 := by
      have := (List.getElem?_eq_some_iff.mp a).1
      simp only [List.length_cons, List.length_nil] at this; omega
    rw [j0] at a
    rw [show j - ps.length = 0 by omega] at b
    simp at a b; subst a; subst b
    exact ⟨nw W, W⟩

section
variable {P : Program} {w : World} {K : PySem.W.Frag} {mg : Str → Option Value} {base : Heap}
theorem ok_Law {ff C : Addr} {fd : FuncData} {k : Nat} (F : Fun K "law" "law" sLaw ff fd) (nrange : mg "range" = none) (CLDeck : Cal P w K mg base k "_law_deck" ["_law_script"] (spDeck K)) (CLWorld : Cal P w K mg base k "_law_world" ["_law_deck_here"] (spWorld K 5000)) (CLRight : CalG P w K mg base k "_law_right" ["_law_w"] (spRightW K)) (CLCode : Cal P w K mg base k "_law_code" ["_law_w"] (spCodeW K C)) (CJudge : Cal P w K mg base k "judge" ["pacer"] (spJudge K C)) : FnG P w K mg base (k + 1) ff fd ["_law_script"] (spLaw K) := by
  refine FnG.body F scLaw (fun vs H Q E h => ?_) (fun cdv A outer s H vs Q E hg h => ?_)
  · obtain ⟨a, ns, rfl, _⟩ := h; rfl
  · obtain ⟨a, ns, rfl, hS, hlen, kQ⟩ := h
    have hr := hg.r
    have hu := hr.units
    refine ⟨_, (pss_cons (ps_set (i := 1) scLaw.nd rfl (by first | exact Or.inl rfl | exact Or.inr rfl) (pe_cal CLDeck hr (by rfl) pass0 (pa_cons (pv 0) pa_nil)))
      (pss_cons (ps_for PassesOwn.never rfl (pi_range1 rfl nrange (pa_cons pe_int pa_nil)) (pg_name (i := 2) scLaw.nd rfl (by first | exact Or.inl rfl | exact Or.inr rfl)) (pss_one (ps_if (pt_not (pt_val (pe_calG CLRight hg (by rfl) pass0 (pa_cons (pe_cal CLWorld hr (by rfl) pass0 (pa_cons (pv 1) pa_nil)) pa_nil)))) (pss_one (ps_ret pe_bl)) pss_nil)))
      (pss_cons (ps_set (i := 3) scLaw.nd rfl (by first | exact Or.inl rfl | exact Or.inr rfl) (kd_tup (kd_cons (kd_tup (kd_cons kd_int (kd_cons kd_str (kd_cons kd_str (kd_cons kd_int kd_nil))))) (kd_cons (kd_tup (kd_cons kd_int (kd_cons kd_str (kd_cons kd_str (kd_cons kd_int kd_nil))))) (kd_cons (kd_tup (kd_cons kd_int (kd_cons kd_str (kd_cons kd_str (kd_cons kd_int kd_nil))))) (kd_cons (kd_tup (kd_cons kd_int (kd_cons kd_str (kd_cons kd_str (kd_cons kd_int kd_nil))))) kd_nil))))))
      (pss_cons (ps_set (i := 4) scLaw.nd rfl (by first | exact Or.inl rfl | exact Or.inr rfl) (pe_lst (pa_cons (pe_disp (pps_cons pe_str pe_int (pps_cons pe_str (kd_tup (kd_cons kd_int kd_nil)) (pps_cons pe_str (pv 3) (pps_cons pe_str (kd_tup (kd_cons kd_int kd_nil)) pps_nil)))) rfl rfl (by simp) (by decide)) pa_nil)))
      (pss_cons (ps_expr (pe_bm PySem.F.plainAttrs_list PySem.F.slot_list_append PySem.F.type_list_append mt_append (pv 4) (pa_cons (pe_disp (pps_cons pe_str pe_int (pps_cons pe_str (kd_tup (kd_cons kd_int kd_nil)) (pps_cons pe_str (pe_op op_catA (pe_slice sl_tupA (pv 3) po_none (po_some pe_int)) (kd_tup (kd_cons (kd_tup (kd_cons kd_int (kd_cons kd_str (kd_cons kd_str (kd_cons kd_int kd_nil))))) kd_nil))) (pps_cons pe_str (kd_tup (kd_cons kd_int kd_nil)) pps_nil)))) rfl rfl (by simp) (by decide)) pa_nil)))
      (pss_cons (ps_expr (pe_bm PySem.F.plainAttrs_list PySem.F.slot_list_append PySem.F.type_list_append mt_append (pv 4) (pa_cons (pe_disp (pps_cons pe_str pe_int (pps_cons pe_str (kd_tup (kd_cons kd_int kd_nil)) (pps_cons pe_str (pe_op op_catA (pe_slice sl_tupA (pv 3) po_none (po_some pe_int)) (kd_tup (kd_cons (kd_tup (kd_cons kd_int (kd_cons kd_str (kd_cons kd_str (kd_cons kd_int kd_nil))))) kd_nil))) (pps_cons pe_str (pe_tup pa_nil) pps_nil)))) rfl rfl (by simp) (by decide)) pa_nil)))
      (pss_cons (ps_set (i := 4) scLaw.nd rfl (by first | exact Or.inl rfl | exact Or.inr rfl) (pe_op op_cat (pv 4) (pe_lst (pa_cons (pe_disp (pps_cons pe_str pe_int (pps_cons pe_str (pe_tup pa_nil) (pps_cons pe_str (kd_tup (kd_cons (kd_tup (kd_cons kd_int (kd_cons kd_str (kd_cons kd_str (kd_cons kd_int kd_nil))))) kd_nil)) (pps_cons pe_str (kd_tup (kd_cons kd_int kd_nil)) pps_nil)))) rfl rfl (by simp) (by decide)) pa_nil))))
      (pss_cons (ps_expr (pe_bm PySem.F.plainAttrs_list PySem.F.slot_list_append PySem.F.type_list_append mt_append (pv 4) (pa_cons (pe_disp (pps_cons pe_str pe_int (pps_cons pe_str (kd_tup (kd_cons kd_int kd_nil)) (pps_cons pe_str (kd_tup (kd_cons (kd_tup (kd_cons kd_int (kd_cons kd_str (kd_cons kd_str (kd_cons kd_int kd_nil))))) (kd_cons (kd_tup (kd_cons kd_int (kd_cons kd_str (kd_cons kd_str (kd_cons kd_int kd_nil))))) (kd_cons (kd_tup (kd_cons kd_int (kd_cons kd_str (kd_cons kd_str (kd_cons kd_int kd_nil))))) kd_nil)))) (pps_cons pe_str (kd_tup (kd_cons kd_int kd_nil)) pps_nil)))) rfl rfl (by simp) (by decide)) pa_nil)))
      (pss_cons (ps_set (i := 5) scLaw.nd rfl (by first | exact Or.inl rfl | exact Or.inr rfl) (kd_tup (kd_cons (kd_tup (kd_cons kd_int (kd_cons kd_str (kd_cons kd_str (kd_cons kd_int kd_nil))))) (kd_cons (kd_tup (kd_cons kd_int (kd_cons kd_str (kd_cons kd_str (kd_cons kd_int kd_nil))))) (kd_cons (kd_tup (kd_cons kd_int (kd_cons kd_str (kd_cons kd_str (kd_cons kd_int kd_nil))))) (kd_cons (kd_tup (kd_cons kd_int (kd_cons kd_str (kd_cons kd_str (kd_cons kd_int kd_nil))))) (kd_cons (kd_tup (kd_cons kd_int (kd_cons kd_str (kd_cons kd_str (kd_cons kd_int kd_nil))))) kd_nil)))))))
      (pss_cons (ps_set (i := 5) scLaw.nd rfl (by first | exact Or.inl rfl | exact Or.inr rfl) (pe_op op_catA (pv 5) (kd_tup (kd_cons (kd_tup (kd_cons kd_int (kd_cons kd_str (kd_cons kd_str (kd_cons kd_int kd_nil))))) (kd_cons (kd_tup (kd_cons kd_int (kd_cons kd_str (kd_cons kd_str (kd_cons kd_int kd_nil))))) (kd_cons (kd_tup (kd_cons kd_int (kd_cons kd_str (kd_cons kd_str (kd_cons kd_int kd_nil))))) kd_nil))))))
      (pss_cons (ps_expr (pe_bm PySem.F.plainAttrs_list PySem.F.slot_list_append PySem.F.type_list_append mt_append (pv 4) (pa_cons (pe_disp (pps_cons pe_str pe_int (pps_cons pe_str (kd_tup (kd_cons kd_int kd_nil)) (pps_cons pe_str (pv 5) (pps_cons pe_str (kd_tup (kd_cons kd_int kd_nil)) pps_nil)))) rfl rfl (by simp) (by decide)) pa_nil)))
      (pss_cons (ps_expr (pe_bm PySem.F.plainAttrs_list PySem.F.slot_list_append PySem.F.type_list_append mt_append (pv 4) (pa_cons (pe_disp (pps_cons pe_str pe_int (pps_cons pe_str (kd_tup (kd_cons kd_int kd_nil)) (pps_cons pe_str (pe_op op_catA (pe_slice sl_tupA (pv 5) po_none (po_some pe_int)) (kd_tup (kd_cons (kd_tup (kd_cons kd_int (kd_cons kd_str (kd_cons kd_str (kd_cons kd_int kd_nil))))) kd_nil))) (pps_cons pe_str (kd_tup (kd_cons kd_int kd_nil)) pps_nil)))) rfl rfl (by simp) (by decide)) pa_nil)))
      (pss_cons (ps_set (i := 6) scLaw.nd rfl (by first | exact Or.inl rfl | exact Or.inr rfl) (kd_lst (kd_cons kd_str (kd_cons kd_str (kd_cons kd_str (kd_cons kd_str (kd_cons kd_str (kd_cons kd_str (kd_cons kd_str kd_nil)))))))))
      (pss_one (ps_ret (pe_and (pe_cmpR (op_eqN hr.units0) (pe_lc (own := [("_law_w", 7)]) (g := (gName 7)) (by rfl) scLaw.nd (pi_list (pv 4)) (blkOk_by (own := [("_law_w", 7)]) (N := ["_law_script", "_law_deck_here", "_law_go", "_law_ring", "_law_some", "_law_wide", "_law_due", "_law_w"]) (sc := defScope sLaw) (by decide +kernel)) (fun _ _ _ _ _ => (pg_name (i := 7) scLaw.nd rfl (by first | exact Or.inl rfl | exact Or.inr rfl))) (fun _ _ _ _ _ => (pts_one (pt_not (pt_val (pe_calG CLRight hg (by rfl) pass0 (pa_cons (pv 7) pa_nil)))))) (fun _ _ _ _ _ => (pv 7))) (pe_lst pa_nil) (nomark _)) (pe_one (pe_cmpR (op_eqD hu) (pe_lc (own := [("_law_w", 7)]) (g := (gName 7)) (by rfl) scLaw.nd (pi_list (pv 4)) (blkOk_by (own := [("_law_w", 7)]) (N := ["_law_script", "_law_deck_here", "_law_go", "_law_ring", "_law_some", "_law_wide", "_law_due", "_law_w"]) (sc := defScope sLaw) (by decide +kernel)) (fun _ _ _ _ _ => (pg_name (i := 7) scLaw.nd rfl (by first | exact Or.inl rfl | exact Or.inr rfl))) (fun _ _ _ _ _ => pts_nil) (fun _ _ _ _ _ => (pe_ix (show IxR _ (rIxT K) from ix_tup) (pe_cal CJudge hr (by rfl) pass0 (pa_cons (pe_cal CLCode hr (by rfl) pass0 (pa_cons (pv 7) pa_nil)) pa_nil)) pe_int (fun _ _ => rfl)))) (pv 6) (nomark _))))))))))))))))))), ?_⟩
    refine ⟨.ref a, rfl, a, ns, rfl, hS, hlen, fun p q H1 s1 D1 np nq => ?_⟩
    refine ⟨12, rfl, by decide, by decide, ?_⟩
    rw [show (12 : Int).toNat = 12 from rfl]
    refine for_it walk_range (fun i σ H' => ∃ (y2 : Option V), σ = [some (.ref a), some (.ref p), y2, none, none, none, none, none] ∧ Dw p q (10000 * i) H')
      ⟨none, rfl, D1⟩ (fun _ _ _ _ _ => trivial) ?_ ?_
    · rintro i v σ H9 H2 hi ⟨y2, rfl, D2⟩ ⟨rfl, rfl⟩
      have hi4 : i < 12 := hi
      refine ⟨.ref p, rfl, p, q, _, rfl, D2, by omega, fun x pl H3 hO hP o3 D3 => ?_⟩
      obtain ⟨us, U⟩ := useful_ex hO
      obtain ⟨fw, lu⟩ := few_drawn hO U
      refine ⟨x, pl, 3, 5, 2, us, rfl, hP.up hid_sub, hO, by decide, by decide, lu, by decide, U, fw, fun H4 s4 => ⟨_, rfl, ?_⟩⟩
      exact iteF ⟨_, rfl, (D3.same s4).mono (by omega)⟩
    · rintro σ H2 ⟨y2, rfl, D2⟩
      clear D1 s1 np nq D2
      refine fun vr H3 s3 d3 => ?_
      obtain ⟨ra, rxs, rfl, hrs, hra⟩ : ∃ a xs, vr = .ref a ∧ SqT K H3 a xs ∧ DqAll K H3 xs (W1.ways.map mvD) := by
        have e : (PyData.tuple [.tuple [.int 0, .str "ab", .str "", .int 1], .tuple [.int 1, .str "", .str "a", .int 2], .tuple [.int 2, .str "b", .str "bb", .int 3], .tuple [.int 3, .str "a", .str "a", .int 0]]) = .tuple (W1.ways.map mvD) := by kernel_rfl
        have d3 : Dq K H3 vr (.tuple (W1.ways.map mvD)) := by rw [← e]; exact d3
        cases d3 with
        | tup hs ha => exact ⟨_, _, rfl, hs, ha⟩
      have dr : ∀ {G : Hp}, Same H3 G → Dq K G (.ref ra) (.tuple (W1.ways.map mvD)) := fun s => .tup (ex_t' s hrs) (hra.up s)
      have one : 1 ≤ sizeLine := by decide
      have D3 := dr (Same.refl H3)
      clear dr hra hrs
      refine fun pd1 np1 => ?_
      refine fun v2 H6 s6 d6 => ⟨_, rfl, fun v3 H7 s7 d7 => ?_⟩
      have su := same_upd (o := .dK []) np1
      have s67 := s6.trans s7
      refine ⟨s67 _ _ upd_same, wV 4 v2 (.ref ra) v3, rfl, by simp, ?_⟩
      obtain ⟨sW, V1⟩ := world_new (K := K) W1 4 rfl np1 s67 (d6.up s7) (D3.up (su.trans s67)) d7
      have D4 := D3.up sW
      generalize upd H7 pd1 (.dK (mergeK [] (wV 4 v2 (.ref ra) v3))) = H8 at V1 D4 ⊢
      clear su s67 s6 s7 d6 d7 sW np1 D3
      refine ⟨one, fun m nm => ?_⟩
      have A1 := HandsAt.one nm V1
      have D4 := D4.up (same_upd (o := .lst [.ref pd1]) nm)
      generalize upd H8 m (.lst [.ref pd1]) = G1 at A1 D4 ⊢
      clear V1 nm
      refine ⟨.ref m, rfl, .inl ⟨rfl, by obtain ⟨_, g, _⟩ := A1.at'; exact ⟨_, sqOf g⟩⟩, fun pd np => fun v1 H1 s1 d1 => ?_⟩
      have D5 := (D4.up (same_upd np)).up s1
      refine cutcat (m := ⟨3, [97, 97], [97], 0⟩) 3 rfl (by kernel_rfl) rfl D5 (by decide) (by decide) (by decide) fun v2 H2 s2 d2 => ?_
      clear D5
      refine fun v3 H3 s3 d3 => ?_
      have s13 := (s1.trans s2).trans s3
      refine ⟨s13 _ _ upd_same, wV 4 v1 v2 v3, rfl, by simp, ?_⟩
      obtain ⟨sW, V⟩ := world_new (K := K) W2 4 rfl np s13 (d1.up (s2.trans s3)) (d2.up s3) d3
      generalize upd H3 pd (.dK (mergeK [] (wV 4 v1 v2 v3))) = H4 at sW V ⊢
      dsimp only [tNil]
      refine (A1.up sW).app V (by decide) fun G2 kp A2 => ?_
      have D4 := dq_kpt kp _ _ (D4.up sW) (noLDs_mv _)
      clear s1 s2 s3 s13 d1 d2 d3 np sW V kp A1
      refine ⟨.ref m, rfl, .inl ⟨rfl, by obtain ⟨_, g, _⟩ := A2.at'; exact ⟨_, sqOf g⟩⟩, fun pd np => fun v1 H1 s1 d1 => ?_⟩
      have D5 := (D4.up (same_upd np)).up s1
      refine cutcat (m := ⟨3, [97, 97], [97], 0⟩) 3 rfl (by kernel_rfl) rfl D5 (by decide) (by decide) (by decide) fun v2 H2 s2 d2 => ?_
      clear D5
      refine ⟨Nat.zero_le _, fun p3 np3 => ?_⟩
      have s3 := same_upd (o := .tup []) np3
      have d3 : Dq K (upd H2 p3 (.tup [])) (.ref p3) (.tuple (nats W3.outs)) := .tup (stOf upd_same) .nil
      generalize upd H2 p3 (.tup []) = H3 at s3 d3 ⊢
      have s13 := (s1.trans s2).trans s3
      refine ⟨s13 _ _ upd_same, wV 4 v1 v2 (.ref p3), rfl, by simp, ?_⟩
      obtain ⟨sW, V⟩ := world_new (K := K) W3 4 rfl np s13 (d1.up (s2.trans s3)) (d2.up s3) d3
      generalize upd H3 pd (.dK (mergeK [] (wV 4 v1 v2 (.ref p3)))) = H4 at sW V ⊢
      dsimp only [tNil]
      refine (A2.up sW).app V (by decide) fun G3 kp A3 => ?_
      clear s1 s2 s3 s13 d1 d2 d3 np sW V kp D4 A2
      refine ⟨_, rfl, fun pd np => ⟨Nat.zero_le _, fun p1 np1 => ?_⟩⟩
      have s1 := same_upd (o := .tup []) np1
      have d1 : Dq K (upd (upd G3 pd (.dK [])) p1 (.tup [])) (.ref p1) (.tuple (nats W4.ins)) := .tup (stOf upd_same) .nil
      generalize upd (upd G3 pd (.dK [])) p1 (.tup []) = H1 at s1 d1 ⊢
      refine fun v2 H2 s2 d2 => fun v3 H3 s3 d3 => ?_
      have d2 := dq_e (d' := .tuple (W4.ways.map mvD)) (by kernel_rfl) d2
      have s13 := (s1.trans s2).trans s3
      refine ⟨s13 _ _ upd_same, wV 1 (.ref p1) v2 v3, rfl, by simp, ?_⟩
      obtain ⟨sW, V⟩ := world_new (K := K) W4 1 rfl np s13 (d1.up (s2.trans s3)) (d2.up s3) d3
      generalize upd H3 pd (.dK (mergeK [] (wV 1 (.ref p1) v2 v3))) = H4 at sW V ⊢
      dsimp only [tNil]
      refine ⟨one, fun l nl => ?_⟩
      have sl := same_upd (o := .lst [.ref pd]) nl
      refine ((A3.up sW).up sl).cat (V.up sl) upd_same (by decide) fun m4 G4 sG A4 => ?_
      clear s1 s2 s3 s13 d1 d2 d3 np np1 sW V A3 sl sG nl
      refine ⟨.ref m4, rfl, .inl ⟨rfl, by obtain ⟨_, g, _⟩ := A4.at'; exact ⟨_, sqOf g⟩⟩, fun pd np => fun v1 H1 s1 d1 => ?_⟩
      refine fun v2 H2 s2 d2 => fun v3 H3 s3 d3 => ?_
      have d2 := dq_e (d' := .tuple (W5.ways.map mvD)) (by kernel_rfl) d2
      have s13 := (s1.trans s2).trans s3
      refine ⟨s13 _ _ upd_same, wV 2 v1 v2 v3, rfl, by simp, ?_⟩
      obtain ⟨sW, V⟩ := world_new (K := K) W5 2 rfl np s13 (d1.up (s2.trans s3)) (d2.up s3) d3
      generalize upd H3 pd (.dK (mergeK [] (wV 2 v1 v2 v3))) = H4 at sW V ⊢
      dsimp only [tNil]
      refine (A4.up sW).app V (by decide) fun G5 kp A5 => ?_
      clear s1 s2 s3 s13 d1 d2 d3 np sW V kp A4
      refine fun vw H1 s1 d1 => ?_
      have d1 := dq_e (d' := .tuple ((W7.ways.take 5).map mvD)) (by kernel_rfl) d1
      obtain ⟨wa, rfl⟩ : ∃ x, vw = .ref x := by cases d1; exact ⟨_, rfl⟩
      refine catw (ns := [⟨2, [], [97, 98], 0⟩, ⟨0, [98], [], 3⟩, ⟨3, [], [97], 0⟩]) (by kernel_rfl) rfl d1 (by decide) (by decide) (by decide) fun wr H2 s2 D4 => ?_
      have A5 := (A5.up s1).up s2
      have D4 : Dq K H2 (.ref wr) (.tuple (W6.ways.map mvD)) := D4
      clear d1 s1 s2
      refine ⟨.ref m4, rfl, .inl ⟨rfl, by obtain ⟨_, g, _⟩ := A5.at'; exact ⟨_, sqOf g⟩⟩, fun pd np => fun v1 H1 s1 d1 => ?_⟩
      refine ⟨_, rfl, fun v3 H3 s3 d3 => ?_⟩
      have d2 := (D4.up (same_upd np)).up s1
      have s2 := Same.refl H1
      have s13 := (s1.trans s2).trans s3
      refine ⟨s13 _ _ upd_same, wV 4 v1 (.ref wr) v3, rfl, by simp, ?_⟩
      obtain ⟨sW, V⟩ := world_new (K := K) W6 4 rfl np s13 (d1.up (s2.trans s3)) (d2.up s3) d3
      generalize upd H3 pd (.dK (mergeK [] (wV 4 v1 (.ref wr) v3))) = H4 at sW V ⊢
      dsimp only [tNil]
      refine (A5.up sW).app V (by decide) fun G6 kp A6 => ?_
      have D4 := dq_kpt kp _ _ (D4.up sW) (noLDs_mv _)
      clear s1 s2 s3 s13 d1 d2 d3 np sW V kp A5
      refine ⟨.ref m4, rfl, .inl ⟨rfl, by obtain ⟨_, g, _⟩ := A6.at'; exact ⟨_, sqOf g⟩⟩, fun pd np => fun v1 H1 s1 d1 => ?_⟩
      have D5 := (D4.up (same_upd np)).up s1
      refine cutcat (m := ⟨3, [], [97, 97], 0⟩) 7 rfl (by kernel_rfl) rfl D5 (by decide) (by decide) (by decide) fun v2 H2 s2 d2 => fun v3 H3 s3 d3 => ?_
      clear D5
      have s13 := (s1.trans s2).trans s3
      refine ⟨s13 _ _ upd_same, wV 4 v1 v2 v3, rfl, by simp, ?_⟩
      obtain ⟨sW, V⟩ := world_new (K := K) W7 4 rfl np s13 (d1.up (s2.trans s3)) (d2.up s3) d3
      generalize upd H3 pd (.dK (mergeK [] (wV 4 v1 v2 v3))) = H4 at sW V ⊢
      dsimp only [tNil]
      refine (A6.up sW).app V (by decide) fun G7 kp A7 => ?_
      clear s1 s2 s3 s13 d1 d2 d3 np sW V kp D4 A6
      refine fun vd H1 s1 d1 => ?_
      have A7 := A7.up s1
      obtain ⟨ws, gW, lW, hW⟩ := A7.at'
      clear A7 s1
      have lW : ws.length = 7 := lW
      have hW : ∀ (j : Nat) (x : Addr), ws[j]? = some x → ∃ pl b, hands[j]? = some (pl, b) ∧ Hand pl b ∧ WorldAt K H1 x pl := fun j x hx => by
        have hj : j < 7 := by have := (List.getElem?_eq_some_iff.mp hx).1; omega
        obtain ⟨h, eh⟩ : ∃ h, hands[j]? = some h := ⟨_, List.getElem?_eq_getElem (show j < hands.length from hj)⟩
        have := (hW j x h.1 hx (by show (hands.map Prod.fst)[j]? = _; rw [List.getElem?_map, eh]; rfl)).2
        exact ⟨h.1, h.2, eh, hands_ok h (List.mem_of_getElem? eh), this.up wo_sub⟩
      refine ⟨.ref m4, rfl, m4, rfl, ⟨_, sqOf gW⟩, fun D nD => ?_⟩
      refine lc_it walk_list (fun j H' => H' D = some (.lst []) ∧ Same H1 H') ⟨upd_same, same_upd nD⟩ (fun j H' _ z => ex_l' z.2 (sqOf gW)) ?_ ?_
      · rintro j v H9 H4 hj ⟨gD, s4⟩ ⟨rfl, hv⟩
        rw [List.getElem?_map] at hv
        obtain ⟨x, hx, rfl⟩ : ∃ x, ws[j]? = some x ∧ v = .ref x := by
          cases e : ws[j]? with
          | none => rw [e] at hv; cases hv
          | some x => rw [e] at hv; exact ⟨x, rfl, (Option.some.inj hv).symm⟩
        obtain ⟨pl, b, eh, ⟨hO, us, U, few, u4, _⟩, W⟩ := hW j x hx
        refine ⟨rfl, _, rfl, x, pl, 4, 8, 2, us, rfl, W.up s4, hO, by decide, by decide, by omega, by decide, U, few, fun H5 s5 => ⟨_, rfl, ?_⟩⟩
        exact iteF ⟨s5 _ _ gD, s4.trans s5⟩
      rintro H2 ⟨gD, s2⟩
      refine ⟨Nat.zero_le _, fun e ne => ?_⟩
      have s3 := same_upd (o := .lst []) ne
      have ge : upd H2 e (.lst []) e = some (.lst []) := upd_same
      have gD := s3 _ _ gD
      have sW := s2.trans s3
      generalize upd H2 e (.lst []) = H3 at s3 ge gD sW ⊢
      refine ⟨D, e, _, rfl, rfl, sqOf gD, sqOf ge, ?_⟩
      rw [decide_eq_true rfl]
      refine ⟨true, rfl, ?_⟩
      refine iteT ?_
      refine ⟨.ref m4, rfl, m4, rfl, ⟨_, sqOf (sW _ _ gW)⟩, fun E2 nE => ?_⟩
      refine lc_it walk_list (fun j H' => H' E2 = some (.lst ((hands.take j).map labV)) ∧ Same H3 (wo E2 H')) ⟨upd_same, by rw [wo_upd, wo_id nE]; exact Same.refl _⟩ (fun j H' _ z => ex_l' (z.2.trans wo_sub) (sqOf (sW _ _ gW))) ?_ ?_
      · rintro j v H9 H4 hj ⟨gE, s4⟩ ⟨rfl, hv⟩
        rw [List.getElem?_map] at hv
        obtain ⟨x, hx, rfl⟩ : ∃ x, ws[j]? = some x ∧ v = .ref x := by
          cases e : ws[j]? with
          | none => rw [e] at hv; cases hv
          | some x => rw [e] at hv; exact ⟨x, rfl, (Option.some.inj hv).symm⟩
        obtain ⟨pl, b, eh, ⟨hO, us, U, few, u4, hb⟩, W⟩ := hW j x hx
        have hj7 : j < 7 := by have := (List.getElem?_eq_some_iff.mp hx).1; omega
        refine ⟨rfl, ?_⟩
        dsimp only [tYes]
        refine iteT ⟨_, rfl, x, pl, 4, 8, 2, rfl, W.up (sW.trans (s4.trans wo_sub)), hO, by decide, by decide, by decide, fun c H5 s5 nc hc => ?_⟩
        refine ⟨c, pl, 4, 8, 2, rfl, hc, hO, by decide, by decide, by decide, fun v H6 us1 d s6 e U1 J DJ SJ => ?_⟩
        obtain rfl := useful_uniq U U1
        have hl : isLead d = b := by
          have q := judged_lead U J
          cases h : isLead d with
          | true => exact (hb.mpr (q.mp h)).symm
          | false =>
            cases b with
            | false => rfl
            | true => have := q.mpr (hb.mp rfl); rw [h] at this; cases this
        obtain ⟨r1, hd1⟩ := judged_str J
        rw [hl] at hd1
        obtain ⟨av, xs, rfl, hs⟩ : ∃ a xs, v = .ref a ∧ SqT K H6 a (labV (pl, b) :: xs) := by
          rw [hd1] at e
          cases e with
          | tup hs ha =>
            cases ha with
            | cons z1 z => cases z1; exact ⟨_, _, rfl, hs⟩
        refine ⟨av, _, 0, _, rfl, rfl, hs, atI_nat (j := 0) rfl, _, (s5.trans s6) _ _ gE, lt_sz (by rw [List.length_map, List.length_take]; omega), ?_, ?_⟩
        · rw [upd_same, take_snoc eh, List.map_append]; rfl
        · rw [wo_upd]; exact s4.trans (same_wo (s5.trans s6))
      rintro H4 ⟨gE, s4⟩
      rw [show (hands.take (ws.map V.ref).length) = hands by rw [List.length_map, lW]; rfl] at gE
      have dE : Dq K H4 (.ref E2) (.list (hands.map labD)) := .lst (sqOf gE) (labs _)
      have dd := d1.up (sW.trans (s4.trans wo_sub))
      refine ⟨_, rfl, _, _, dp_of _ _ dE (by kernel_rfl), dp_of _ _ dd (by kernel_rfl), by decide +kernel, by decide +kernel, ?_⟩
      have e : PyData.eqv (.list (hands.map labD)) (.list [.str "leads", .str "ring", .str "leads", .str "leads", .str "leads", .str "leads", .str "ring"]) = true := by decide +kernel
      rw [e]
      exact kQ _
end
end KP
namespace KP
open PySem PySem.Spec PyProof.Rows L2 EL
theorem gup {P : Program} {w : World} {K : PySem.W.Frag} {mg : Str → Option Value} {base : Heap} {j k : Nat} {f : Addr} {fd : FuncData} {ps : List Str} {sp : Sp} (F : FnG P w K mg base j f fd ps sp) (h : j ≤ k) : FnG P w K mg base k f fd ps sp := ⟨F.ln, fun hr => F.go (hr.mono h)⟩
theorem all_mk {l : PySem.W.OpenLaw} {w : World} {K : PySem.W.Frag} {h : Heap} {mg : Str → Option Value} {fa f0 f1 f2 f3 f4 f5 f6 f7 f8 f9 f10 f11 f12 f13 f14 f15 f16 f17 f18 f19 f20 f21 f22 f23 f24 f25 f26 f27 f28 f29 f30 f31 f32 f33 f34 f35 f36 f37 f38 f39 f40 f41 f42 f43 f44 f45 CPacer : Addr} {tLETTERS tLEADS tRING : Tok} (X : K.In h) (G : h.Ns mainGlobals mg) (hfa : mg "law" = some (.ref fa))
    (aPacer : PySem.W.nsIn K mainGlobals "Pacer" = some (some (.ref CPacer)))
    {od0 an0 : Option Addr} {sl0 : Array (Option Value)} {oc0 kV0 dc0 pm0 cd0 ct0 : Value} (a0 : PySem.W.nsIn K mainGlobals "is_text" = some (some (.ref f0))) (l0 : K.lookup f0 = some ⟨oc0, od0, .func (PySem.W.fnOf "is_text" "is_text" (defArgs sIsText) (defBody sIsText) (defScope sIsText) .none kV0 dc0 pm0 an0 cd0 ct0), sl0⟩) (c0 : PySem.W.codeIn K cd0 "is_text" = true) (k0 : PySem.W.keepIn K (.ref f0) = true)
    {od1 an1 : Option Addr} {sl1 : Array (Option Value)} {oc1 kV1 dc1 pm1 cd1 ct1 : Value} (a1 : PySem.W.nsIn K mainGlobals "is_integer" = some (some (.ref f1))) (l1 : K.lookup f1 = some ⟨oc1, od1, .func (PySem.W.fnOf "is_integer" "is_integer" (defArgs sIsInteger) (defBody sIsInteger) (defScope sIsInteger) .none kV1 dc1 pm1 an1 cd1 ct1), sl1⟩) (c1 : PySem.W.codeIn K cd1 "is_integer" = true) (k1 : PySem.W.keepIn K (.ref f1) = true)
    {od2 an2 : Option Addr} {sl2 : Array (Option Value)} {oc2 kV2 dc2 pm2 cd2 ct2 : Value} (a2 : PySem.W.nsIn K mainGlobals "is_size" = some (some (.ref f2))) (l2 : K.lookup f2 = some ⟨oc2, od2, .func (PySem.W.fnOf "is_size" "is_size" (defArgs sIsSize) (defBody sIsSize) (defScope sIsSize) .none kV2 dc2 pm2 an2 cd2 ct2), sl2⟩) (c2 : PySem.W.codeIn K cd2 "is_size" = true) (k2 : PySem.W.keepIn K (.ref f2) = true)
    {od3 an3 : Option Addr} {sl3 : Array (Option Value)} {oc3 kV3 dc3 pm3 cd3 ct3 : Value} (a3 : PySem.W.nsIn K mainGlobals "is_state" = some (some (.ref f3))) (l3 : K.lookup f3 = some ⟨oc3, od3, .func (PySem.W.fnOf "is_state" "is_state" (defArgs sIsState) (defBody sIsState) (defScope sIsState) .none kV3 dc3 pm3 an3 cd3 ct3), sl3⟩) (c3 : PySem.W.codeIn K cd3 "is_state" = true) (k3 : PySem.W.keepIn K (.ref f3) = true)
    {od4 an4 : Option Addr} {sl4 : Array (Option Value)} {oc4 kV4 dc4 pm4 cd4 ct4 : Value} (a4 : PySem.W.nsIn K mainGlobals "is_tuple_of_states" = some (some (.ref f4))) (l4 : K.lookup f4 = some ⟨oc4, od4, .func (PySem.W.fnOf "is_tuple_of_states" "is_tuple_of_states" (defArgs sIsTupleOfStates) (defBody sIsTupleOfStates) (defScope sIsTupleOfStates) .none kV4 dc4 pm4 an4 cd4 ct4), sl4⟩) (c4 : PySem.W.codeIn K cd4 "is_tuple_of_states" = true) (k4 : PySem.W.keepIn K (.ref f4) = true)
    {od5 an5 : Option Addr} {sl5 : Array (Option Value)} {oc5 kV5 dc5 pm5 cd5 ct5 : Value} (a5 : PySem.W.nsIn K mainGlobals "is_move" = some (some (.ref f5))) (l5 : K.lookup f5 = some ⟨oc5, od5, .func (PySem.W.fnOf "is_move" "is_move" (defArgs sIsMove) (defBody sIsMove) (defScope sIsMove) .none kV5 dc5 pm5 an5 cd5 ct5), sl5⟩) (c5 : PySem.W.codeIn K cd5 "is_move" = true) (k5 : PySem.W.keepIn K (.ref f5) = true)
    {od6 an6 : Option Addr} {sl6 : Array (Option Value)} {oc6 kV6 dc6 pm6 cd6 ct6 : Value} (a6 : PySem.W.nsIn K mainGlobals "is_tuple_of_moves" = some (some (.ref f6))) (l6 : K.lookup f6 = some ⟨oc6, od6, .func (PySem.W.fnOf "is_tuple_of_moves" "is_tuple_of_moves" (defArgs sIsTupleOfMoves) (defBody sIsTupleOfMoves) (defScope sIsTupleOfMoves) .none kV6 dc6 pm6 an6 cd6 ct6), sl6⟩) (c6 : PySem.W.codeIn K cd6 "is_tuple_of_moves" = true) (k6 : PySem.W.keepIn K (.ref f6) = true)
    {od7 an7 : Option Addr} {sl7 : Array (Option Value)} {oc7 kV7 dc7 pm7 cd7 ct7 : Value} (a7 : PySem.W.findIn K (.ref CPacer) "__init__" = some (some (.ref f7))) (i7 : PySem.W.isFn K (.ref f7) = true) (l7 : K.lookup f7 = some ⟨oc7, od7, .func (PySem.W.fnOf "__init__" "Pacer.__init__" (defArgs sPacerInit) (defBody sPacerInit) (defScope sPacerInit) .none kV7 dc7 pm7 an7 cd7 ct7), sl7⟩) (c7 : PySem.W.codeIn K cd7 "Pacer.__init__" = true) (k7 : PySem.W.keepIn K (.ref f7) = true)
    {od8 an8 : Option Addr} {sl8 : Array (Option Value)} {oc8 kV8 dc8 pm8 cd8 ct8 : Value} (a8 : PySem.W.nsIn K mainGlobals "reached" = some (some (.ref f8))) (l8 : K.lookup f8 = some ⟨oc8, od8, .func (PySem.W.fnOf "reached" "reached" (defArgs sReached) (defBody sReached) (defScope sReached) .none kV8 dc8 pm8 an8 cd8 ct8), sl8⟩) (c8 : PySem.W.codeIn K cd8 "reached" = true) (k8 : PySem.W.keepIn K (.ref f8) = true)
    {od9 an9 : Option Addr} {sl9 : Array (Option Value)} {oc9 kV9 dc9 pm9 cd9 ct9 : Value} (a9 : PySem.W.nsIn K mainGlobals "turned_about" = some (some (.ref f9))) (l9 : K.lookup f9 = some ⟨oc9, od9, .func (PySem.W.fnOf "turned_about" "turned_about" (defArgs sTurnedAbout) (defBody sTurnedAbout) (defScope sTurnedAbout) .none kV9 dc9 pm9 an9 cd9 ct9), sl9⟩) (c9 : PySem.W.codeIn K cd9 "turned_about" = true) (k9 : PySem.W.keepIn K (.ref f9) = true)
    {od10 an10 : Option Addr} {sl10 : Array (Option Value)} {oc10 kV10 dc10 pm10 cd10 ct10 : Value} (a10 : PySem.W.nsIn K mainGlobals "useful_places" = some (some (.ref f10))) (l10 : K.lookup f10 = some ⟨oc10, od10, .func (PySem.W.fnOf "useful_places" "useful_places" (defArgs sUsefulPlaces) (defBody sUsefulPlaces) (defScope sUsefulPlaces) .none kV10 dc10 pm10 an10 cd10 ct10), sl10⟩) (c10 : PySem.W.codeIn K cd10 "useful_places" = true) (k10 : PySem.W.keepIn K (.ref f10) = true)
    {od11 an11 : Option Addr} {sl11 : Array (Option Value)} {oc11 kV11 dc11 pm11 cd11 ct11 : Value} (a11 : PySem.W.nsIn K mainGlobals "useful" = some (some (.ref f11))) (l11 : K.lookup f11 = some ⟨oc11, od11, .func (PySem.W.fnOf "useful" "useful" (defArgs sUseful) (defBody sUseful) (defScope sUseful) .none kV11 dc11 pm11 an11 cd11 ct11), sl11⟩) (c11 : PySem.W.codeIn K cd11 "useful" = true) (k11 : PySem.W.keepIn K (.ref f11) = true)
    {od12 an12 : Option Addr} {sl12 : Array (Option Value)} {oc12 kV12 dc12 pm12 cd12 ct12 : Value} (a12 : PySem.W.nsIn K mainGlobals "gain_of" = some (some (.ref f12))) (l12 : K.lookup f12 = some ⟨oc12, od12, .func (PySem.W.fnOf "gain_of" "gain_of" (defArgs sGainOf) (defBody sGainOf) (defScope sGainOf) .none kV12 dc12 pm12 an12 cd12 ct12), sl12⟩) (c12 : PySem.W.codeIn K cd12 "gain_of" = true) (k12 : PySem.W.keepIn K (.ref f12) = true)
    {od13 an13 : Option Addr} {sl13 : Array (Option Value)} {oc13 kV13 dc13 pm13 cd13 ct13 : Value} (a13 : PySem.W.nsIn K mainGlobals "useful_moves" = some (some (.ref f13))) (l13 : K.lookup f13 = some ⟨oc13, od13, .func (PySem.W.fnOf "useful_moves" "useful_moves" (defArgs sUsefulMoves) (defBody sUsefulMoves) (defScope sUsefulMoves) .none kV13 dc13 pm13 an13 cd13 ct13), sl13⟩) (c13 : PySem.W.codeIn K cd13 "useful_moves" = true) (k13 : PySem.W.keepIn K (.ref f13) = true)
    {od14 an14 : Option Addr} {sl14 : Array (Option Value)} {oc14 kV14 dc14 pm14 cd14 ct14 : Value} (a14 : PySem.W.nsIn K mainGlobals "farthest" = some (some (.ref f14))) (l14 : K.lookup f14 = some ⟨oc14, od14, .func (PySem.W.fnOf "farthest" "farthest" (defArgs sFarthest) (defBody sFarthest) (defScope sFarthest) .none kV14 dc14 pm14 an14 cd14 ct14), sl14⟩) (c14 : PySem.W.codeIn K cd14 "farthest" = true) (k14 : PySem.W.keepIn K (.ref f14) = true)
    {od15 an15 : Option Addr} {sl15 : Array (Option Value)} {oc15 kV15 dc15 pm15 cd15 ct15 : Value} (a15 : PySem.W.nsIn K mainGlobals "places_met_leads" = some (some (.ref f15))) (l15 : K.lookup f15 = some ⟨oc15, od15, .func (PySem.W.fnOf "places_met" "places_met" (defArgs sPlacesMet1) (defBody sPlacesMet1) (defScope sPlacesMet1) .none kV15 dc15 pm15 an15 cd15 ct15), sl15⟩) (c15 : PySem.W.codeIn K cd15 "places_met" = true) (k15 : PySem.W.keepIn K (.ref f15) = true)
    {od16 an16 : Option Addr} {sl16 : Array (Option Value)} {oc16 kV16 dc16 pm16 cd16 ct16 : Value} (a16 : PySem.W.nsIn K mainGlobals "leads_by_state" = some (some (.ref f16))) (l16 : K.lookup f16 = some ⟨oc16, od16, .func (PySem.W.fnOf "leads_by_state" "leads_by_state" (defArgs sLeadsByState) (defBody sLeadsByState) (defScope sLeadsByState) .none kV16 dc16 pm16 an16 cd16 ct16), sl16⟩) (c16 : PySem.W.codeIn K cd16 "leads_by_state" = true) (k16 : PySem.W.keepIn K (.ref f16) = true)
    {od17 an17 : Option Addr} {sl17 : Array (Option Value)} {oc17 kV17 dc17 pm17 cd17 ct17 : Value} (a17 : PySem.W.nsIn K mainGlobals "way_to" = some (some (.ref f17))) (l17 : K.lookup f17 = some ⟨oc17, od17, .func (PySem.W.fnOf "way_to" "way_to" (defArgs sWayTo) (defBody sWayTo) (defScope sWayTo) .none kV17 dc17 pm17 an17 cd17 ct17), sl17⟩) (c17 : PySem.W.codeIn K cd17 "way_to" = true) (k17 : PySem.W.keepIn K (.ref f17) = true)
    {od18 an18 : Option Addr} {sl18 : Array (Option Value)} {oc18 kV18 dc18 pm18 cd18 ct18 : Value} (a18 : PySem.W.nsIn K mainGlobals "ring_between" = some (some (.ref f18))) (l18 : K.lookup f18 = some ⟨oc18, od18, .func (PySem.W.fnOf "ring_between" "ring_between" (defArgs sRingBetween) (defBody sRingBetween) (defScope sRingBetween) .none kV18 dc18 pm18 an18 cd18 ct18), sl18⟩) (c18 : PySem.W.codeIn K cd18 "ring_between" = true) (k18 : PySem.W.keepIn K (.ref f18) = true)
    {od19 an19 : Option Addr} {sl19 : Array (Option Value)} {oc19 kV19 dc19 pm19 cd19 ct19 : Value} (a19 : PySem.W.nsIn K mainGlobals "ways_on" = some (some (.ref f19))) (l19 : K.lookup f19 = some ⟨oc19, od19, .func (PySem.W.fnOf "ways_on" "ways_on" (defArgs sWaysOn) (defBody sWaysOn) (defScope sWaysOn) .none kV19 dc19 pm19 an19 cd19 ct19), sl19⟩) (c19 : PySem.W.codeIn K cd19 "ways_on" = true) (k19 : PySem.W.keepIn K (.ref f19) = true)
    {od20 an20 : Option Addr} {sl20 : Array (Option Value)} {oc20 kV20 dc20 pm20 cd20 ct20 : Value} (a20 : PySem.W.nsIn K mainGlobals "ring_paper" = some (some (.ref f20))) (l20 : K.lookup f20 = some ⟨oc20, od20, .func (PySem.W.fnOf "ring_paper" "ring_paper" (defArgs sRingPaper) (defBody sRingPaper) (defScope sRingPaper) .none kV20 dc20 pm20 an20 cd20 ct20), sl20⟩) (c20 : PySem.W.codeIn K cd20 "ring_paper" = true) (k20 : PySem.W.keepIn K (.ref f20) = true)
    {od21 an21 : Option Addr} {sl21 : Array (Option Value)} {oc21 kV21 dc21 pm21 cd21 ct21 : Value} (a21 : PySem.W.nsIn K mainGlobals "judge" = some (some (.ref f21))) (l21 : K.lookup f21 = some ⟨oc21, od21, .func (PySem.W.fnOf "judge" "judge" (defArgs sJudge) (defBody sJudge) (defScope sJudge) .none kV21 dc21 pm21 an21 cd21 ct21), sl21⟩) (c21 : PySem.W.codeIn K cd21 "judge" = true) (k21 : PySem.W.keepIn K (.ref f21) = true)
    {od22 an22 : Option Addr} {sl22 : Array (Option Value)} {oc22 kV22 dc22 pm22 cd22 ct22 : Value} (a22 : PySem.W.nsIn K mainGlobals "is_even" = some (some (.ref f22))) (l22 : K.lookup f22 = some ⟨oc22, od22, .func (PySem.W.fnOf "is_even" "is_even" (defArgs sIsEven) (defBody sIsEven) (defScope sIsEven) .none kV22 dc22 pm22 an22 cd22 ct22), sl22⟩) (c22 : PySem.W.codeIn K cd22 "is_even" = true) (k22 : PySem.W.keepIn K (.ref f22) = true)
    {od23 an23 : Option Addr} {sl23 : Array (Option Value)} {oc23 kV23 dc23 pm23 cd23 ct23 : Value} (a23 : PySem.W.nsIn K mainGlobals "is_bound" = some (some (.ref f23))) (l23 : K.lookup f23 = some ⟨oc23, od23, .func (PySem.W.fnOf "is_bound" "is_bound" (defArgs sIsBound) (defBody sIsBound) (defScope sIsBound) .none kV23 dc23 pm23 an23 cd23 ct23), sl23⟩) (c23 : PySem.W.codeIn K cd23 "is_bound" = true) (k23 : PySem.W.keepIn K (.ref f23) = true)
    {od24 an24 : Option Addr} {sl24 : Array (Option Value)} {oc24 kV24 dc24 pm24 cd24 ct24 : Value} (a24 : PySem.W.nsIn K mainGlobals "state_behind" = some (some (.ref f24))) (l24 : K.lookup f24 = some ⟨oc24, od24, .func (PySem.W.fnOf "state_behind" "state_behind" (defArgs sStateBehind) (defBody sStateBehind) (defScope sStateBehind) .none kV24 dc24 pm24 an24 cd24 ct24), sl24⟩) (c24 : PySem.W.codeIn K cd24 "state_behind" = true) (k24 : PySem.W.keepIn K (.ref f24) = true)
    {od25 an25 : Option Addr} {sl25 : Array (Option Value)} {oc25 kV25 dc25 pm25 cd25 ct25 : Value} (a25 : PySem.W.nsIn K mainGlobals "ring_holds" = some (some (.ref f25))) (l25 : K.lookup f25 = some ⟨oc25, od25, .func (PySem.W.fnOf "ring_holds" "ring_holds" (defArgs sRingHolds) (defBody sRingHolds) (defScope sRingHolds) .none kV25 dc25 pm25 an25 cd25 ct25), sl25⟩) (c25 : PySem.W.codeIn K cd25 "ring_holds" = true) (k25 : PySem.W.keepIn K (.ref f25) = true)
    {od26 an26 : Option Addr} {sl26 : Array (Option Value)} {oc26 kV26 dc26 pm26 cd26 ct26 : Value} (a26 : PySem.W.nsIn K mainGlobals "bounds_hold" = some (some (.ref f26))) (l26 : K.lookup f26 = some ⟨oc26, od26, .func (PySem.W.fnOf "bounds_hold" "bounds_hold" (defArgs sBoundsHold) (defBody sBoundsHold) (defScope sBoundsHold) .none kV26 dc26 pm26 an26 cd26 ct26), sl26⟩) (c26 : PySem.W.codeIn K cd26 "bounds_hold" = true) (k26 : PySem.W.keepIn K (.ref f26) = true)
    {od27 an27 : Option Addr} {sl27 : Array (Option Value)} {oc27 kV27 dc27 pm27 cd27 ct27 : Value} (a27 : PySem.W.nsIn K mainGlobals "judge_holds" = some (some (.ref f27))) (l27 : K.lookup f27 = some ⟨oc27, od27, .func (PySem.W.fnOf "judge_holds" "judge_holds" (defArgs sJudgeHolds) (defBody sJudgeHolds) (defScope sJudgeHolds) .none kV27 dc27 pm27 an27 cd27 ct27), sl27⟩) (c27 : PySem.W.codeIn K cd27 "judge_holds" = true) (k27 : PySem.W.keepIn K (.ref f27) = true)
    {od28 an28 : Option Addr} {sl28 : Array (Option Value)} {oc28 kV28 dc28 pm28 cd28 ct28 : Value} (a28 : PySem.W.nsIn K mainGlobals "_law_deck" = some (some (.ref f28))) (l28 : K.lookup f28 = some ⟨oc28, od28, .func (PySem.W.fnOf "_law_deck" "_law_deck" (defArgs sLDeck) (defBody sLDeck) (defScope sLDeck) .none kV28 dc28 pm28 an28 cd28 ct28), sl28⟩) (c28 : PySem.W.codeIn K cd28 "_law_deck" = true) (k28 : PySem.W.keepIn K (.ref f28) = true)
    {od29 an29 : Option Addr} {sl29 : Array (Option Value)} {oc29 kV29 dc29 pm29 cd29 ct29 : Value} (a29 : PySem.W.nsIn K mainGlobals "_law_draw" = some (some (.ref f29))) (l29 : K.lookup f29 = some ⟨oc29, od29, .func (PySem.W.fnOf "_law_draw" "_law_draw" (defArgs sLDraw) (defBody sLDraw) (defScope sLDraw) .none kV29 dc29 pm29 an29 cd29 ct29), sl29⟩) (c29 : PySem.W.codeIn K cd29 "_law_draw" = true) (k29 : PySem.W.keepIn K (.ref f29) = true)
    {od30 an30 : Option Addr} {sl30 : Array (Option Value)} {oc30 kV30 dc30 pm30 cd30 ct30 : Value} (a30 : PySem.W.nsIn K mainGlobals "_law_pick" = some (some (.ref f30))) (l30 : K.lookup f30 = some ⟨oc30, od30, .func (PySem.W.fnOf "_law_pick" "_law_pick" (defArgs sLPick) (defBody sLPick) (defScope sLPick) .none kV30 dc30 pm30 an30 cd30 ct30), sl30⟩) (c30 : PySem.W.codeIn K cd30 "_law_pick" = true) (k30 : PySem.W.keepIn K (.ref f30) = true)
    {od31 an31 : Option Addr} {sl31 : Array (Option Value)} {oc31 kV31 dc31 pm31 cd31 ct31 : Value} (a31 : PySem.W.nsIn K mainGlobals "_law_word" = some (some (.ref f31))) (l31 : K.lookup f31 = some ⟨oc31, od31, .func (PySem.W.fnOf "_law_word" "_law_word" (defArgs sLWord) (defBody sLWord) (defScope sLWord) .none kV31 dc31 pm31 an31 cd31 ct31), sl31⟩) (c31 : PySem.W.codeIn K cd31 "_law_word" = true) (k31 : PySem.W.keepIn K (.ref f31) = true)
    {od32 an32 : Option Addr} {sl32 : Array (Option Value)} {oc32 kV32 dc32 pm32 cd32 ct32 : Value} (a32 : PySem.W.nsIn K mainGlobals "_law_with_spots" = some (some (.ref f32))) (l32 : K.lookup f32 = some ⟨oc32, od32, .func (PySem.W.fnOf "_law_with_spots" "_law_with_spots" (defArgs sLWithSpots) (defBody sLWithSpots) (defScope sLWithSpots) .none kV32 dc32 pm32 an32 cd32 ct32), sl32⟩) (c32 : PySem.W.codeIn K cd32 "_law_with_spots" = true) (k32 : PySem.W.keepIn K (.ref f32) = true)
    {od33 an33 : Option Addr} {sl33 : Array (Option Value)} {oc33 kV33 dc33 pm33 cd33 ct33 : Value} (a33 : PySem.W.nsIn K mainGlobals "_law_even_world" = some (some (.ref f33))) (l33 : K.lookup f33 = some ⟨oc33, od33, .func (PySem.W.fnOf "_law_even_world" "_law_even_world" (defArgs sLEvenWorld) (defBody sLEvenWorld) (defScope sLEvenWorld) .none kV33 dc33 pm33 an33 cd33 ct33), sl33⟩) (c33 : PySem.W.codeIn K cd33 "_law_even_world" = true) (k33 : PySem.W.keepIn K (.ref f33) = true)
    {od34 an34 : Option Addr} {sl34 : Array (Option Value)} {oc34 kV34 dc34 pm34 cd34 ct34 : Value} (a34 : PySem.W.nsIn K mainGlobals "_law_world" = some (some (.ref f34))) (l34 : K.lookup f34 = some ⟨oc34, od34, .func (PySem.W.fnOf "_law_world" "_law_world" (defArgs sLWorld) (defBody sLWorld) (defScope sLWorld) .none kV34 dc34 pm34 an34 cd34 ct34), sl34⟩) (c34 : PySem.W.codeIn K cd34 "_law_world" = true) (k34 : PySem.W.keepIn K (.ref f34) = true)
    {od35 an35 : Option Addr} {sl35 : Array (Option Value)} {oc35 kV35 dc35 pm35 cd35 ct35 : Value} (a35 : PySem.W.nsIn K mainGlobals "_law_code" = some (some (.ref f35))) (l35 : K.lookup f35 = some ⟨oc35, od35, .func (PySem.W.fnOf "_law_code" "_law_code" (defArgs sLCode) (defBody sLCode) (defScope sLCode) .none kV35 dc35 pm35 an35 cd35 ct35), sl35⟩) (c35 : PySem.W.codeIn K cd35 "_law_code" = true) (k35 : PySem.W.keepIn K (.ref f35) = true)
    {od36 an36 : Option Addr} {sl36 : Array (Option Value)} {oc36 kV36 dc36 pm36 cd36 ct36 : Value} (a36 : PySem.W.nsIn K mainGlobals "_law_used" = some (some (.ref f36))) (l36 : K.lookup f36 = some ⟨oc36, od36, .func (PySem.W.fnOf "_law_used" "_law_used" (defArgs sLUsed) (defBody sLUsed) (defScope sLUsed) .none kV36 dc36 pm36 an36 cd36 ct36), sl36⟩) (c36 : PySem.W.codeIn K cd36 "_law_used" = true) (k36 : PySem.W.keepIn K (.ref f36) = true)
    {od37 an37 : Option Addr} {sl37 : Array (Option Value)} {oc37 kV37 dc37 pm37 cd37 ct37 : Value} (a37 : PySem.W.nsIn K mainGlobals "_law_is_apart" = some (some (.ref f37))) (l37 : K.lookup f37 = some ⟨oc37, od37, .func (PySem.W.fnOf "_law_is_apart" "_law_is_apart" (defArgs sLIsApart) (defBody sLIsApart) (defScope sLIsApart) .none kV37 dc37 pm37 an37 cd37 ct37), sl37⟩) (c37 : PySem.W.codeIn K cd37 "_law_is_apart" = true) (k37 : PySem.W.keepIn K (.ref f37) = true)
    {od38 an38 : Option Addr} {sl38 : Array (Option Value)} {oc38 kV38 dc38 pm38 cd38 ct38 : Value} (a38 : PySem.W.nsIn K mainGlobals "_law_closed" = some (some (.ref f38))) (l38 : K.lookup f38 = some ⟨oc38, od38, .func (PySem.W.fnOf "_law_closed" "_law_closed" (defArgs sLClosed) (defBody sLClosed) (defScope sLClosed) .none kV38 dc38 pm38 an38 cd38 ct38), sl38⟩) (c38 : PySem.W.codeIn K cd38 "_law_closed" = true) (k38 : PySem.W.keepIn K (.ref f38) = true)
    {od39 an39 : Option Addr} {sl39 : Array (Option Value)} {oc39 kV39 dc39 pm39 cd39 ct39 : Value} (a39 : PySem.W.nsIn K mainGlobals "_law_heights" = some (some (.ref f39))) (l39 : K.lookup f39 = some ⟨oc39, od39, .func (PySem.W.fnOf "_law_heights" "_law_heights" (defArgs sLHeights) (defBody sLHeights) (defScope sLHeights) .none kV39 dc39 pm39 an39 cd39 ct39), sl39⟩) (c39 : PySem.W.codeIn K cd39 "_law_heights" = true) (k39 : PySem.W.keepIn K (.ref f39) = true)
    {od40 an40 : Option Addr} {sl40 : Array (Option Value)} {oc40 kV40 dc40 pm40 cd40 ct40 : Value} (a40 : PySem.W.nsIn K mainGlobals "_law_gain" = some (some (.ref f40))) (l40 : K.lookup f40 = some ⟨oc40, od40, .func (PySem.W.fnOf "_law_gain" "_law_gain" (defArgs sLGain) (defBody sLGain) (defScope sLGain) .none kV40 dc40 pm40 an40 cd40 ct40), sl40⟩) (c40 : PySem.W.codeIn K cd40 "_law_gain" = true) (k40 : PySem.W.keepIn K (.ref f40) = true)
    {od41 an41 : Option Addr} {sl41 : Array (Option Value)} {oc41 kV41 dc41 pm41 cd41 ct41 : Value} (a41 : PySem.W.nsIn K mainGlobals "_law_spot_behind" = some (some (.ref f41))) (l41 : K.lookup f41 = some ⟨oc41, od41, .func (PySem.W.fnOf "_law_spot_behind" "_law_spot_behind" (defArgs sLSpotBehind) (defBody sLSpotBehind) (defScope sLSpotBehind) .none kV41 dc41 pm41 an41 cd41 ct41), sl41⟩) (c41 : PySem.W.codeIn K cd41 "_law_spot_behind" = true) (k41 : PySem.W.keepIn K (.ref f41) = true)
    {od42 an42 : Option Addr} {sl42 : Array (Option Value)} {oc42 kV42 dc42 pm42 cd42 ct42 : Value} (a42 : PySem.W.nsIn K mainGlobals "_law_are_bounds" = some (some (.ref f42))) (l42 : K.lookup f42 = some ⟨oc42, od42, .func (PySem.W.fnOf "_law_are_bounds" "_law_are_bounds" (defArgs sLAreBounds) (defBody sLAreBounds) (defScope sLAreBounds) .none kV42 dc42 pm42 an42 cd42 ct42), sl42⟩) (c42 : PySem.W.codeIn K cd42 "_law_are_bounds" = true) (k42 : PySem.W.keepIn K (.ref f42) = true)
    {od43 an43 : Option Addr} {sl43 : Array (Option Value)} {oc43 kV43 dc43 pm43 cd43 ct43 : Value} (a43 : PySem.W.nsIn K mainGlobals "_law_is_paper" = some (some (.ref f43))) (l43 : K.lookup f43 = some ⟨oc43, od43, .func (PySem.W.fnOf "_law_is_paper" "_law_is_paper" (defArgs sLIsPaper) (defBody sLIsPaper) (defScope sLIsPaper) .none kV43 dc43 pm43 an43 cd43 ct43), sl43⟩) (c43 : PySem.W.codeIn K cd43 "_law_is_paper" = true) (k43 : PySem.W.keepIn K (.ref f43) = true)
    {od44 an44 : Option Addr} {sl44 : Array (Option Value)} {oc44 kV44 dc44 pm44 cd44 ct44 : Value} (a44 : PySem.W.nsIn K mainGlobals "_law_right" = some (some (.ref f44))) (l44 : K.lookup f44 = some ⟨oc44, od44, .func (PySem.W.fnOf "_law_right" "_law_right" (defArgs sLRight) (defBody sLRight) (defScope sLRight) .none kV44 dc44 pm44 an44 cd44 ct44), sl44⟩) (c44 : PySem.W.codeIn K cd44 "_law_right" = true) (k44 : PySem.W.keepIn K (.ref f44) = true)
    {od45 an45 : Option Addr} {sl45 : Array (Option Value)} {oc45 kV45 dc45 pm45 cd45 ct45 : Value} (a45 : PySem.W.nsIn K mainGlobals "law" = some (some (.ref f45))) (l45 : K.lookup f45 = some ⟨oc45, od45, .func (PySem.W.fnOf "law" "law" (defArgs sLaw) (defBody sLaw) (defScope sLaw) .none kV45 dc45 pm45 an45 cd45 ct45), sl45⟩) (c45 : PySem.W.codeIn K cd45 "law" = true) (k45 : PySem.W.keepIn K (.ref f45) = true)
    (pg : PySem.W.plainGet K CPacer Str.empty = true)
    (hd : PySem.W.hasDictIn K CPacer = true)
    (po : PySem.W.plainOver K CPacer = true)
    (sa : PySem.W.findIn K (.ref CPacer) "__setattr__" = some (some (.builtin "object.__setattr__")))
    (mk : PySem.W.makesIn K CPacer = true)
    (kc : PySem.W.keepIn K (.ref CPacer) = true)
    (nS : PySem.W.findIn K (.ref CPacer) "size" = some none)
    (nB : PySem.W.findIn K (.ref CPacer) "begins" = some none)
    (nM : PySem.W.findIn K (.ref CPacer) "moves" = some none)
    (nE : PySem.W.findIn K (.ref CPacer) "ends" = some none)
    (z_all : PySem.W.nsIn K mainGlobals "all" = some none)
    (z_isinstance : PySem.W.nsIn K mainGlobals "isinstance" = some none)
    (z_int : PySem.W.nsIn K mainGlobals "int" = some none)
    (z_bool : PySem.W.nsIn K mainGlobals "bool" = some none)
    (z_str : PySem.W.nsIn K mainGlobals "str" = some none)
    (z_tuple : PySem.W.nsIn K mainGlobals "tuple" = some none)
    (z_zip : PySem.W.nsIn K mainGlobals "zip" = some none)
    (z_len : PySem.W.nsIn K mainGlobals "len" = some none)
    (z_range : PySem.W.nsIn K mainGlobals "range" = some none)
    (z_list : PySem.W.nsIn K mainGlobals "list" = some none)
    (z_repr : PySem.W.nsIn K mainGlobals "repr" = some none)
    (z_set : PySem.W.nsIn K mainGlobals "set" = some none)
    (z_sorted : PySem.W.nsIn K mainGlobals "sorted" = some none)
    (z_enumerate : PySem.W.nsIn K mainGlobals "enumerate" = some none)
    (z_max : PySem.W.nsIn K mainGlobals "max" = some none)
    (z_min : PySem.W.nsIn K mainGlobals "min" = some none)
    (z_abs : PySem.W.nsIn K mainGlobals "abs" = some none)
    (z_sum : PySem.W.nsIn K mainGlobals "sum" = some none)
    (z_dict : PySem.W.nsIn K mainGlobals "dict" = some none)
    (zLETTERS : PySem.W.nsIn K mainGlobals "LETTERS" = some (some (.str "abcdefghijklmnopqrstuvwxyz" tLETTERS)))
    (zLEADS : PySem.W.nsIn K mainGlobals "LEADS" = some (some (.str "leads" tLEADS)))
    (zRING : PySem.W.nsIn K mainGlobals "RING" = some (some (.str "ring" tRING))) :
    ∃ fd : FuncData, (∀ (s : Shared) (v : Value), BindsTo s fd ⟨[v], []⟩ [("_law_script", v)]) ∧ ∀ base : Heap, K.In base → base.Ns mainGlobals mg → FnG l.prog w K mg base 9 fa fd ["_law_script"] (spLaw K) := by
  have e := hfa.symm.trans (PySem.W.mg_of X G a45)
  cases e
  have F0 := fun_mk (st := sIsText) l0 c0 k0
  have b0 := F0.binds (ps := ["thing"]) fun _ _ _ _ _ _ us hl => match us, hl with | [_], _ => rfl
  have F1 := fun_mk (st := sIsInteger) l1 c1 k1
  have b1 := F1.binds (ps := ["thing"]) fun _ _ _ _ _ _ us hl => match us, hl with | [_], _ => rfl
  have F2 := fun_mk (st := sIsSize) l2 c2 k2
  have b2 := F2.binds (ps := ["thing"]) fun _ _ _ _ _ _ us hl => match us, hl with | [_], _ => rfl
  have F3 := fun_mk (st := sIsState) l3 c3 k3
  have b3 := F3.binds (ps := ["thing", "size"]) fun _ _ _ _ _ _ us hl => match us, hl with | [_, _], _ => rfl
  have F4 := fun_mk (st := sIsTupleOfStates) l4 c4 k4
  have b4 := F4.binds (ps := ["thing", "size"]) fun _ _ _ _ _ _ us hl => match us, hl with | [_, _], _ => rfl
  have F5 := fun_mk (st := sIsMove) l5 c5 k5
  have b5 := F5.binds (ps := ["thing", "size"]) fun _ _ _ _ _ _ us hl => match us, hl with | [_, _], _ => rfl
  have F6 := fun_mk (st := sIsTupleOfMoves) l6 c6 k6
  have b6 := F6.binds (ps := ["thing", "size"]) fun _ _ _ _ _ _ us hl => match us, hl with | [_, _], _ => rfl
  have F7 := fun_mk (st := sPacerInit) l7 c7 k7
  have b7 := F7.binds (ps := ["self", "size", "begins", "moves", "ends"]) fun _ _ _ _ _ _ us hl => match us, hl with | [_, _, _, _, _], _ => rfl
  have F8 := fun_mk (st := sReached) l8 c8 k8
  have b8 := F8.binds (ps := ["starts", "following"]) fun _ _ _ _ _ _ us hl => match us, hl with | [_, _], _ => rfl
  have F9 := fun_mk (st := sTurnedAbout) l9 c9 k9
  have b9 := F9.binds (ps := ["following"]) fun _ _ _ _ _ _ us hl => match us, hl with | [_], _ => rfl
  have F10 := fun_mk (st := sUsefulPlaces) l10 c10 k10
  have b10 := F10.binds (ps := ["starts", "following", "ends"]) fun _ _ _ _ _ _ us hl => match us, hl with | [_, _, _], _ => rfl
  have F11 := fun_mk (st := sUseful) l11 c11 k11
  have b11 := F11.binds (ps := ["pacer"]) fun _ _ _ _ _ _ us hl => match us, hl with | [_], _ => rfl
  have F12 := fun_mk (st := sGainOf) l12 c12 k12
  have b12 := F12.binds (ps := ["move"]) fun _ _ _ _ _ _ us hl => match us, hl with | [_], _ => rfl
  have F13 := fun_mk (st := sUsefulMoves) l13 c13 k13
  have b13 := F13.binds (ps := ["pacer"]) fun _ _ _ _ _ _ us hl => match us, hl with | [_], _ => rfl
  have F14 := fun_mk (st := sFarthest) l14 c14 k14
  have b14 := F14.binds (ps := ["leaving"]) fun _ _ _ _ _ _ us hl => match us, hl with | [_], _ => rfl
  have F15 := fun_mk (st := sPlacesMet1) l15 c15 k15
  have b15 := F15.binds (ps := ["pacer"]) fun _ _ _ _ _ _ us hl => match us, hl with | [_], _ => rfl
  have F16 := fun_mk (st := sLeadsByState) l16 c16 k16
  have b16 := F16.binds (ps := ["came"]) fun _ _ _ _ _ _ us hl => match us, hl with | [_], _ => rfl
  have F17 := fun_mk (st := sWayTo) l17 c17 k17
  have b17 := F17.binds (ps := ["came", "last"]) fun _ _ _ _ _ _ us hl => match us, hl with | [_, _], _ => rfl
  have F18 := fun_mk (st := sRingBetween) l18 c18 k18
  have b18 := F18.binds (ps := ["places"]) fun _ _ _ _ _ _ us hl => match us, hl with | [_], _ => rfl
  have F19 := fun_mk (st := sWaysOn) l19 c19 k19
  have b19 := F19.binds (ps := ["pacer"]) fun _ _ _ _ _ _ us hl => match us, hl with | [_], _ => rfl
  have F20 := fun_mk (st := sRingPaper) l20 c20 k20
  have b20 := F20.binds (ps := ["pacer", "came", "last"]) fun _ _ _ _ _ _ us hl => match us, hl with | [_, _, _], _ => rfl
  have F21 := fun_mk (st := sJudge) l21 c21 k21
  have b21 := F21.binds (ps := ["pacer"]) fun _ _ _ _ _ _ us hl => match us, hl with | [_], _ => rfl
  have F22 := fun_mk (st := sIsEven) l22 c22 k22
  have b22 := F22.binds (ps := ["pacer"]) fun _ _ _ _ _ _ us hl => match us, hl with | [_], _ => rfl
  have F23 := fun_mk (st := sIsBound) l23 c23 k23
  have b23 := F23.binds (ps := ["thing"]) fun _ _ _ _ _ _ us hl => match us, hl with | [_], _ => rfl
  have F24 := fun_mk (st := sStateBehind) l24 c24 k24
  have b24 := F24.binds (ps := ["pacer", "state", "way"]) fun _ _ _ _ _ _ us hl => match us, hl with | [_, _, _], _ => rfl
  have F25 := fun_mk (st := sRingHolds) l25 c25 k25
  have b25 := F25.binds (ps := ["pacer", "paper"]) fun _ _ _ _ _ _ us hl => match us, hl with | [_, _], _ => rfl
  have F26 := fun_mk (st := sBoundsHold) l26 c26 k26
  have b26 := F26.binds (ps := ["pacer", "bounds"]) fun _ _ _ _ _ _ us hl => match us, hl with | [_, _], _ => rfl
  have F27 := fun_mk (st := sJudgeHolds) l27 c27 k27
  have b27 := F27.binds (ps := ["pacer", "thing"]) fun _ _ _ _ _ _ us hl => match us, hl with | [_, _], _ => rfl
  have F28 := fun_mk (st := sLDeck) l28 c28 k28
  have b28 := F28.binds (ps := ["_law_script"]) fun _ _ _ _ _ _ us hl => match us, hl with | [_], _ => rfl
  have F29 := fun_mk (st := sLDraw) l29 c29 k29
  have b29 := F29.binds (ps := ["_law_deck_here", "_law_below"]) fun _ _ _ _ _ _ us hl => match us, hl with | [_, _], _ => rfl
  have F30 := fun_mk (st := sLPick) l30 c30 k30
  have b30 := F30.binds (ps := ["_law_deck_here", "_law_some"]) fun _ _ _ _ _ _ us hl => match us, hl with | [_, _], _ => rfl
  have F31 := fun_mk (st := sLWord) l31 c31 k31
  have b31 := F31.binds (ps := ["_law_deck_here", "_law_signs", "_law_many"]) fun _ _ _ _ _ _ us hl => match us, hl with | [_, _, _], _ => rfl
  have F32 := fun_mk (st := sLWithSpots) l32 c32 k32
  have b32 := F32.binds (ps := ["_law_deck_here", "_law_count", "_law_goes"]) fun _ _ _ _ _ _ us hl => match us, hl with | [_, _, _], _ => rfl
  have F33 := fun_mk (st := sLEvenWorld) l33 c33 k33
  have b33 := F33.binds (ps := ["_law_deck_here"]) fun _ _ _ _ _ _ us hl => match us, hl with | [_], _ => rfl
  have F34 := fun_mk (st := sLWorld) l34 c34 k34
  have b34 := F34.binds (ps := ["_law_deck_here"]) fun _ _ _ _ _ _ us hl => match us, hl with | [_], _ => rfl
  have F35 := fun_mk (st := sLCode) l35 c35 k35
  have b35 := F35.binds (ps := ["_law_w"]) fun _ _ _ _ _ _ us hl => match us, hl with | [_], _ => rfl
  have F36 := fun_mk (st := sLUsed) l36 c36 k36
  have b36 := F36.binds (ps := ["_law_w"]) fun _ _ _ _ _ _ us hl => match us, hl with | [_], _ => rfl
  have F37 := fun_mk (st := sLIsApart) l37 c37 k37
  have b37 := F37.binds (ps := ["_law_used_here", "_law_some"]) fun _ _ _ _ _ _ us hl => match us, hl with | [_, _], _ => rfl
  have F38 := fun_mk (st := sLClosed) l38 c38 k38
  have b38 := F38.binds (ps := ["_law_found", "_law_some"]) fun _ _ _ _ _ _ us hl => match us, hl with | [_, _], _ => rfl
  have F39 := fun_mk (st := sLHeights) l39 c39 k39
  have b39 := F39.binds (ps := ["_law_w"]) fun _ _ _ _ _ _ us hl => match us, hl with | [_], _ => rfl
  have F40 := fun_mk (st := sLGain) l40 c40 k40
  have b40 := F40.binds (ps := ["_law_w", "_law_lot"]) fun _ _ _ _ _ _ us hl => match us, hl with | [_, _], _ => rfl
  have F41 := fun_mk (st := sLSpotBehind) l41 c41 k41
  have b41 := F41.binds (ps := ["_law_w", "_law_spot", "_law_lot"]) fun _ _ _ _ _ _ us hl => match us, hl with | [_, _, _], _ => rfl
  have F42 := fun_mk (st := sLAreBounds) l42 c42 k42
  have b42 := F42.binds (ps := ["_law_w", "_law_it"]) fun _ _ _ _ _ _ us hl => match us, hl with | [_, _], _ => rfl
  have F43 := fun_mk (st := sLIsPaper) l43 c43 k43
  have b43 := F43.binds (ps := ["_law_w", "_law_it"]) fun _ _ _ _ _ _ us hl => match us, hl with | [_, _], _ => rfl
  have F44 := fun_mk (st := sLRight) l44 c44 k44
  have b44 := F44.binds (ps := ["_law_w"]) fun _ _ _ _ _ _ us hl => match us, hl with | [_], _ => rfl
  have F45 := fun_mk (st := sLaw) l45 c45 k45
  have n_all := PySem.W.mg_none_of X G z_all
  have n_isinstance := PySem.W.mg_none_of X G z_isinstance
  have n_int := PySem.W.mg_none_of X G z_int
  have n_bool := PySem.W.mg_none_of X G z_bool
  have n_str := PySem.W.mg_none_of X G z_str
  have n_tuple := PySem.W.mg_none_of X G z_tuple
  have n_zip := PySem.W.mg_none_of X G z_zip
  have n_len := PySem.W.mg_none_of X G z_len
  have n_range := PySem.W.mg_none_of X G z_range
  have n_list := PySem.W.mg_none_of X G z_list
  have n_repr := PySem.W.mg_none_of X G z_repr
  have n_set := PySem.W.mg_none_of X G z_set
  have n_sorted := PySem.W.mg_none_of X G z_sorted
  have n_enumerate := PySem.W.mg_none_of X G z_enumerate
  have n_max := PySem.W.mg_none_of X G z_max
  have n_min := PySem.W.mg_none_of X G z_min
  have n_abs := PySem.W.mg_none_of X G z_abs
  have n_sum := PySem.W.mg_none_of X G z_sum
  have n_dict := PySem.W.mg_none_of X G z_dict
  have m_LETTERS : StrAt mg "LETTERS" "abcdefghijklmnopqrstuvwxyz" := ⟨tLETTERS, PySem.W.mg_of X G zLETTERS⟩
  have m_LEADS : StrAt mg "LEADS" "leads" := ⟨tLEADS, PySem.W.mg_of X G zLEADS⟩
  have m_RING : StrAt mg "RING" "ring" := ⟨tRING, PySem.W.mg_of X G zRING⟩
  have g_Pacer := PySem.W.mg_of X G aPacer
  have T : PTxt K CPacer := ⟨⟨pg, hd, po, sa⟩, nS, nB, nM, nE⟩
  refine ⟨PySem.W.fnOf "law" "law" (defArgs sLaw) (defBody sLaw) (defScope sLaw) .none kV45 dc45 pm45 an45 cd45 ct45, fun s v => .of_eq rfl, fun base _ _ => ?_⟩
  have oIsText := ok_IsText (P := l.prog) (w := w) (base := base) (mg := mg) (k := 0)  F0 n_all n_isinstance n_str m_LETTERS
  have oIsInteger := ok_IsInteger (P := l.prog) (w := w) (base := base) (mg := mg) (k := 0)  F1 n_isinstance n_int n_bool
  have oIsSize := ok_IsSize (P := l.prog) (w := w) (base := base) (mg := mg) (k := 1)  F2 (⟨f1, _, FnOk.mono oIsInteger (by decide), PySem.W.mg_of X G a1, k1, b1⟩ : EL.Cal l.prog w K mg base 1 "is_integer" ["thing"] (spLook K isIntD))
  have oIsState := ok_IsState (P := l.prog) (w := w) (base := base) (mg := mg) (k := 1)  F3 (⟨f1, _, FnOk.mono oIsInteger (by decide), PySem.W.mg_of X G a1, k1, b1⟩ : EL.Cal l.prog w K mg base 1 "is_integer" ["thing"] (spLook K isIntD))
  have oIsTupleOfStates := ok_IsTupleOfStates (P := l.prog) (w := w) (base := base) (mg := mg) (k := 2)  F4 n_isinstance n_tuple n_all n_zip (⟨f3, _, FnOk.mono oIsState (by decide), PySem.W.mg_of X G a3, k3, b3⟩ : EL.Cal l.prog w K mg base 2 "is_state" ["thing", "size"] (spLookN K stateD))
  have oIsMove := ok_IsMove (P := l.prog) (w := w) (base := base) (mg := mg) (k := 2)  F5 n_isinstance n_tuple n_len (⟨f3, _, FnOk.mono oIsState (by decide), PySem.W.mg_of X G a3, k3, b3⟩ : EL.Cal l.prog w K mg base 2 "is_state" ["thing", "size"] (spLookN K stateD)) (⟨f0, _, FnOk.mono oIsText (by decide), PySem.W.mg_of X G a0, k0, b0⟩ : EL.Cal l.prog w K mg base 2 "is_text" ["thing"] (spLook K isTextD))
  have oIsTupleOfMoves := ok_IsTupleOfMoves (P := l.prog) (w := w) (base := base) (mg := mg) (k := 3)  F6 n_isinstance n_tuple n_all (⟨f5, _, FnOk.mono oIsMove (by decide), PySem.W.mg_of X G a5, k5, b5⟩ : EL.Cal l.prog w K mg base 3 "is_move" ["thing", "size"] (spLookN K moveD))
  have oInit := ok_PacerInit (P := l.prog) (w := w) (base := base) (mg := mg) (k := 4)  F7 T (⟨f2, _, FnOk.mono oIsSize (by decide), PySem.W.mg_of X G a2, k2, b2⟩ : EL.Cal l.prog w K mg base 4 "is_size" ["thing"] (spLook K sizeD)) (⟨f6, _, FnOk.mono oIsTupleOfMoves (by decide), PySem.W.mg_of X G a6, k6, b6⟩ : EL.Cal l.prog w K mg base 4 "is_tuple_of_moves" ["thing", "size"] (spLookN K movesD)) (⟨f4, _, FnOk.mono oIsTupleOfStates (by decide), PySem.W.mg_of X G a4, k4, b4⟩ : EL.Cal l.prog w K mg base 4 "is_tuple_of_states" ["thing", "size"] (spLookN K statesD))
  have oReached := ok_Reached (P := l.prog) (w := w) (base := base) (mg := mg) (k := 0)  F8 n_list
  have oTurnedAbout := ok_TurnedAbout (P := l.prog) (w := w) (base := base) (mg := mg) (k := 0)  F9 
  have oUsefulPlaces := ok_UsefulPlaces (P := l.prog) (w := w) (base := base) (mg := mg) (k := 1)  F10 (⟨f8, _, FnOk.mono oReached (by decide), PySem.W.mg_of X G a8, k8, b8⟩ : EL.Cal l.prog w K mg base 1 "reached" ["starts", "following"] (spReached K)) (⟨f9, _, FnOk.mono oTurnedAbout (by decide), PySem.W.mg_of X G a9, k9, b9⟩ : EL.Cal l.prog w K mg base 1 "turned_about" ["following"] (spTurnedAbout K))
  have oUseful := ok_Useful (P := l.prog) (w := w) (base := base) (mg := mg) (k := 2)  F11 T n_tuple n_sorted (⟨f10, _, FnOk.mono oUsefulPlaces (by decide), PySem.W.mg_of X G a10, k10, b10⟩ : EL.Cal l.prog w K mg base 2 "useful_places" ["starts", "following", "ends"] (spUsefulPlaces K))
  have oGainOf := ok_GainOf (P := l.prog) (w := w) (base := base) (mg := mg) (k := 0)  F12 n_len
  have oUsefulMoves := ok_UsefulMoves (P := l.prog) (w := w) (base := base) (mg := mg) (k := 3)  F13 T n_enumerate (⟨f11, _, FnOk.mono oUseful (by decide), PySem.W.mg_of X G a11, k11, b11⟩ : EL.Cal l.prog w K mg base 3 "useful" ["pacer"] (spUseful K CPacer)) (⟨f12, _, FnOk.mono oGainOf (by decide), PySem.W.mg_of X G a12, k12, b12⟩ : EL.Cal l.prog w K mg base 3 "gain_of" ["move"] (spGain K))
  have oFarthest := ok_Farthest (P := l.prog) (w := w) (base := base) (mg := mg) (k := 0)  F14 n_len n_max n_abs
  have oPlacesMetL := ok_PlacesMetL (P := l.prog) (w := w) (base := base) (mg := mg) (k := 4)  F15 T n_len n_abs n_list (⟨f13, _, FnOk.mono oUsefulMoves (by decide), PySem.W.mg_of X G a13, k13, b13⟩ : EL.Cal l.prog w K mg base 4 "useful_moves" ["pacer"] (spUsefulMoves K CPacer)) (⟨f14, _, FnOk.mono oFarthest (by decide), PySem.W.mg_of X G a14, k14, b14⟩ : EL.Cal l.prog w K mg base 4 "farthest" ["leaving"] (spFarthest K))
  have oLeadsByState := ok_LeadsByState (P := l.prog) (w := w) (base := base) (mg := mg) (k := 0)  F16 
  have oWayTo := ok_WayTo (P := l.prog) (w := w) (base := base) (mg := mg) (k := 0)  F17 
  have oRingBetween := ok_RingBetween (P := l.prog) (w := w) (base := base) (mg := mg) (k := 0)  F18 n_enumerate
  have oWaysOn := ok_WaysOn (P := l.prog) (w := w) (base := base) (mg := mg) (k := 0)  F19 T n_enumerate
  have oRingPaper := ok_RingPaper (P := l.prog) (w := w) (base := base) (mg := mg) (k := 1)  F20 T n_tuple m_RING (⟨f17, _, FnOk.mono oWayTo (by decide), PySem.W.mg_of X G a17, k17, b17⟩ : EL.Cal l.prog w K mg base 1 "way_to" ["came", "last"] (spWayTo K)) (⟨f18, _, FnOk.mono oRingBetween (by decide), PySem.W.mg_of X G a18, k18, b18⟩ : EL.Cal l.prog w K mg base 1 "ring_between" ["places"] (spRingBetween K)) (⟨f19, _, FnOk.mono oWaysOn (by decide), PySem.W.mg_of X G a19, k19, b19⟩ : EL.Cal l.prog w K mg base 1 "ways_on" ["pacer"] (spWaysOn K CPacer))
  have oJudge := ok_Judge (P := l.prog) (w := w) (base := base) (mg := mg) (k := 5)  F21 T n_tuple n_sorted n_min n_max m_LEADS (⟨f15, _, FnOk.mono oPlacesMetL (by decide), PySem.W.mg_of X G a15, k15, b15⟩ : EL.Cal l.prog w K mg base 5 "places_met_leads" ["pacer"] (spMetL K CPacer)) (⟨f16, _, FnOk.mono oLeadsByState (by decide), PySem.W.mg_of X G a16, k16, b16⟩ : EL.Cal l.prog w K mg base 5 "leads_by_state" ["came"] (spLeads K)) (⟨f20, _, FnOk.mono oRingPaper (by decide), PySem.W.mg_of X G a20, k20, b20⟩ : EL.Cal l.prog w K mg base 5 "ring_paper" ["pacer", "came", "last"] (spRingPaper K CPacer))
  have oIsEven := ok_IsEven (P := l.prog) (w := w) (base := base) (mg := mg) (k := 6)  F22 m_LEADS (⟨f21, _, FnOk.mono oJudge (by decide), PySem.W.mg_of X G a21, k21, b21⟩ : EL.Cal l.prog w K mg base 6 "judge" ["pacer"] (spJudge K CPacer))
  have oIsBound := ok_IsBound (P := l.prog) (w := w) (base := base) (mg := mg) (k := 1)  F23 n_isinstance n_tuple n_all n_len (⟨f1, _, FnOk.mono oIsInteger (by decide), PySem.W.mg_of X G a1, k1, b1⟩ : EL.Cal l.prog w K mg base 1 "is_integer" ["thing"] (spLook K isIntD))
  have oStateBehind := ok_StateBehind (P := l.prog) (w := w) (base := base) (mg := mg) (k := 1)  F24 T n_isinstance n_tuple n_len (⟨f1, _, FnOk.mono oIsInteger (by decide), PySem.W.mg_of X G a1, k1, b1⟩ : EL.Cal l.prog w K mg base 1 "is_integer" ["thing"] (spLook K isIntD))
  have oRingHolds := ok_RingHolds (P := l.prog) (w := w) (base := base) (mg := mg) (k := 2)  F25 T n_sum (⟨f1, _, FnOk.mono oIsInteger (by decide), PySem.W.mg_of X G a1, k1, b1⟩ : EL.Cal l.prog w K mg base 2 "is_integer" ["thing"] (spLook K isIntD)) (⟨f24, _, FnOk.mono oStateBehind (by decide), PySem.W.mg_of X G a24, k24, b24⟩ : EL.Cal l.prog w K mg base 2 "state_behind" ["pacer", "state", "way"] (spBehind K CPacer)) (⟨f12, _, FnOk.mono oGainOf (by decide), PySem.W.mg_of X G a12, k12, b12⟩ : EL.Cal l.prog w K mg base 2 "gain_of" ["move"] (spGain K))
  have oBoundsHold := ok_BoundsHold (P := l.prog) (w := w) (base := base) (mg := mg) (k := 4)  F26 T n_isinstance n_tuple n_all n_list (⟨f23, _, FnOk.mono oIsBound (by decide), PySem.W.mg_of X G a23, k23, b23⟩ : EL.Cal l.prog w K mg base 4 "is_bound" ["thing"] (spLook K isBoundD)) (⟨f13, _, FnOk.mono oUsefulMoves (by decide), PySem.W.mg_of X G a13, k13, b13⟩ : EL.Cal l.prog w K mg base 4 "useful_moves" ["pacer"] (spUsefulMoves K CPacer))
  have oJudgeHolds := ok_JudgeHolds (P := l.prog) (w := w) (base := base) (mg := mg) (k := 5)  F27 n_isinstance n_tuple n_len m_LEADS m_RING (⟨f26, _, FnOk.mono oBoundsHold (by decide), PySem.W.mg_of X G a26, k26, b26⟩ : EL.Cal l.prog w K mg base 5 "bounds_hold" ["pacer", "bounds"] (spBounds K CPacer)) (⟨f25, _, FnOk.mono oRingHolds (by decide), PySem.W.mg_of X G a25, k25, b25⟩ : EL.Cal l.prog w K mg base 5 "ring_holds" ["pacer", "paper"] (spRingHolds K CPacer))
  have oLDeck := ok_deck (P := l.prog) (w := w) (base := base) (mg := mg) (k := 0)  F28 n_list n_int
  have oLDraw := ok_draw (P := l.prog) (w := w) (base := base) (mg := mg) (k := 0)  F29 n_int
  have oLPick := ok_pick (P := l.prog) (w := w) (base := base) (mg := mg) (k := 0)  F30 n_len (⟨f29, _, FnOk.mono oLDraw (by decide), PySem.W.mg_of X G a29, k29, b29⟩ : EL.Cal l.prog w K mg base 1 "_law_draw" ["_law_deck_here", "_law_below"] spDraw)
  have oLWord := ok_LWord (P := l.prog) (w := w) (base := base) (mg := mg) (k := 2)  F31 n_range (⟨f30, _, FnOk.mono oLPick (by decide), PySem.W.mg_of X G a30, k30, b30⟩ : EL.Cal l.prog w K mg base 2 "_law_pick" ["_law_deck_here", "_law_some"] (spPick K))
  have oLWithSpots := ok_LWithSpots (P := l.prog) (w := w) (base := base) (mg := mg) (k := 1)  F32 n_range n_tuple (⟨f29, _, FnOk.mono oLDraw (by decide), PySem.W.mg_of X G a29, k29, b29⟩ : EL.Cal l.prog w K mg base 1 "_law_draw" ["_law_deck_here", "_law_below"] spDraw)
  have oLEvenWorld := ok_LEvenWorld (P := l.prog) (w := w) (base := base) (mg := mg) (k := 3)  F33 n_range n_max (⟨f29, _, FnOk.mono oLDraw (by decide), PySem.W.mg_of X G a29, k29, b29⟩ : EL.Cal l.prog w K mg base 3 "_law_draw" ["_law_deck_here", "_law_below"] spDraw) (⟨f31, _, FnOk.mono oLWord (by decide), PySem.W.mg_of X G a31, k31, b31⟩ : EL.Cal l.prog w K mg base 3 "_law_word" ["_law_deck_here", "_law_signs", "_law_many"] spWordN) (⟨f32, _, FnOk.mono oLWithSpots (by decide), PySem.W.mg_of X G a32, k32, b32⟩ : EL.Cal l.prog w K mg base 3 "_law_with_spots" ["_law_deck_here", "_law_count", "_law_goes"] (spWithSpots K))
  have oLWorld := ok_LWorld (P := l.prog) (w := w) (base := base) (mg := mg) (k := 4)  F34 n_range (⟨f29, _, FnOk.mono oLDraw (by decide), PySem.W.mg_of X G a29, k29, b29⟩ : EL.Cal l.prog w K mg base 4 "_law_draw" ["_law_deck_here", "_law_below"] spDraw) (⟨f31, _, FnOk.mono oLWord (by decide), PySem.W.mg_of X G a31, k31, b31⟩ : EL.Cal l.prog w K mg base 4 "_law_word" ["_law_deck_here", "_law_signs", "_law_many"] spWordN) (⟨f32, _, FnOk.mono oLWithSpots (by decide), PySem.W.mg_of X G a32, k32, b32⟩ : EL.Cal l.prog w K mg base 4 "_law_with_spots" ["_law_deck_here", "_law_count", "_law_goes"] (spWithSpots K)) (⟨f33, _, FnOk.mono oLEvenWorld (by decide), PySem.W.mg_of X G a33, k33, b33⟩ : EL.Cal l.prog w K mg base 4 "_law_even_world" ["_law_deck_here"] (spWorld K 3000))
  have oLCode := ok_LCode (P := l.prog) (w := w) (base := base) (mg := mg) (k := 5)  F35 (⟨f7, _, ⟨mk, a7, i7, kc⟩, FnOk.mono oInit (by decide), g_Pacer, b7⟩ : KP.CalC l.prog w K mg base 5 CPacer)
  have oLUsed := ok_LUsed (P := l.prog) (w := w) (base := base) (mg := mg) (k := 0)  F36 n_list n_range
  have oLIsApart := ok_LIsApart (P := l.prog) (w := w) (base := base) (mg := mg) (k := 0)  F37 n_range n_len n_sorted n_set
  have oLClosed := ok_LClosed (P := l.prog) (w := w) (base := base) (mg := mg) (k := 0)  F38 n_repr n_sorted n_set
  have oLHeights := ok_LHeights (P := l.prog) (w := w) (base := base) (mg := mg) (k := 1)  F39 n_len n_dict (⟨f36, _, FnOk.mono oLUsed (by decide), PySem.W.mg_of X G a36, k36, b36⟩ : EL.Cal l.prog w K mg base 1 "_law_used" ["_law_w"] (spUsedL K)) (⟨f37, _, FnOk.mono oLIsApart (by decide), PySem.W.mg_of X G a37, k37, b37⟩ : EL.Cal l.prog w K mg base 1 "_law_is_apart" ["_law_used_here", "_law_some"] (spIsApart K)) (⟨f38, _, gup oLClosed (by decide), PySem.W.mg_of X G a38, k38, b38⟩ : EL.CalG l.prog w K mg base 1 "_law_closed" ["_law_found", "_law_some"] (spClosed K))
  have oLGain := ok_LGain (P := l.prog) (w := w) (base := base) (mg := mg) (k := 0)  F40 n_sum n_len
  have oLSpotBehind := ok_LSpotBehind (P := l.prog) (w := w) (base := base) (mg := mg) (k := 0)  F41 n_isinstance n_tuple n_int n_bool n_len
  have oLAreBounds := ok_LAreBounds (P := l.prog) (w := w) (base := base) (mg := mg) (k := 1)  F42 n_isinstance n_tuple n_int n_bool n_len n_list n_sum n_dict (⟨f36, _, FnOk.mono oLUsed (by decide), PySem.W.mg_of X G a36, k36, b36⟩ : EL.Cal l.prog w K mg base 1 "_law_used" ["_law_w"] (spUsedL K))
  have oLIsPaper := ok_LIsPaper (P := l.prog) (w := w) (base := base) (mg := mg) (k := 2)  F43 n_isinstance n_tuple n_str n_int n_bool n_len (⟨f42, _, FnOk.mono oLAreBounds (by decide), PySem.W.mg_of X G a42, k42, b42⟩ : EL.Cal l.prog w K mg base 2 "_law_are_bounds" ["_law_w", "_law_it"] (spBoundsL K)) (⟨f41, _, FnOk.mono oLSpotBehind (by decide), PySem.W.mg_of X G a41, k41, b41⟩ : EL.Cal l.prog w K mg base 2 "_law_spot_behind" ["_law_w", "_law_spot", "_law_lot"] (spSpotL K)) (⟨f40, _, FnOk.mono oLGain (by decide), PySem.W.mg_of X G a40, k40, b40⟩ : EL.Cal l.prog w K mg base 2 "_law_gain" ["_law_w", "_law_lot"] (spGainL K))
  have oLRight := ok_LRight (P := l.prog) (w := w) (base := base) (mg := mg) (k := 7)  F44 n_repr (⟨f35, _, FnOk.mono oLCode (by decide), PySem.W.mg_of X G a35, k35, b35⟩ : EL.Cal l.prog w K mg base 7 "_law_code" ["_law_w"] (spCodeW K CPacer)) (⟨f39, _, gup oLHeights (by decide), PySem.W.mg_of X G a39, k39, b39⟩ : EL.CalG l.prog w K mg base 7 "_law_heights" ["_law_w"] (spHeights K)) (⟨f21, _, FnOk.mono oJudge (by decide), PySem.W.mg_of X G a21, k21, b21⟩ : EL.Cal l.prog w K mg base 7 "judge" ["pacer"] (spJudge K CPacer)) (⟨f22, _, FnOk.mono oIsEven (by decide), PySem.W.mg_of X G a22, k22, b22⟩ : EL.Cal l.prog w K mg base 7 "is_even" ["pacer"] (spIsEven K CPacer)) (⟨f27, _, FnOk.mono oJudgeHolds (by decide), PySem.W.mg_of X G a27, k27, b27⟩ : EL.Cal l.prog w K mg base 7 "judge_holds" ["pacer", "thing"] (spJudgeHolds K CPacer)) (⟨f43, _, FnOk.mono oLIsPaper (by decide), PySem.W.mg_of X G a43, k43, b43⟩ : EL.Cal l.prog w K mg base 7 "_law_is_paper" ["_law_w", "_law_it"] (spPaperL K)) (EL.Fun.kw1 F21 fun _ _ _ _ _ _ _ => rfl) (EL.Fun.kw1 F22 fun _ _ _ _ _ _ _ => rfl) (EL.Fun.kw2r F27 fun _ _ _ _ _ _ _ _ => rfl)
  exact ok_Law (P := l.prog) (w := w) (base := base) (mg := mg) (k := 8)  F45 n_range (⟨f28, _, FnOk.mono oLDeck (by decide), PySem.W.mg_of X G a28, k28, b28⟩ : EL.Cal l.prog w K mg base 8 "_law_deck" ["_law_script"] (spDeck K)) (⟨f34, _, FnOk.mono oLWorld (by decide), PySem.W.mg_of X G a34, k34, b34⟩ : EL.Cal l.prog w K mg base 8 "_law_world" ["_law_deck_here"] (spWorld K 5000)) (⟨f44, _, gup oLRight (by decide), PySem.W.mg_of X G a44, k44, b44⟩ : EL.CalG l.prog w K mg base 8 "_law_right" ["_law_w"] (spRightW K)) (⟨f35, _, FnOk.mono oLCode (by decide), PySem.W.mg_of X G a35, k35, b35⟩ : EL.Cal l.prog w K mg base 8 "_law_code" ["_law_w"] (spCodeW K CPacer)) (⟨f21, _, FnOk.mono oJudge (by decide), PySem.W.mg_of X G a21, k21, b21⟩ : EL.Cal l.prog w K mg base 8 "judge" ["pacer"] (spJudge K CPacer))
end KP
open PySem PySem.W PyProof.Rows
set_option maxHeartbeats 0 in
theorem PySem.Challenge.cw_evenlead_k11_even_or_uneven_holds : PySem.Challenge.rw_evenlead_k11_even_or_uneven.Holds := by
  w_on; o_law; k_head; (case hw => w_witness2)
  k_fill
  refine EL.walk_ofG (l := PySem.Challenge.rw_evenlead_k11_even_or_uneven) (n := 63) (k := 9) (x := "_law_script") (sp := fun w => KP.spLaw _) rfl (by decide) rfl ⟨rfl, by decide, by decide⟩ (fun w h Y => PySem.W.kIn_of Y) ?F (fun _ _ a ns hl _ hS => ⟨a, ns, rfl, hS, hl, fun _ => rfl⟩)
  case F =>
    intro w mg fa h KX G hmg
    refine' KP.all_mk KX G hmg ?aPacer ?a0 ?l0 ?c0 ?k0 ?a1 ?l1 ?c1 ?k1 ?a2 ?l2 ?c2 ?k2 ?a3 ?l3 ?c3 ?k3 ?a4 ?l4 ?c4 ?k4 ?a5 ?l5 ?c5 ?k5 ?a6 ?l6 ?c6 ?k6 ?a7 ?i7 ?l7 ?c7 ?k7 ?a8 ?l8 ?c8 ?k8 ?a9 ?l9 ?c9 ?k9 ?a10 ?l10 ?c10 ?k10 ?a11 ?l11 ?c11 ?k11 ?a12 ?l12 ?c12 ?k12 ?a13 ?l13 ?c13 ?k13 ?a14 ?l14 ?c14 ?k14 ?a15 ?l15 ?c15 ?k15 ?a16 ?l16 ?c16 ?k16 ?a17 ?l17 ?c17 ?k17 ?a18 ?l18 ?c18 ?k18 ?a19 ?l19 ?c19 ?k19 ?a20 ?l20 ?c20 ?k20 ?a21 ?l21 ?c21 ?k21 ?a22 ?l22 ?c22 ?k22 ?a23 ?l23 ?c23 ?k23 ?a24 ?l24 ?c24 ?k24 ?a25 ?l25 ?c25 ?k25 ?a26 ?l26 ?c26 ?k26 ?a27 ?l27 ?c27 ?k27 ?a28 ?l28 ?c28 ?k28 ?a29 ?l29 ?c29 ?k29 ?a30 ?l30 ?c30 ?k30 ?a31 ?l31 ?c31 ?k31 ?a32 ?l32 ?c32 ?k32 ?a33 ?l33 ?c33 ?k33 ?a34 ?l34 ?c34 ?k34 ?a35 ?l35 ?c35 ?k35 ?a36 ?l36 ?c36 ?k36 ?a37 ?l37 ?c37 ?k37 ?a38 ?l38 ?c38 ?k38 ?a39 ?l39 ?c39 ?k39 ?a40 ?l40 ?c40 ?k40 ?a41 ?l41 ?c41 ?k41 ?a42 ?l42 ?c42 ?k42 ?a43 ?l43 ?c43 ?k43 ?a44 ?l44 ?c44 ?k44 ?a45 ?l45 ?c45 ?k45 ?pg ?hd ?po ?sa ?mk ?kc ?nS ?nB ?nM ?nE ?z_all ?z_isinstance ?z_int ?z_bool ?z_str ?z_tuple ?z_zip ?z_len ?z_range ?z_list ?z_repr ?z_set ?z_sorted ?z_enumerate ?z_max ?z_min ?z_abs ?z_sum ?z_dict ?zLETTERS ?zLEADS ?zRING
    (case aPacer => k_is); (case a0 => k_is); (case l0 => k_is); (case c0 => k_is); (case k0 => k_is); (case a1 => k_is); (case l1 => k_is); (case c1 => k_is); (case k1 => k_is); (case a2 => k_is); (case l2 => k_is); (case c2 => k_is); (case k2 => k_is); (case a3 => k_is); (case l3 => k_is); (case c3 => k_is); (case k3 => k_is); (case a4 => k_is); (case l4 => k_is); (case c4 => k_is); (case k4 => k_is); (case a5 => k_is); (case l5 => k_is); (case c5 => k_is); (case k5 => k_is); (case a6 => k_is); (case l6 => k_is); (case c6 => k_is); (case k6 => k_is); (case a7 => k_is); (case i7 => k_is); (case l7 => k_is); (case c7 => k_is); (case k7 => k_is); (case a8 => k_is); (case l8 => k_is); (case c8 => k_is); (case k8 => k_is); (case a9 => k_is); (case l9 => k_is); (case c9 => k_is); (case k9 => k_is); (case a10 => k_is); (case l10 => k_is); (case c10 => k_is); (case k10 => k_is); (case a11 => k_is); (case l11 => k_is); (case c11 => k_is); (case k11 => k_is); (case a12 => k_is); (case l12 => k_is); (case c12 => k_is); (case k12 => k_is); (case a13 => k_is); (case l13 => k_is); (case c13 => k_is); (case k13 => k_is); (case a14 => k_is); (case l14 => k_is); (case c14 => k_is); (case k14 => k_is); (case a15 => k_is); (case l15 => k_is); (case c15 => k_is); (case k15 => k_is); (case a16 => k_is); (case l16 => k_is); (case c16 => k_is); (case k16 => k_is); (case a17 => k_is); (case l17 => k_is); (case c17 => k_is); (case k17 => k_is); (case a18 => k_is); (case l18 => k_is); (case c18 => k_is); (case k18 => k_is); (case a19 => k_is); (case l19 => k_is); (case c19 => k_is); (case k19 => k_is); (case a20 => k_is); (case l20 => k_is); (case c20 => k_is); (case k20 => k_is); (case a21 => k_is); (case l21 => k_is); (case c21 => k_is); (case k21 => k_is); (case a22 => k_is); (case l22 => k_is); (case c22 => k_is); (case k22 => k_is); (case a23 => k_is); (case l23 => k_is); (case c23 => k_is); (case k23 => k_is); (case a24 => k_is); (case l24 => k_is); (case c24 => k_is); (case k24 => k_is); (case a25 => k_is); (case l25 => k_is); (case c25 => k_is); (case k25 => k_is); (case a26 => k_is); (case l26 => k_is); (case c26 => k_is); (case k26 => k_is); (case a27 => k_is); (case l27 => k_is); (case c27 => k_is); (case k27 => k_is); (case a28 => k_is); (case l28 => k_is); (case c28 => k_is); (case k28 => k_is); (case a29 => k_is); (case l29 => k_is); (case c29 => k_is); (case k29 => k_is); (case a30 => k_is); (case l30 => k_is); (case c30 => k_is); (case k30 => k_is); (case a31 => k_is); (case l31 => k_is); (case c31 => k_is); (case k31 => k_is); (case a32 => k_is); (case l32 => k_is); (case c32 => k_is); (case k32 => k_is); (case a33 => k_is); (case l33 => k_is); (case c33 => k_is); (case k33 => k_is); (case a34 => k_is); (case l34 => k_is); (case c34 => k_is); (case k34 => k_is); (case a35 => k_is); (case l35 => k_is); (case c35 => k_is); (case k35 => k_is); (case a36 => k_is); (case l36 => k_is); (case c36 => k_is); (case k36 => k_is); (case a37 => k_is); (case l37 => k_is); (case c37 => k_is); (case k37 => k_is); (case a38 => k_is); (case l38 => k_is); (case c38 => k_is); (case k38 => k_is); (case a39 => k_is); (case l39 => k_is); (case c39 => k_is); (case k39 => k_is); (case a40 => k_is); (case l40 => k_is); (case c40 => k_is); (case k40 => k_is); (case a41 => k_is); (case l41 => k_is); (case c41 => k_is); (case k41 => k_is); (case a42 => k_is); (case l42 => k_is); (case c42 => k_is); (case k42 => k_is); (case a43 => k_is); (case l43 => k_is); (case c43 => k_is); (case k43 => k_is); (case a44 => k_is); (case l44 => k_is); (case c44 => k_is); (case k44 => k_is); (case a45 => k_is); (case l45 => k_is); (case c45 => k_is); (case k45 => k_is); (case pg => k_is); (case hd => k_is); (case po => k_is); (case sa => k_is); (case mk => k_is); (case kc => k_is); (case nS => k_is); (case nB => k_is); (case nM => k_is); (case nE => k_is); (case z_all => k_is); (case z_isinstance => k_is); (case z_int => k_is); (case z_bool => k_is); (case z_str => k_is); (case z_tuple => k_is); (case z_zip => k_is); (case z_len => k_is); (case z_range => k_is); (case z_list => k_is); (case z_repr => k_is); (case z_set => k_is); (case z_sorted => k_is); (case z_enumerate => k_is); (case z_max => k_is); (case z_min => k_is); (case z_abs => k_is); (case z_sum => k_is); (case z_dict => k_is); (case zLETTERS => k_is); (case zLEADS => k_is); (case zRING => k_is)
