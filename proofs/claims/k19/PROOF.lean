import PyProof.Rows.All
import Wide.All
import OpenK.AllK
import Wide.FinOn
import HandS.ForMost
import HandS.Codes
import HandS.Flow
import HandS.Style
import HandS.StrMore
import HandS.IsInst
import HandS.TupAny
import HandS.EndBits
import HandS.SortKw
import KE.KMinBuiltin
import HandS.WideBits
import HandS.Wide
import HandS.Walk
import HandS.Small
import HandS.AnyAll
import HandS.Exc
import HandS.ExcInit
import HandS.ExcField
import HandS.WordsExc
import HandS.ExcIs
import KE.KIsAll
import KE.KTryMore
import HandS.Conv
import HandS.TupMul
import HandS.Property
import HandS.WrittenGet
import HandS.NestedK
import KE.KDictDisplayH
import HandS.Dict
import HandS.SetBool
import HandS.Strs
import KE.KeyNested
import KE.KDictCopyH
import PyProof.DictMoreH
import PyProof.DictTruth
import HandS.DictTup
import HandS.Star
import HandS.DictComp
import HandS.Deep
import HandS.EndTab
import PySem.Challenge.RW_digitwise_k19_whole_ways_agree
set_option Elab.async false
set_option linter.all false
set_option maxRecDepth 100000
set_option maxHeartbeats 4000000
namespace Dw
open PySem PySem.Spec PyProof.Rows L2 SX

theorem hu64 {A : Around} {k : Nat} (hr : Room k A) : A.units + 64 < cLine := hr.units
section
variable {X : Cx} {k j : Nat} {x : Str} {sp : Sp} {dvs : List V} {p pos : Pos}
theorem pe_c0 (c : C8.Cal X.prog X.w X.K X.mg X.base k x sp dvs) (hr : Room j X.A) (hk : k ≤ j) (hg : Gl X x)
    (hdb : (x == ("__debug__" : Str)) = false := by decide) :
    PE X (.Call (.Name x p) [] [] pos) (tCall sp dvs C8.E0 tNil) := by
  obtain ⟨f, fd, ps, ds, F, hm, kp, b, d⟩ := c.ex
  exact pe_call0 F (hr.mono hk) hg hm kp b d C8.pass0 hdb
end
theorem same_upd {H : Hp} {p : Addr} {o : HO} (h : H p = none) : Same H (upd H p o) := fun b x e => by
  rw [upd_ne (ne_of_none e h)]
  exact e
/-- all but what stands at p is as it was -/
def But (p : Addr) (H H' : Hp) : Prop := ∀ b o, b ≠ p → H b = some o → H' b = some o
theorem But.refl (p : Addr) (H : Hp) : But p H H := fun _ _ _ h => h
theorem But.trans {p : Addr} {H H1 H2 : Hp} (a : But p H H1) (b : But p H1 H2) : But p H H2 := fun c o n h => b c o n (a c o n h)
theorem But.of {p : Addr} {H H' : Hp} (a : Same H H') : But p H H' := fun b o _ h => a b o h
theorem But.upd {p : Addr} {H : Hp} {o : HO} : But p H (upd H p o) := fun b _ n h => by
  rw [upd_ne n]
  exact h
theorem But.list {p a : Addr} {H H' : Hp} {K : PySem.W.Frag} {xs : List V} (e : But p H H') (n : a ≠ p) (h : SqL K H a xs) : SqL K H' a xs := by
  rcases h with (h | ⟨o, h⟩) | h
  · exact .inl (.inl (e _ _ n h))
  · exact .inl (.inr ⟨o, e _ _ n h⟩)
  · exact .inr h
/-- the pool of drawn numbers at p, over the copied script at q -/
def Pool (H : Hp) (p q : Addr) (ns : List Int) : Prop := p ≠ q ∧ H q = some (.lst (ns.map V.int)) ∧ ∃ a k : Int, H p = some (.lst [.int a, .ref q, .int k]) ∧ 0 ≤ a ∧ -1 ≤ k
theorem Pool.same {H H' : Hp} {p q : Addr} {ns : List Int} (h : Pool H p q ns) (e : Same H H') : Pool H' p q ns := by
  obtain ⟨n, hq, a, k, hp, h0, h1⟩ := h
  exact ⟨n, e _ _ hq, a, k, e _ _ hp, h0, h1⟩

example : True := by trivial
end Dw
namespace Dw
open PySem PySem.Spec PyProof.Rows L2 SX
section
variable {CX : CXT} {P : Program} {w : World} {K : PySem.W.Frag} {mg : Str → Option Value} {base : Heap} {N : List Str} {qual : Str} {scope : Scope} {f : Addr} {cd : Value} {A : Around} {outer : List Env} {s : Shared} {H : Hp} {E : XK}
theorem cxOf_K : (cxOf CX P w K mg base N qual scope f cd A outer s H E).K = K := rfl
theorem cxOf_w : (cxOf CX P w K mg base N qual scope f cd A outer s H E).w = w := rfl
theorem cxOf_prog : (cxOf CX P w K mg base N qual scope f cd A outer s H E).prog = P := rfl
end
end Dw
namespace Dw
open PySem PySem.Spec PyProof.Rows L2 SX
theorem at_ints {ns : List Int} {k : Int} (h0 : 0 ≤ k) (h1 : k < (ns.length : Int)) : atI (ns.map V.int) k = some (.int (ns.getD k.toNat 0)) := by
  obtain ⟨n, rfl⟩ : ∃ n : Nat, k = (n : Int) := ⟨k.toNat, by omega⟩
  have h2 : n < ns.length := by omega
  refine atI_nat ?_
  rw [List.getElem?_map, Int.toNat_natCast, List.getD_eq_getElem?_getD, List.getElem?_eq_getElem h2]
  rfl
end Dw
namespace Dw
open PySem PySem.Spec PyProof.Rows L2 SX
/-- a text times an int -/
theorem op_mul_str {X : Cx} : OpR X (binaryOp .Mult) (fun x y H Q => ∃ (z : Str) (k : Int), x = .str z ∧ y = .int k ∧ MulOk z k ∧ Q (.str (Txt.mul z k)) H) := by
  intro pins s σ H x y v u Q I rx ry h
  obtain ⟨z, k, rfl, rfl, hz, q⟩ := h
  obtain ⟨t, rfl⟩ := rx
  obtain ⟨t', rfl⟩ := ry
  exact SB.mul hz (fun t' tk => ⟨.str (Txt.mul z k), H, I.tok _, ⟨_, rfl⟩, q⟩)
def rMulS : R2 := fun x y H Q => ∃ (z : Str) (k : Int), x = .str z ∧ y = .int k ∧ MulOk z k ∧ Q (.str (Txt.mul z k)) H
theorem op_mulS {X : Cx} : OpR X (binaryOp .Mult) rMulS := op_mul_str
/-! loops and comprehensions, folded -/
def ForJ (J : It) (g : TG) (tb : TS) (D : Ends) (σ : L2.St) (H : Hp) : Prop := ∃ W : Nat → Nat → L2.St → Hp → Prop, (∃ m, W 0 m σ H) ∧ ∀ i m σ H, W i m σ H →
  (J.stop i H ∧ D.nx σ H) ∨ (J.go i H ∧ ∃ N : L2.St → Hp → Prop, (∀ σ' H', N σ' H' → ∃ m', m' < m ∧ W (i + 1) m' σ' H') ∧ ∀ x H', J.yld i H x H' → g x σ H' fun σ2 H2 => tb { D with nx := N, ct := N, bk := D.nx } σ2 H2)
theorem tFor_eq (wi : TI) (g : TG) (tb : TS) (D : Ends) (σ : L2.St) (H : Hp) : tFor wi g tb D σ H = wi σ H fun J H1 => ForJ J g tb D σ H1 := rfl
def LcJ (J : It) (g : TG) (tt : TT) (te : TE) (vs : List Nat) (D : Addr) (σ : L2.St) (H1 : Hp) (Qd : Hp → Prop) : Prop := ∃ W : Nat → Nat → Hp → Prop, (∃ m, W 0 m (upd H1 D (.lst []))) ∧ ∀ i m H, W i m H →
  (J.stop i H ∧ Qd H) ∨ (J.go i H ∧ ∃ Nx : Hp → Prop, (∀ H', Nx H' → ∃ m', m' < m ∧ W (i + 1) m' H') ∧ ∀ x H', J.yld i H x H' → g x (wipe σ vs) H' fun σ2 H2 => wipe σ2 vs = wipe σ vs ∧ tt σ2 H2 fun b H3 =>
    if b = true then te σ2 H3 fun y H4 => ∃ acc, H4 D = some (.lst acc) ∧ acc.length < sizeLine ∧ Nx (upd H4 D (.lst (acc ++ [y]))) else Nx H3)
theorem tLc_eq (wi : TI) (g : TG) (tt : TT) (te : TE) (vs : List Nat) (σ : L2.St) (H : Hp) (Q : VK) : tLc wi g tt te vs σ H Q = wi σ H fun J H1 => ∀ D, H1 D = none → LcJ J g tt te vs D σ H1 fun H2 => Q (.ref D) H2 := rfl
/-! texts as lists of codes -/
def cs (s : String) : List Nat := (Str.ofString s).cps.toList
theorem ofStr_S (s : String) : Str.ofString s = S (cs s) := (S_tl _).symm
theorem one_S (c : Nat) : (⟨#[c]⟩ : Str) = S [c] := rfl
theorem S_iff (a b : List Nat) : (S a = S b) = (a = b) := propext ⟨S_inj, fun e => by rw [e]⟩
theorem S_cps (a : List Nat) : (S a).cps.toList = a := rfl
theorem len_S (a : List Nat) : (S a).length = a.length := S_len a
theorem at_mem {α : Type} {xs : List α} {i : Int} (h0 : 0 ≤ i) (h1 : i < (xs.length : Int)) : ∃ v, atI xs i = some v ∧ v ∈ xs := by
  obtain ⟨n, rfl⟩ : ∃ n : Nat, i = (n : Int) := ⟨i.toNat, by omega⟩
  have h2 : n < xs.length := by omega
  exact ⟨xs[n], atI_nat (List.getElem?_eq_getElem h2), List.getElem_mem h2⟩
def LOW : List Nat := cs "abcdefghijklmnopqrstuvwxyz"
def UPP : List Nat := cs "ABCDEFGHIJKLMNOPQRSTUVWXYZ"
def DIG : List Nat := cs "0123456789"
def RESW : List String := ["all", "def", "pow", "some", "told"]
def RES : List (List Nat) := RESW.map cs
def SGNW : List String := ["<=>", "=>", "->", "<=", ">=", "!=", "=", "<", ">", "+", "-", "*", "~", "&", "|", "(", ")", "[", "]", "{", "}", ",", ":", ";"]
def SGN : List (List Nat) := SGNW.map cs
def vS (l : List Nat) : V := .str (S l)
/-- a good name, a good word -/
structure GName (l : List Nat) : Prop where
  hd : ∃ c r, l = c :: r ∧ c ∈ LOW
  all : ∀ c ∈ l, c ∈ LOW ++ DIG
  le : l.length ≤ 12
  nr : l ∉ RES
structure GWord (l : List Nat) : Prop where
  hd : ∃ c r, l = c :: r ∧ c ∈ UPP
  all : ∀ c ∈ l, c ∈ UPP ++ DIG
  le : l.length ≤ 12
def NMS : List String := ["x", "y", "z", "alls", "v0", "v1", "po", "defx"]
instance (l : List Nat) : Decidable (∃ c r, l = c :: r ∧ c ∈ LOW) := match l with
  | [] => isFalse (by rintro ⟨_, _, h, _⟩; cases h)
  | c :: r => if h : c ∈ LOW then isTrue ⟨c, r, rfl, h⟩ else isFalse (by rintro ⟨_, _, e, h'⟩; cases e; exact h h')
theorem nms_ok : ∀ s ∈ NMS, (∃ c r, cs s = c :: r ∧ c ∈ LOW) ∧ (∀ c ∈ cs s, c ∈ LOW ++ DIG) ∧ (cs s).length ≤ 12 := by decide +kernel
theorem low_len : LOW.length = 26 := by decide +kernel
theorem lowdig_len : (LOW ++ DIG).length = 36 := by decide +kernel
theorem upp_len : UPP.length = 26 := by decide +kernel
theorem uppdig_len : (UPP ++ DIG).length = 36 := by decide +kernel
theorem res_len : ∀ l ∈ RES, l.length ≤ 4 := by decide +kernel
theorem res0 : ∀ l ∈ RES, l ++ cs "0" ∉ RES := by decide +kernel
/-- a drawn name is made good -/
theorem gname_of {l : List Nat} (hd : ∃ c r, l = c :: r ∧ c ∈ LOW) (all : ∀ c ∈ l, c ∈ LOW ++ DIG) (le : l.length ≤ 12) : (l ∈ RES → GName (l ++ cs "0")) ∧ (l ∉ RES → GName l) := by
  refine ⟨fun h => ⟨?_, ?_, ?_, res0 l h⟩, fun h => ⟨hd, all, le, h⟩⟩
  · obtain ⟨c, r, rfl, hc⟩ := hd
    exact ⟨c, r ++ cs "0", rfl, hc⟩
  · intro c hc
    rcases List.mem_append.mp hc with h1 | h1
    · exact all c h1
    · have : ∀ c ∈ cs "0", c ∈ LOW ++ DIG := by decide +kernel
      exact this c h1
  · rw [List.length_append]
    have := res_len l h
    have : (cs "0").length = 1 := by decide +kernel
    omega
end Dw
namespace Dw
open PySem PySem.Spec PyProof.Rows L2 SX
theorem eqV_S (a b : List Nat) : eqV (.str (S a)) (.str (S b)) = decide (a = b) := by
  show (S a == S b) = _
  exact S_beq_eq
theorem inV_S (l : List Nat) : ∀ L : List (List Nat), inV (.str (S l)) (L.map vS) = decide (l ∈ L)
  | [] => by simp [inV]
  | a :: L => by
    have ih := inV_S l L
    unfold inV at ih ⊢
    rw [List.map_cons, List.any_cons, ih]
    show (eqV (.str (S a)) (.str (S l)) || _) = _
    rw [eqV_S]
    by_cases h : a = l
    · subst h; simp
    · have h' : ¬ l = a := fun e => h e.symm
      simp [h, h']
theorem flat_S : ∀ L : List (List Nat), (L.map vS).all flatV = true
  | [] => rfl
  | a :: L => by
    rw [List.map_cons, List.all_cons, flat_S L]
    rfl
theorem small {n : Nat} (h : n ≤ 10000) : n ≤ sizeLine := Nat.le_trans h (by decide)
theorem smallt {n : Nat} (h : n ≤ 10000) : n < sizeLine := Nat.lt_of_le_of_lt h (by decide)
end Dw
namespace Dw
open PySem PySem.Spec PyProof.Rows L2 SX
def SPS : List String := ["", " ", "\n", "  \n ", " ", ""]
theorem sps_ok : ∀ s ∈ SPS, (∀ c ∈ cs s, c = 32 ∨ c = 10) ∧ (cs s).length ≤ 4 := by decide +kernel
def pfx (s t : List Nat) : Bool := t.take s.length == s
def isAN (c : Nat) : Bool := Unicode.isAlnum c
/-- the two pieces need a space between them -/
def joins (a b : List Nat) : Bool := (isAN (a.getLast?.getD 0) && isAN (b.head?.getD 0)) || SGN.any fun s => decide (a.length < s.length) && pfx a s && pfx s (a ++ b)
end Dw
namespace Dw
open PySem PySem.Spec PyProof.Rows L2 SX
theorem pfx_iff {s t : List Nat} : pfx s t = true ↔ ∃ r, t = s ++ r := by
  unfold pfx
  rw [beq_iff_eq]
  constructor
  · intro h
    exact ⟨t.drop s.length, by have := List.take_append_drop s.length t; rw [h] at this; exact this.symm⟩
  · rintro ⟨r, rfl⟩
    simp
theorem pfx_le {s t : List Nat} (h : pfx s t = true) : s.length ≤ t.length := by
  obtain ⟨r, rfl⟩ := pfx_iff.mp h
  rw [List.length_append]; omega
theorem subAt_S (a b : List Nat) (i : Nat) : Builtin.Str.subAt (S a) (S b) i = pfx b (a.drop i) := by
  rw [StrLaws.subAt_eq]
  show ((a.drop i).take (S b).length == b) = _
  rw [S_len]
  rfl
theorem sw_S (a b : List Nat) : Txt.startswith (S a) (S b) = pfx b a := by
  unfold Txt.startswith
  rw [subAt_S, S_len, S_len, List.drop_zero]
  cases h : pfx b a
  · simp
  · have := pfx_le h
    simp [this]
theorem sw3_S (a b : List Nat) (i : Nat) (hi : i ≤ a.length) : Txt.startswith3 (S a) (S b) (i : Int) = pfx b (a.drop i) := by
  unfold Txt.startswith3
  have e : fromIndex (S a).length (i : Int) = i := by
    unfold fromIndex
    rw [if_neg (by omega)]
    omega
  rw [e, subAt_S, S_len, S_len]
  cases h : pfx b (a.drop i)
  · simp
  · have := pfx_le h
    rw [List.length_drop] at this
    have h2 : i + b.length ≤ a.length := by omega
    simp [h2]
theorem an_S (c : Nat) : Txt.isalnum (S [c]) = isAN c := by
  unfold Txt.isalnum isAN
  show (decide ((S [c]).length > 0) && (#[c] : Array Nat).all Unicode.isAlnum) = _
  simp [Str.length]
end Dw
namespace Dw
theorem sgn_len : ∀ s ∈ SGN, s.length ≤ 3 := by decide +kernel
end Dw
namespace Dw
open PySem PySem.Spec PyProof.Rows L2 SX
abbrev TRow := List Nat × List Nat
def flat (rows : List TRow) : List Nat := rows.flatMap fun x => x.1 ++ x.2
def places (n : Nat) : List TRow → List V
  | [] => []
  | x :: r => .int (n : Nat) :: places (n + x.1.length + x.2.length) r
theorem flat_snoc (rows : List TRow) (x : TRow) : flat (rows ++ [x]) = flat rows ++ x.1 ++ x.2 := by
  simp [flat]
theorem flat_cons (rows : List TRow) (x : TRow) : flat (x :: rows) = x.1 ++ (x.2 ++ flat rows) := by
  simp [flat]
theorem places_snoc : ∀ (n : Nat) (rows : List TRow) (x : TRow), places n (rows ++ [x]) = places n rows ++ [.int ((n + (flat rows).length : Nat) : Int)]
  | n, [], x => by simp [places, flat]
  | n, y :: r, x => by
    show V.int _ :: places (n + y.1.length + y.2.length) (r ++ [x]) = _
    rw [places_snoc]
    show _ = V.int _ :: (places (n + y.1.length + y.2.length) r ++ _)
    rw [flat_cons, List.length_append, List.length_append]
    rw [show n + y.1.length + y.2.length + (flat r).length = n + (y.1.length + (y.2.length + (flat r).length)) by omega]
theorem places_len : ∀ (n : Nat) (rows : List TRow), (places n rows).length = rows.length
  | _, [] => rfl
  | n, y :: r => by
    show (places _ r).length + 1 = r.length + 1
    rw [places_len]
def Blank (l : List Nat) : Prop := (∀ c ∈ l, c = 32 ∨ c = 10) ∧ l.length ≤ 4
/-- where two parts join, a space stands between them -/
def Sepd (rows : List TRow) : Prop := ∀ (k : Nat) (x y : TRow), rows[k]? = some x → rows[k + 1]? = some y → joins x.1 y.1 = true → x.2 ≠ []
theorem flat_len : ∀ (rows : List TRow), (∀ x ∈ rows, x.1.length ≤ 100 ∧ x.2.length ≤ 4) → (flat rows).length ≤ 104 * rows.length
  | [], _ => by simp [flat]
  | x :: r, h => by
    have ih := flat_len r fun y hy => h y (List.mem_cons_of_mem _ hy)
    have h1 := h x List.mem_cons_self
    rw [flat_cons, List.length_append, List.length_append, List.length_cons]
    omega
theorem snoc_of {l : List Nat} (h : l ≠ []) : ∃ (a' : List Nat) (x : Nat), l = a' ++ [x] := ⟨l.dropLast, l.getLast h, (List.dropLast_concat_getLast h).symm⟩
theorem cons_of {l : List Nat} (h : l ≠ []) : ∃ (y : Nat) (b' : List Nat), l = y :: b' := by
  cases l with
  | nil => exact absurd rfl h
  | cons y r => exact ⟨y, r, rfl⟩
theorem at_map {α : Type} {f : α → V} {L : List α} {i : Nat} {a : α} (h : L[i]? = some a) : atI (L.map f) (i : Int) = some (f a) := atI_nat (by rw [List.getElem?_map, h]; rfl)
end Dw
namespace Dw
open PySem PySem.Spec PyProof.Rows L2 SX
theorem Pool.ne {H : Hp} {p q t : Addr} {ns : List Int} (h : Pool H p q ns) (ht : H t = none) : t ≠ p := by
  obtain ⟨_, _, _, _, hp, _⟩ := h
  exact (ne_of_none hp ht).symm
theorem But.free {H H1 : Hp} {p q t : Addr} {ns : List Int} (hB : But p H H1) (hP : Pool H1 p q ns) (ht : H1 t = none) : H t = none := by
  cases e : H t with
  | none => rfl
  | some o =>
    have := hB t o (hP.ne ht) e
    rw [ht] at this
    cases this
end Dw
namespace Dw
open PySem PySem.Spec PyProof.Rows L2 SX
theorem tyL {K : PySem.W.Frag} {H : Hp} {a : Addr} {xs : List V} (h : H a = some (.lst xs)) : tyV K "list" (.ref a) H := .inl ⟨rfl, _, SqL.of h⟩
theorem tyV_str {K : PySem.W.Frag} {H : Hp} {z : Str} : tyV K "str" (.str z) H = True := propext ⟨fun _ => trivial, fun _ => rfl⟩
theorem But.new {p t : Addr} {H H1 : Hp} {o : HO} (hB : But p H H1) (ht : H t = none) : But p H (L2.upd H1 t o) := fun b u n h => by
  rw [upd_ne (ne_of_none h ht)]
  exact hB b u n h
theorem Pool.set {p q t : Addr} {H : Hp} {ns : List Int} {o : HO} (h : Pool H p q ns) (h1 : t ≠ p) (h2 : t ≠ q) : Pool (L2.upd H t o) p q ns := by
  obtain ⟨n, hq, a, k, hp, h0, hk⟩ := h
  exact ⟨n, by rw [upd_ne h2.symm]; exact hq, a, k, by rw [upd_ne h1.symm]; exact hp, h0, hk⟩
theorem Pool.neq {H : Hp} {p q t : Addr} {ns : List Int} (h : Pool H p q ns) (ht : H t = none) : t ≠ q := by
  obtain ⟨_, hq, _⟩ := h
  exact (ne_of_none hq ht).symm
end Dw
namespace Dw
open PySem PySem.Spec PyProof.Rows L2 SX
def num (n : Nat) : List Nat := cs (toString (n : Int))
/-- a piece of a text, the kind and the value of its token -/
inductive Piece : List Nat → List Nat → V → Prop
  | res {l : List Nat} (h : l ∈ RES) : Piece l (cs "reserved") (.str (S l))
  | name {l : List Nat} (h : GName l) : Piece l (cs "name") (.str (S l))
  | word {l : List Nat} (h : GWord l) : Piece l (cs "word") (.str (S l))
  | num (n : Nat) (h : n < 256) : Piece (num n) (cs "number") (.int (n : Int))
  | sign {l : List Nat} (h : l ∈ SGN) : Piece l (cs "sign") (.str (S l))
end Dw
namespace Dw
open PySem PySem.Spec PyProof.Rows L2 SX
theorem But.upd2 {p t : Addr} {H H1 : Hp} {o : HO} (hB : But p H H1) (ht : H1 t = none) : But p H (L2.upd H1 t o) := hB.trans (But.of (same_upd ht))
end Dw
namespace Dw
open PySem PySem.Spec PyProof.Rows L2 SX
/-! loops by a word, what follows a turn left open -/
theorem while_up {c : TT} {tb : TS} {D : Ends} {σ : L2.St} {H : Hp} (W : Nat → L2.St → Hp → Prop) (h0 : ∃ m, W m σ H)
    (hs : ∀ m σ H (N : L2.St → Hp → Prop), W m σ H → (∀ m' σ' H', m' < m → W m' σ' H' → N σ' H') → c σ H fun b H1 => if b = true then tb { D with nx := N, ct := N, bk := D.nx } σ H1 else D.nx σ H1)
    (mono : ∀ σ H Q Q', (∀ b H1, Q b H1 → Q' b H1) → c σ H Q → c σ H Q') : tWhile c tb D σ H := by
  refine ⟨W, h0, fun m σ H hw => ?_⟩
  refine mono σ H _ _ (fun b H1 q => ?_) (hs m σ H (fun σ' H' => ∃ m', m' < m ∧ W m' σ' H') hw (fun m' σ' H' h1 h2 => ⟨m', h1, h2⟩))
  cases b with
  | true => exact ⟨_, fun σ' H' h => h, q⟩
  | false => exact q
theorem for_listN {K : PySem.W.Frag} {a : Addr} {xs : List V} {g : TG} {tb : TS} {D : Ends} {σ : L2.St} {H : Hp} (Pv : Nat → L2.St → Hp → Prop) (h0 : Pv 0 σ H) (hl : ∀ i σ H, i ≤ xs.length → Pv i σ H → SqL K H a xs)
    (hs : ∀ i x σ H (N : L2.St → Hp → Prop), xs[i]? = some x → Pv i σ H → (∀ σ' H', Pv (i + 1) σ' H' → N σ' H') → g x σ H fun σ2 H2 => tb { D with nx := N, ct := N, bk := D.nx } σ2 H2) (hd : ∀ σ H, Pv xs.length σ H → D.nx σ H) :
    ForJ (Itl K a) g tb D σ H := for_list Pv h0 hl (fun i x σ H hx hp => hs i x σ H (Pv (i + 1)) hx hp (fun _ _ h => h)) hd
theorem for_tupN {K : PySem.W.Frag} {a : Addr} {xs : List V} {g : TG} {tb : TS} {D : Ends} {σ : L2.St} {H : Hp} (Pv : Nat → L2.St → Hp → Prop) (h0 : Pv 0 σ H) (hl : ∀ i σ H, i ≤ xs.length → Pv i σ H → SqT K H a xs)
    (hs : ∀ i x σ H (N : L2.St → Hp → Prop), xs[i]? = some x → Pv i σ H → (∀ σ' H', Pv (i + 1) σ' H' → N σ' H') → g x σ H fun σ2 H2 => tb { D with nx := N, ct := N, bk := D.nx } σ2 H2) (hd : ∀ σ H, Pv xs.length σ H → D.nx σ H) :
    ForJ (Itt K a) g tb D σ H := for_tup Pv h0 hl (fun i x σ H hx hp => hs i x σ H (Pv (i + 1)) hx hp (fun _ _ h => h)) hd
theorem for_rangeN {lo : Int} {n : Nat} {g : TG} {tb : TS} {D : Ends} {σ : L2.St} {H : Hp} (Pv : Nat → L2.St → Hp → Prop) (h0 : Pv 0 σ H)
    (hs : ∀ i σ H (N : L2.St → Hp → Prop), i < n → Pv i σ H → (∀ σ' H', Pv (i + 1) σ' H' → N σ' H') → g (.int (lo + i)) σ H fun σ2 H2 => tb { D with nx := N, ct := N, bk := D.nx } σ2 H2) (hd : ∀ σ H, Pv n σ H → D.nx σ H) :
    ForJ (Itr lo n) g tb D σ H := for_range Pv h0 (fun i σ H hx hp => hs i σ H (Pv (i + 1)) hx hp (fun _ _ h => h)) hd
theorem lc_listN {K : PySem.W.Frag} {a : Addr} {xs : List V} {g : TG} {tt : TT} {te : TE} {vs : List Nat} {σ : L2.St} {H1 : Hp} {D : Addr} {Qd : Hp → Prop} (Pv : Nat → Hp → Prop) (h0 : Pv 0 (upd H1 D (.lst []))) (hl : ∀ i H, i ≤ xs.length → Pv i H → SqL K H a xs)
    (hs : ∀ i x H (N : Hp → Prop), xs[i]? = some x → Pv i H → (∀ H', Pv (i + 1) H' → N H') → g x (wipe σ vs) H fun σ2 H2 => wipe σ2 vs = wipe σ vs ∧ tt σ2 H2 fun b H3 =>
      if b = true then te σ2 H3 fun y H4 => ∃ acc, H4 D = some (.lst acc) ∧ acc.length < sizeLine ∧ N (upd H4 D (.lst (acc ++ [y]))) else N H3) (hd : ∀ H, Pv xs.length H → Qd H) :
    LcJ (Itl K a) g tt te vs D σ H1 Qd := lc_list Pv h0 hl (fun i x H hx hp => hs i x H (Pv (i + 1)) hx hp (fun _ h => h)) hd
theorem lc_tupN {K : PySem.W.Frag} {a : Addr} {xs : List V} {g : TG} {tt : TT} {te : TE} {vs : List Nat} {σ : L2.St} {H1 : Hp} {D : Addr} {Qd : Hp → Prop} (Pv : Nat → Hp → Prop) (h0 : Pv 0 (upd H1 D (.lst []))) (hl : ∀ i H, i ≤ xs.length → Pv i H → SqT K H a xs)
    (hs : ∀ i x H (N : Hp → Prop), xs[i]? = some x → Pv i H → (∀ H', Pv (i + 1) H' → N H') → g x (wipe σ vs) H fun σ2 H2 => wipe σ2 vs = wipe σ vs ∧ tt σ2 H2 fun b H3 =>
      if b = true then te σ2 H3 fun y H4 => ∃ acc, H4 D = some (.lst acc) ∧ acc.length < sizeLine ∧ N (upd H4 D (.lst (acc ++ [y]))) else N H3) (hd : ∀ H, Pv xs.length H → Qd H) :
    LcJ (Itt K a) g tt te vs D σ H1 Qd := lc_tup Pv h0 hl (fun i x H hx hp => hs i x H (Pv (i + 1)) hx hp (fun _ h => h)) hd
theorem lc_rangeN {lo : Int} {n : Nat} {g : TG} {tt : TT} {te : TE} {vs : List Nat} {σ : L2.St} {H1 : Hp} {D : Addr} {Qd : Hp → Prop} (Pv : Nat → Hp → Prop) (h0 : Pv 0 (upd H1 D (.lst [])))
    (hs : ∀ i H (N : Hp → Prop), i < n → Pv i H → (∀ H', Pv (i + 1) H' → N H') → g (.int (lo + i)) (wipe σ vs) H fun σ2 H2 => wipe σ2 vs = wipe σ vs ∧ tt σ2 H2 fun b H3 =>
      if b = true then te σ2 H3 fun y H4 => ∃ acc, H4 D = some (.lst acc) ∧ acc.length < sizeLine ∧ N (upd H4 D (.lst (acc ++ [y]))) else N H3) (hd : ∀ H, Pv n H → Qd H) :
    LcJ (Itr lo n) g tt te vs D σ H1 Qd := lc_range Pv h0 (fun i H hx hp => hs i H (Pv (i + 1)) hx hp (fun _ h => h)) hd
theorem cut_by {t u : TS} {D : Ends} {σ : L2.St} {H : Hp} (M : L2.St → Hp → Prop) (h1 : ∀ N : L2.St → Hp → Prop, (∀ σ' H', M σ' H' → N σ' H') → t { D with nx := N } σ H) (h2 : ∀ σ' H', M σ' H' → u D σ' H') : C8.tCut t u D σ H :=
  ⟨M, h1 M (fun _ _ h => h), h2⟩
/-! signs at the head of what is left -/
def hdIn (ch : List Nat) : List Nat → Bool
  | [] => false
  | c :: _ => decide (c ∈ ch)
theorem run_split (ch : List Nat) : ∀ l : List Nat, ∃ a b, l = a ++ b ∧ (∀ c ∈ a, c ∈ ch) ∧ hdIn ch b = false
  | [] => ⟨[], [], rfl, (fun _ h => nomatch h), rfl⟩
  | c :: r => by
    by_cases h : c ∈ ch
    · obtain ⟨a, b, rfl, h1, h2⟩ := run_split ch r
      refine ⟨c :: a, b, rfl, fun d hd => ?_, h2⟩
      rcases List.mem_cons.mp hd with e | e
      · rw [e]; exact h
      · exact h1 d e
    · exact ⟨[], c :: r, rfl, (fun _ h => nomatch h), decide_eq_false h⟩
theorem at_app {pre : List Nat} {c : Nat} {r : List Nat} : atI (pre ++ c :: r) ((pre.length : Nat) : Int) = some c := by
  refine atI_nat ?_
  rw [List.getElem?_append_right (Nat.le_refl _), Nat.sub_self]
  rfl
theorem cut_mid (pre l rest : List Nat) : Txt.slice (S (pre ++ (l ++ rest))) (some ((pre.length : Nat) : Int)) (some ((pre.length + l.length : Nat) : Int)) = S l := by
  rw [← C8.cutS_slice]
  unfold cutS
  rw [HT.sIx_nat, HT.sIx_nat, len_S, S_cps]
  have e1 : min pre.length (pre ++ (l ++ rest)).length = pre.length := by
    rw [List.length_append]; omega
  have e2 : min (pre.length + l.length) (pre ++ (l ++ rest)).length = pre.length + l.length := by
    rw [List.length_append, List.length_append]; omega
  rw [e1, e2, List.drop_left, Nat.add_sub_cancel_left, List.take_left]
end Dw
namespace Dw
open PySem PySem.Spec PyProof.Rows L2 SX
def NxW (W : Nat → L2.St → Hp → Prop) (m : Nat) (tb : TS) (D : Ends) (σ : L2.St) (H1 : Hp) : Prop := ∃ N : L2.St → Hp → Prop, (∀ σ' H', N σ' H' → ∃ m', m' < m ∧ W m' σ' H') ∧ tb { D with nx := N, ct := N, bk := D.nx } σ H1
theorem nxw_of {W : Nat → L2.St → Hp → Prop} {m : Nat} {tb : TS} {D : Ends} {σ : L2.St} {H1 : Hp} (h : ∀ N : L2.St → Hp → Prop, (∀ m' σ' H', m' < m → W m' σ' H' → N σ' H') → tb { D with nx := N, ct := N, bk := D.nx } σ H1) : NxW W m tb D σ H1 :=
  ⟨_, fun _ _ h => h, h (fun σ' H' => ∃ m', m' < m ∧ W m' σ' H') fun m' σ' H' h1 h2 => ⟨m', h1, h2⟩⟩
theorem while_W {c : TT} {tb : TS} {D : Ends} {σ : L2.St} {H : Hp} (W : Nat → L2.St → Hp → Prop) (h0 : ∃ m, W m σ H)
    (hs : ∀ m σ H, W m σ H → c σ H fun b H1 => if b = true then NxW W m tb D σ H1 else D.nx σ H1) : tWhile c tb D σ H := ⟨W, h0, hs⟩
end Dw
namespace Dw
open PySem PySem.Spec PyProof.Rows L2 SX
/-- a run of these signs and figures, a sign first, of at most 12 -/
def run (ch l : List Nat) : Bool := decide (1 ≤ l.length) && decide (l.length ≤ 12) && hdIn ch l && l.all fun c => decide (c ∈ ch ++ DIG)
/-- a value that is no text -/
inductive NoStr (H : Hp) : V → Prop
  | non : NoStr H .non
  | int (i : Int) : NoStr H (.int i)
  | bl (b : Bool) : NoStr H (.bl b)
  | tup {a : Addr} {xs : List V} (h : H a = some (.tup xs)) : NoStr H (.ref a)
theorem kit_str {K : PySem.W.Frag} : PySem.W.kitOne K (.type "str") (.type "str") = some true := kit_ty (by decide +kernel)
theorem NoStr.ty {K : PySem.W.Frag} {H : Hp} {v : V} (h : NoStr H v) : ∃ t, TyX K H v t ∧ PySem.W.kitOne K t (.type "str") = some false := by
  cases h with
  | non => exact ⟨_, .base .non, kit_ty (by decide +kernel)⟩
  | int i => exact ⟨_, .base (.int i), kit_ty (by decide +kernel)⟩
  | bl b => exact ⟨_, .base (.bl b), kit_ty (by decide +kernel)⟩
  | tup h => exact ⟨_, .base (.tup h), kit_ty (by decide +kernel)⟩
theorem gname_iff {l : List Nat} : (run LOW l && !decide (l ∈ RES)) = true ↔ GName l := by
  unfold run
  constructor
  · intro h
    simp only [Bool.and_eq_true, decide_eq_true_eq, List.all_eq_true, Bool.not_eq_true', decide_eq_false_iff_not] at h
    obtain ⟨⟨⟨⟨h1, h2⟩, h3⟩, h4⟩, h5⟩ := h
    refine ⟨?_, h4, h2, h5⟩
    cases l with
    | nil => exact absurd h1 (by decide)
    | cons c r => exact ⟨c, r, rfl, of_decide_eq_true h3⟩
  · rintro ⟨⟨c, r, rfl, hc⟩, h2, h3, h4⟩
    simp only [Bool.and_eq_true, decide_eq_true_eq, List.all_eq_true, Bool.not_eq_true', decide_eq_false_iff_not]
    exact ⟨⟨⟨⟨by simp, h3⟩, decide_eq_true hc⟩, h2⟩, h4⟩
end Dw
namespace Dw
open PySem PySem.Spec PyProof.Rows L2 SX
structure After (l rest : List Nat) : Prop where
  an : ∀ x, l.getLast? = some x → isAN x = true → ∀ y r, rest = y :: r → isAN y = false
  sg : ∀ s ∈ SGN, l.length < s.length → pfx l s = true → pfx s (l ++ rest) = false
theorem an_ld : ∀ c ∈ LOW ++ DIG, isAN c = true := by decide +kernel
theorem an_ud : ∀ c ∈ UPP ++ DIG, isAN c = true := by decide +kernel
theorem After.hd {l rest ch : List Nat} (h : After l rest) (hne : l ≠ []) (al : ∀ c ∈ l, isAN c = true) (hch : ∀ c ∈ ch, isAN c = true) : hdIn ch rest = false := by
  cases rest with
  | nil => rfl
  | cons y r =>
    have h1 := h.an _ (List.getLast?_eq_some_getLast hne) (al _ (List.getLast_mem hne)) y r rfl
    refine decide_eq_false fun hy => ?_
    rw [hch y hy] at h1
    cases h1
theorem res_ok : ∀ l ∈ RES, (∃ c r, l = c :: r ∧ c ∈ LOW) ∧ (∀ c ∈ l, c ∈ LOW ++ DIG) ∧ l.length ≤ 12 := by decide +kernel
theorem sgn_ok : ∀ l ∈ SGN, l ≠ [] ∧ hdIn LOW l = false ∧ hdIn UPP l = false ∧ hdIn DIG l = false ∧ hdIn [32, 10] l = false := by decide +kernel
theorem low_ok : ∀ c ∈ LOW, c ≠ 32 ∧ c ≠ 10 := by decide +kernel
theorem upp_ok : ∀ c ∈ UPP, c ∉ LOW ∧ c ≠ 32 ∧ c ≠ 10 := by decide +kernel
theorem dig_ok : ∀ c ∈ DIG, c ∉ LOW ∧ c ∉ UPP ∧ c ≠ 32 ∧ c ≠ 10 := by decide +kernel
theorem num_ok : ∀ n : Nat, n < 256 → num n ≠ [] ∧ (∀ c ∈ num n, c ∈ DIG) ∧ (num n).length ≤ 3 ∧ ((num n).head? = some 48 → (num n).length = 1) ∧ (num n).all (fun c => decide (48 ≤ c) && decide (c ≤ 57)) = true ∧ NumText.digitsVal (num n) = n := by decide +kernel
/-- a sign stands ahead of the signs that it begins with -/
theorem sgn_first : ∀ (i j : Fin 24), i < j → pfx (SGN.getD i []) (SGN.getD j []) = false := by decide +kernel
theorem num_int {n : Nat} (h : n < 256) : intText? (S (num n)) = some (n : Int) := by
  obtain ⟨h1, h2, h3, h4, h5, h6⟩ := num_ok n h
  rw [int_S h5 h1 (by omega), h6]
end Dw
namespace Dw
open PySem PySem.Spec PyProof.Rows L2 SX
theorem sgn_len24 : SGN.length = 24 := by decide +kernel
theorem sgn_before {i j : Nat} {s l : List Nat} (h : i < j) (hi : SGN[i]? = some s) (hj : SGN[j]? = some l) : pfx s l = false := by
  have h1 : j < 24 := by
    have := (List.getElem?_eq_some_iff.mp hj).1
    rw [sgn_len24] at this
    exact this
  have := sgn_first ⟨i, by omega⟩ ⟨j, h1⟩ h
  rw [List.getD_eq_getElem?_getD, List.getD_eq_getElem?_getD] at this
  rw [show SGN[(⟨i, by omega⟩ : Fin 24).val]? = some s from hi, show SGN[(⟨j, h1⟩ : Fin 24).val]? = some l from hj] at this
  exact this
theorem pfx_short {s l r : List Nat} (h : pfx s (l ++ r) = true) (hl : s.length ≤ l.length) : pfx s l = true := by
  unfold pfx at h ⊢
  rw [List.take_append_of_le_length hl] at h
  exact h
theorem pfx_two {s l r : List Nat} (h : pfx s (l ++ r) = true) (hl : l.length ≤ s.length) : pfx l s = true := by
  unfold pfx at h ⊢
  rw [beq_iff_eq] at h ⊢
  rw [← h, List.take_take, Nat.min_eq_left hl, List.take_left]
end Dw
namespace Dw
open PySem PySem.Spec PyProof.Rows L2 SX
/-- a piece, the space behind it, its token's kind and value -/
structure Itm where
  l : List Nat
  sp : List Nat
  k : List Nat
  v : V
def irow (x : Itm) : TRow := (x.l, x.sp)
abbrev iflat (r : List Itm) : List Nat := flat (r.map irow)
def Goods : List Itm → Prop
  | [] => True
  | x :: r => Piece x.l x.k x.v ∧ Blank x.sp ∧ After x.l (x.sp ++ iflat r) ∧ Goods r
theorem iflat_cons (x : Itm) (r : List Itm) : iflat (x :: r) = x.l ++ (x.sp ++ iflat r) := flat_cons _ _
/-- the tokens of these items stand at these places -/
def Toks (H : Hp) : Nat → List Itm → List Addr → Prop
  | _, [], [] => True
  | n, x :: r, a :: as => H a = some (.tup [.str (S x.k), x.v, .int (n : Nat)]) ∧ Toks H (n + x.l.length + x.sp.length) r as
  | _, _, _ => False
theorem Toks.same {H H' : Hp} (e : Same H H') : ∀ {n : Nat} {r : List Itm} {as : List Addr}, Toks H n r as → Toks H' n r as
  | _, [], [], _ => trivial
  | _, x :: r, a :: as, h => ⟨e _ _ h.1, Toks.same e h.2⟩
  | _, [], _ :: _, h => h.elim
  | _, _ :: _, [], h => h.elim
theorem Toks.but {p : Addr} {H H' : Hp} (e : But p H H') (hp : ∀ xs, H p ≠ some (.tup xs)) : ∀ {n : Nat} {r : List Itm} {as : List Addr}, Toks H n r as → Toks H' n r as
  | _, [], [], _ => trivial
  | _, x :: r, a :: as, h => ⟨e _ _ (fun q => hp _ (q ▸ h.1)) h.1, Toks.but e hp h.2⟩
  | _, [], _ :: _, h => h.elim
  | _, _ :: _, [], h => h.elim
theorem Toks.len {H : Hp} : ∀ {n : Nat} {r : List Itm} {as : List Addr}, Toks H n r as → as.length = r.length
  | _, [], [], _ => rfl
  | _, x :: r, a :: as, h => congrArg (· + 1) (Toks.len h.2)
  | _, [], _ :: _, h => h.elim
  | _, _ :: _, [], h => h.elim
theorem Toks.snoc {H : Hp} {x : Itm} {a : Addr} : ∀ {n : Nat} {r : List Itm} {as : List Addr}, Toks H n r as → H a = some (.tup [.str (S x.k), x.v, .int ((n + (iflat r).length : Nat) : Int)]) → Toks H n (r ++ [x]) (as ++ [a])
  | _, [], [], _, h => ⟨h, trivial⟩
  | n, y :: r, b :: as, h, h2 => ⟨h.1, Toks.snoc h.2 (by
      rw [iflat_cons, List.length_append, List.length_append] at h2
      rw [show n + y.l.length + y.sp.length + (iflat r).length = n + (y.l.length + (y.sp.length + (iflat r).length)) by omega]
      exact h2)⟩
  | _, [], _ :: _, h, _ => h.elim
  | _, _ :: _, [], h, _ => h.elim
theorem Goods.append : ∀ {a b : List Itm}, Goods (a ++ b) → Goods b
  | [], _, h => h
  | _ :: a, _, h => Goods.append (a := a) h.2.2.2
theorem piece_hd {l k : List Nat} {v : V} (h : Piece l k v) : ∃ c r, l = c :: r ∧ c ≠ 32 ∧ c ≠ 10 := by
  cases h with
  | res h =>
    obtain ⟨⟨c, r, e, hc⟩, _⟩ := res_ok l h
    exact ⟨c, r, e, low_ok c hc⟩
  | name h =>
    obtain ⟨c, r, e, hc⟩ := h.hd
    exact ⟨c, r, e, low_ok c hc⟩
  | word h =>
    obtain ⟨c, r, e, hc⟩ := h.hd
    exact ⟨c, r, e, (upp_ok c hc).2⟩
  | num n h =>
    obtain ⟨n1, n2, _⟩ := num_ok n h
    obtain ⟨c, r, e⟩ := cons_of n1
    exact ⟨c, r, e, (dig_ok c (n2 c (by rw [e]; exact List.mem_cons_self))).2.2⟩
  | sign h =>
    obtain ⟨n1, _, _, _, n5⟩ := sgn_ok l h
    obtain ⟨c, r, e⟩ := cons_of n1
    rw [e] at n5
    have : c ∉ [32, 10] := of_decide_eq_false n5
    simp at this
    exact ⟨c, r, e, this⟩
theorem piece_len {l k : List Nat} {v : V} (h : Piece l k v) : l.length ≤ 12 := by
  cases h with
  | res h => exact (res_ok l h).2.2
  | name h => exact h.le
  | word h => exact h.le
  | num n h => have := (num_ok n h).2.2.1; omega
  | sign h => have := sgn_len l h; omega
end Dw
namespace Dw
open PySem PySem.Spec PyProof.Rows L2 SX
theorem Same.new {H H1 : Hp} {t : Addr} {o : HO} (e : Same H H1) (ht : H t = none) : Same H (L2.upd H1 t o) := fun b u h => by
  rw [upd_ne (ne_of_none h ht)]
  exact e b u h
end Dw
namespace Dw
open PySem PySem.Spec PyProof.Rows L2 SX
/-! the tokens as data -/
inductive TV : V → PyData → Prop
  | str (z : Str) : TV (.str z) (.str z)
  | int (i : Int) : TV (.int i) (.int i)
def vD : V → PyData
  | .str z => .str z
  | .int i => .int i
  | _ => .none
theorem piece_vD {l k : List Nat} {v : V} (h : Piece l k v) : TV v (vD v) := by
  cases h <;> constructor
def tokD (n : Nat) (x : Itm) : PyData := .tuple [.str (S x.k), vD x.v, .int (n : Nat)]
def toksD : Nat → List Itm → List PyData
  | _, [] => []
  | n, x :: r => tokD n x :: toksD (n + x.l.length + x.sp.length) r
theorem vD_depth (v : V) : (vD v).depth = 0 := by
  cases v <;> simp [vD, PyData.depth]
theorem ok_S {l : List Nat} (h : ∀ c ∈ l, c < 128) : PyData.strOk (S l) = true := by
  unfold PyData.strOk
  rw [← Array.all_toList]
  exact List.all_eq_true.mpr fun c hc => decide_eq_true (Nat.lt_trans (h c hc) (by decide))
theorem ld_128 : ∀ c ∈ LOW ++ DIG, c < 128 := by decide +kernel
theorem ud_128 : ∀ c ∈ UPP ++ DIG, c < 128 := by decide +kernel
theorem sgn_128 : ∀ s ∈ SGN, ∀ c ∈ s, c < 128 := by decide +kernel
theorem kinds_128 : ∀ s ∈ (["reserved", "name", "word", "number", "sign"] : List String), ∀ c ∈ cs s, c < 128 := by decide +kernel
structure LayI (x : Itm) : Prop where
  k : PyData.strOk (S x.k) = true
  v : (vD x.v).canLay0 = true
theorem piece_lay {l k : List Nat} {v : V} (h : Piece l k v) : PyData.strOk (S k) = true ∧ (vD v).canLay0 = true := by
  cases h with
  | res h => exact ⟨ok_S (kinds_128 "reserved" (by simp)), by simp only [vD, PyData.canLay0]; exact ok_S fun c hc => ld_128 c ((res_ok l h).2.1 c hc)⟩
  | name h => exact ⟨ok_S (kinds_128 "name" (by simp)), by simp only [vD, PyData.canLay0]; exact ok_S fun c hc => ld_128 c (h.all c hc)⟩
  | word h => exact ⟨ok_S (kinds_128 "word" (by simp)), by simp only [vD, PyData.canLay0]; exact ok_S fun c hc => ud_128 c (h.all c hc)⟩
  | num n h => exact ⟨ok_S (kinds_128 "number" (by simp)), by simp only [vD, PyData.canLay0]⟩
  | sign h => exact ⟨ok_S (kinds_128 "sign" (by simp)), by simp only [vD, PyData.canLay0]; exact ok_S fun c hc => sgn_128 l h c hc⟩
theorem toksD_lay : ∀ (n : Nat) (r : List Itm), (∀ x ∈ r, LayI x) → PyData.canLayAll0 (toksD n r) = true
  | _, [], _ => by simp [toksD, PyData.canLayAll0]
  | n, x :: r, h => by
    have h1 := h x List.mem_cons_self
    simp [toksD, tokD, PyData.canLayAll0, PyData.canLay0, h1.k, h1.v, toksD_lay _ r fun y hy => h y (List.mem_cons_of_mem _ hy)]
theorem toksD_depth : ∀ (n : Nat) (r : List Itm), PyData.depthAll (toksD n r) ≤ 1
  | _, [] => by simp [toksD, PyData.depthAll]
  | n, x :: r => by
    have h1 := toksD_depth (n + x.l.length + x.sp.length) r
    simp only [toksD, tokD, PyData.depthAll, PyData.depth, vD_depth x.v]
    omega
theorem toksD_shaped (n : Nat) (r : List Itm) (h : ∀ x ∈ r, LayI x) : SeqAt.shaped (.list (toksD n r)) = true := by
  have h1 := toksD_depth n r
  have h2 : PyData.depth (.list (toksD n r)) ≤ 64 := by
    simp only [PyData.depth]
    omega
  show (PyData.canLay0 (.list (toksD n r)) && decide (PyData.depth (.list (toksD n r)) ≤ 64)) = true
  rw [Bool.and_eq_true]
  exact ⟨by simp only [PyData.canLay0]; exact toksD_lay n r h, decide_eq_true h2⟩
theorem shaped_refl {d : PyData} (h : SeqAt.shaped d = true) : PyData.eqv d d = true := SeqAt.eqv_refl d (SeqAt.canLay_of_shaped h)
theorem toks_dp {K : PySem.W.Frag} {H : Hp} : ∀ {n : Nat} {r : List Itm} {as : List Addr}, (∀ x ∈ r, TV x.v (vD x.v)) → Toks H n r as → DpAll K H (as.map V.ref) (toksD n r)
  | _, [], [], _, _ => .nil
  | n, x :: r, a :: as, hv, h => by
    refine .cons (.tup (SqT.of h.1) (.cons (.str _) (.cons ?_ (.cons (.int _) .nil)))) (toks_dp (fun y hy => hv y (List.mem_cons_of_mem _ hy)) h.2)
    have := hv x List.mem_cons_self
    generalize vD x.v = d at this
    cases hx : x.v <;> rw [hx] at this <;> cases this
    · exact .int _
    · exact .str _
  | _, [], _ :: _, _, h => h.elim
  | _, _ :: _, [], _, h => h.elim
theorem strs_lay : ∀ L : List (List Nat), (∀ l ∈ L, ∀ c ∈ l, c < 128) → PyData.canLayAll0 (L.map fun l => .str (S l)) = true
  | [], _ => by simp [PyData.canLayAll0]
  | l :: L, h => by simp [PyData.canLayAll0, PyData.canLay0, ok_S (h l List.mem_cons_self), strs_lay L fun m hm => h m (List.mem_cons_of_mem _ hm)]
theorem strs_depth : ∀ L : List (List Nat), PyData.depthAll (L.map fun l => .str (S l)) = 0
  | [] => by simp [PyData.depthAll]
  | l :: L => by simp [PyData.depthAll, PyData.depth, strs_depth L]
theorem strs_shaped (L : List (List Nat)) (h : ∀ l ∈ L, ∀ c ∈ l, c < 128) : SeqAt.shaped (.list (L.map fun l => .str (S l))) = true := by
  simp [SeqAt.shaped, PyData.canLay0, PyData.depth, strs_lay L h, strs_depth]
theorem res_128 : ∀ s ∈ RES, ∀ c ∈ s, c < 128 := by decide +kernel
theorem strs_dp {K : PySem.W.Frag} {H : Hp} : ∀ L : List (List Nat), DpAll K H (L.map vS) (L.map fun l => .str (S l))
  | [] => .nil
  | _ :: L => .cons (.str _) (strs_dp L)
/-! pieces as they stand -/
structure Pc where
  r : Addr
  t : Addr
  l : List Nat
  k : List Nat
  v : V
def PcsAt (H : Hp) (ps : List Pc) : Prop := ∀ x ∈ ps, Piece x.l x.k x.v ∧ H x.r = some (.lst [.str (S x.l), .ref x.t]) ∧ H x.t = some (.tup [.str (S x.k), x.v])
theorem PcsAt.same {H H' : Hp} {ps : List Pc} (h : PcsAt H ps) (e : Same H H') : PcsAt H' ps := fun x hx => ⟨(h x hx).1, e _ _ (h x hx).2.1, e _ _ (h x hx).2.2⟩
/-- at p stands none of the pieces' objects -/
theorem PcsAt.but {H H' : Hp} {p : Addr} {ps : List Pc} (h : PcsAt H ps) (e : But p H H') (h1 : ∀ l t, H p ≠ some (.lst [.str l, .ref t])) (h2 : ∀ xs, H p ≠ some (.tup xs)) : PcsAt H' ps := fun x hx =>
  ⟨(h x hx).1, e _ _ (fun q => h1 _ _ (q ▸ (h x hx).2.1)) (h x hx).2.1, e _ _ (fun q => h2 _ (q ▸ (h x hx).2.2)) (h x hx).2.2⟩
theorem PcsAt.pool {H H' : Hp} {p q : Addr} {ns : List Int} {ps : List Pc} (h : PcsAt H ps) (hP : Pool H p q ns) (e : But p H H') : PcsAt H' ps := by
  obtain ⟨_, _, a, k, hp, _⟩ := hP
  refine h.but e (fun l t e2 => ?_) (fun xs e2 => ?_)
  · rw [hp] at e2
    cases e2
  · rw [hp] at e2
    cases e2
theorem Toks.pool {H H' : Hp} {p q : Addr} {ns : List Int} {n : Nat} {r : List Itm} {as : List Addr} (h : Toks H n r as) (hP : Pool H p q ns) (e : But p H H') : Toks H' n r as := by
  obtain ⟨_, _, a, k, hp, _⟩ := hP
  refine h.but e (fun xs e2 => ?_)
  rw [hp] at e2
  cases e2
/-! what stands behind a piece -/
def mkI : List Pc → List TRow → List Itm
  | x :: ps, y :: rs => ⟨x.l, y.2, x.k, x.v⟩ :: mkI ps rs
  | _, _ => []
theorem mkI_rows : ∀ (ps : List Pc) (rows : List TRow), rows.map (·.1) = ps.map (·.l) → (mkI ps rows).map irow = rows
  | [], [], _ => rfl
  | x :: ps, y :: rs, h => by
    rw [List.map_cons, List.map_cons] at h
    obtain ⟨h1, h2⟩ := List.cons.inj h
    show irow _ :: (mkI ps rs).map irow = y :: rs
    rw [mkI_rows ps rs h2]
    show ((x.l, y.2) : TRow) :: rs = y :: rs
    rw [← h1]
  | [], _ :: _, h => by cases h
  | _ :: _, [], h => by cases h
theorem mkI_len : ∀ (ps : List Pc) (rows : List TRow), rows.map (·.1) = ps.map (·.l) → (mkI ps rows).length = ps.length
  | [], [], _ => rfl
  | x :: ps, y :: rs, h => by
    rw [List.map_cons, List.map_cons] at h
    exact congrArg (· + 1) (mkI_len ps rs (List.cons.inj h).2)
  | [], _ :: _, h => by cases h
  | _ :: _, [], h => by cases h
theorem mkI_get : ∀ (ps : List Pc) (rows : List TRow) (i : Nat) (x : Pc) (y : TRow), ps[i]? = some x → rows[i]? = some y → (mkI ps rows)[i]? = some ⟨x.l, y.2, x.k, x.v⟩
  | [], _, _, _, _, h, _ => by simp at h
  | _ :: _, [], _, _, _, _, h => by simp at h
  | a :: ps, b :: rs, 0, x, y, h1, h2 => by
    obtain rfl := Option.some.inj h1
    obtain rfl := Option.some.inj h2
    rfl
  | a :: ps, b :: rs, i + 1, x, y, h1, h2 => mkI_get ps rs i x y h1 h2
theorem an_sp : isAN 32 = false ∧ isAN 10 = false := by decide +kernel
theorem sgn_nosp : ∀ s ∈ SGN, ∀ c ∈ s, c ≠ 32 ∧ c ≠ 10 := by decide +kernel
theorem sgn_take : ∀ s ∈ SGN, s.length = 3 → s.take 2 ∈ SGN := by decide +kernel
theorem piece_ne {l k : List Nat} {v : V} (h : Piece l k v) : l ≠ [] := by
  obtain ⟨c, r, e, _⟩ := piece_hd h
  rw [e]
  exact List.cons_ne_nil _ _
theorem joins_no {a b : List Nat} (h : joins a b = false) : (isAN (a.getLast?.getD 0) && isAN (b.head?.getD 0)) = false ∧ ∀ s ∈ SGN, (decide (a.length < s.length) && pfx a s && pfx s (a ++ b)) = false := by
  unfold joins at h
  rw [Bool.or_eq_false_iff, List.any_eq_false] at h
  exact ⟨h.1, fun s hs => Bool.eq_false_iff.mpr (h.2 s hs)⟩
theorem after_of {l sp rest : List Nat} (hb : ∀ c ∈ sp, c = 32 ∨ c = 10) (hr : sp = [] → rest ≠ [] → ∃ b tl, rest = b ++ tl ∧ b ≠ [] ∧ l ≠ [] ∧ joins l b = false) : After l (sp ++ rest) := by
  constructor
  · intro x hx hax y r hy
    cases sp with
    | cons c sp' =>
      obtain rfl : c = y := (List.cons.inj hy).1
      rcases hb c List.mem_cons_self with e | e
      · rw [e]; exact an_sp.1
      · rw [e]; exact an_sp.2
    | nil =>
      rw [List.nil_append] at hy
      obtain ⟨b, tl, e, hbn, _, hj⟩ := hr rfl (by rw [hy]; exact List.cons_ne_nil _ _)
      obtain ⟨c, b', rfl⟩ := cons_of hbn
      rw [e] at hy
      obtain rfl : c = y := (List.cons.inj hy).1
      have h1 := (joins_no hj).1
      rw [hx] at h1
      simpa [hax] using h1
  · intro s hs hlt hp
    cases hc : pfx s (l ++ (sp ++ rest)) with
    | false => rfl
    | true =>
      exfalso
      have hs3 := sgn_len s hs
      obtain ⟨u, hu⟩ := pfx_iff.mp hp
      have hune : u ≠ [] := fun e => by rw [hu, e, List.append_nil] at hlt; exact Nat.lt_irrefl _ hlt
      obtain ⟨w, hw⟩ := pfx_iff.mp hc
      rw [hu, List.append_assoc] at hw
      have hw2 := List.append_cancel_left hw
      obtain ⟨d, u', rfl⟩ := cons_of hune
      cases sp with
      | cons c sp' =>
        have e : c = d := (List.cons.inj hw2).1
        have h1 := sgn_nosp s hs d (by rw [hu]; simp)
        rcases hb c List.mem_cons_self with e2 | e2
        · exact h1.1 (by rw [← e, e2])
        · exact h1.2 (by rw [← e, e2])
      | nil =>
        rw [List.nil_append] at hw2 hc
        obtain ⟨b, tl, e, hbn, hln, hj⟩ := hr rfl (by rw [hw2]; exact List.cons_ne_nil _ _)
        have hno := (joins_no hj).2
        by_cases hle : s.length ≤ (l ++ b).length
        · have h3 := hno s hs
          rw [decide_eq_true hlt, hp] at h3
          rw [e, ← List.append_assoc] at hc
          rw [pfx_short hc hle] at h3
          cases h3
        · have l1 : 1 ≤ l.length := List.length_pos_iff.mpr hln
          have b1 : 1 ≤ b.length := List.length_pos_iff.mpr hbn
          rw [List.length_append] at hle
          have hs3' : s.length = 3 := by omega
          have hll : l.length = 1 := by omega
          have hbb : b.length = 1 := by omega
          have ht := sgn_take s hs hs3'
          have et : s.take 2 = l ++ b := by
            rw [e, ← List.append_assoc] at hc
            obtain ⟨w2, hw3⟩ := pfx_iff.mp hc
            have : (l ++ b ++ tl).take 2 = l ++ b := by
              rw [List.take_append_of_le_length (by rw [List.length_append]; omega), List.take_of_length_le (by rw [List.length_append]; omega)]
            rw [← this, hw3, List.take_append_of_le_length (by omega)]
          have h3 := hno _ ht
          rw [et] at h3
          have e1 : decide (l.length < (l ++ b).length) = true := decide_eq_true (by rw [List.length_append]; omega)
          have e2 : pfx l (l ++ b) = true := pfx_iff.mpr ⟨b, rfl⟩
          have e3 : pfx (l ++ b) (l ++ b) = true := pfx_iff.mpr ⟨[], by simp⟩
          rw [e1, e2, e3] at h3
          cases h3
theorem goods_of : ∀ (ps : List Pc) (rows : List TRow), rows.map (·.1) = ps.map (·.l) → (∀ x ∈ rows, Blank x.2) → Sepd rows → (∀ x ∈ ps, Piece x.l x.k x.v) → Goods (mkI ps rows)
  | [], [], _, _, _, _ => trivial
  | x :: ps, y :: rs, h, hb, hs, hp => by
    have h0 := h
    rw [List.map_cons, List.map_cons] at h
    obtain ⟨h1, h2⟩ := List.cons.inj h
    refine ⟨hp x List.mem_cons_self, hb y List.mem_cons_self, ?_, goods_of ps rs h2 (fun z hz => hb z (List.mem_cons_of_mem _ hz)) (fun k a b ha hb' => hs (k + 1) a b ha hb') (fun z hz => hp z (List.mem_cons_of_mem _ hz))⟩
    show After x.l (y.2 ++ flat ((mkI ps rs).map irow))
    rw [mkI_rows ps rs h2]
    refine after_of (hb y List.mem_cons_self).1 (fun hsp hne => ?_)
    cases rs with
    | nil => exact absurd rfl hne
    | cons z rs' =>
      cases ps with
      | nil => cases h2
      | cons w ps' =>
        have hw : z.1 = w.l := (List.cons.inj h2).1
        refine ⟨z.1, z.2 ++ flat rs', flat_cons _ _, by rw [hw]; exact piece_ne (hp w (by simp)), piece_ne (hp x (by simp)), ?_⟩
        cases hj : joins x.l z.1 with
        | false => rfl
        | true => exact absurd hsp (hs 0 y z rfl rfl (by rw [h1]; exact hj))
  | [], _ :: _, h, _, _, _ => by cases h
  | _ :: _, [], h, _, _, _ => by cases h
theorem places_get : ∀ (n : Nat) (rows : List TRow) (i : Nat), i < rows.length → (places n rows)[i]? = some (.int ((n + (flat (rows.take i)).length : Nat) : Int))
  | n, y :: r, 0, _ => by simp [places, flat]
  | n, y :: r, i + 1, h => by
    show (places (n + y.1.length + y.2.length) r)[i]? = _
    rw [places_get _ r i (Nat.lt_of_succ_lt_succ h), List.take_succ_cons, flat_cons, List.length_append, List.length_append]
    rw [show n + y.1.length + y.2.length + (flat (r.take i)).length = n + (y.1.length + (y.2.length + (flat (r.take i)).length)) by omega]
theorem goods_mem : ∀ {is : List Itm}, Goods is → ∀ x ∈ is, Piece x.l x.k x.v
  | [], _, _, h => nomatch h
  | y :: r, g, x, h => by
    rcases List.mem_cons.mp h with e | e
    · rw [e]; exact g.1
    · exact goods_mem g.2.2.2 x e
end Dw
namespace Dw
open PySem PySem.Spec PyProof.Rows L2 SX
/-! rules that name the written part K itself (for a comprehension's block) -/
section
variable {X : Cx} (K : PySem.W.Frag)
theorem ixL (h : X.K = K := by rfl) : IxR X (rIxL K) := h ▸ ix_list
theorem ixT (h : X.K = K := by rfl) : IxR X (rIxT K) := h ▸ ix_tup
def rLen (K : PySem.W.Frag) : List V → Hp → VK → Prop := fun xs H Q => ∃ p ys, xs = [.ref p] ∧ (SqL K H p ys ∨ SqT K H p ys) ∧ Q (.int ys.length) H
theorem lenS (h : X.K = K := by rfl) : CallR X (.builtin "len") (rLen K) := h ▸ call_len_seq
theorem inQ (h : X.K = K := by rfl) : OpR X (compareOp .In) (rIn K false) := h ▸ op_in_seq
theorem notInQ (h : X.K = K := by rfl) : OpR X (compareOp .NotIn) (rIn K true) := h ▸ op_notIn_seq
theorem catA (h : X.K = K := by rfl) : OpR X (binaryOp .Add) (rCatA K) := h ▸ op_catA
theorem eqDK (hu : X.A.units + 64 < cLine) (h : X.K = K := by rfl) : OpR X (compareOp .Eq) (rEqD K) := h ▸ op_eqD hu
theorem neDK (hu : X.A.units + 64 < cLine) (h : X.K = K := by rfl) : OpR X (compareOp .NotEq) (rNeD K) := h ▸ op_neD hu
def rListOf (K : PySem.W.Frag) : List V → Hp → VK → Prop := fun xs H Q => ∃ p ys, xs = [.ref p] ∧ (SqL K H p ys ∨ SqT K H p ys) ∧ ∀ l, H l = none → Q (.ref l) (upd H l (.lst ys))
theorem listOf (h : X.K = K := by rfl) : CallR X (.type "list") (rListOf K) := h ▸ call_list_of
def rTupOf (K : PySem.W.Frag) : List V → Hp → VK → Prop := fun xs H Q => ∃ p ys, xs = [.ref p] ∧ ((SqL K H p ys ∧ ∀ l, H l = none → Q (.ref l) (upd H l (.tup ys))) ∨ (SqT K H p ys ∧ Q (.ref p) H))
theorem tupOf (h : X.K = K := by rfl) : CallR X (.type "tuple") (rTupOf K) := h ▸ call_tuple_of
theorem isiK (h : X.K = K := by rfl) : CallR X (.builtin "isinstance") (rIsi K) := h ▸ call_isi
end
end Dw
namespace Dw
open PySem PySem.Spec PyProof.Rows L2 SX
theorem isi_of {K : PySem.W.Frag} {H : Hp} {Q : VK} {x : V} {t : Value} {c : String} {b : Bool} (ty : TyX K H x t) (k : PySem.W.kitOne K t (.type c) = some b) (q : Q (.bl b) H) : rIsi K [x, .ty c] H Q := ⟨x, .ty c, t, .type c, b, rfl, .ty _, ty, k, q⟩
end Dw
namespace Dw
open PySem PySem.Spec PyProof.Rows L2 SX
theorem Toks.get {H : Hp} : ∀ {n : Nat} {r : List Itm} {as : List Addr} {i : Nat} {x : Itm}, Toks H n r as → r[i]? = some x → ∃ (a : Addr) (m : Nat), as[i]? = some a ∧ H a = some (.tup [.str (S x.k), x.v, .int (m : Nat)])
  | _, [], [], _, _, _, h => by simp at h
  | n, y :: r, a :: as, 0, x, h, e => by
    obtain rfl := Option.some.inj e
    exact ⟨a, n, rfl, h.1⟩
  | n, y :: r, a :: as, i + 1, x, h, e => by
    obtain ⟨b, m, h1, h2⟩ := Toks.get (r := r) (i := i) (x := x) h.2 (by simpa using e)
    exact ⟨b, m, by simpa using h1, h2⟩
  | _, [], _ :: _, _, _, h, _ => h.elim
  | _, _ :: _, [], _, _, h, _ => h.elim
theorem run_no {l : List Nat} (h : hdIn LOW l = false) : (run LOW l && !decide (l ∈ RES)) = false := by
  unfold run
  rw [h]
  simp
theorem kinds_ne : cs "reserved" ≠ cs "name" ∧ cs "word" ≠ cs "name" ∧ cs "number" ≠ cs "name" ∧ cs "sign" ≠ cs "name" := by decide +kernel
theorem piece_name {l k : List Nat} {v : V} (h : Piece l k v) : (run LOW l && !decide (l ∈ RES)) = decide (k = cs "name") := by
  cases h with
  | res h =>
    rw [decide_eq_true h, decide_eq_false kinds_ne.1]
    simp
  | name h => rw [gname_iff.mpr h, decide_eq_true rfl]
  | word h =>
    obtain ⟨c, r, e, hc⟩ := h.hd
    rw [decide_eq_false kinds_ne.2.1, run_no]
    rw [e]
    exact decide_eq_false (upp_ok c hc).1
  | num n h =>
    obtain ⟨n1, n2, _⟩ := num_ok n h
    obtain ⟨c, r, e⟩ := cons_of n1
    rw [decide_eq_false kinds_ne.2.2.1, run_no]
    rw [e]
    exact decide_eq_false (dig_ok c (n2 c (by rw [e]; exact List.mem_cons_self))).1
  | sign h =>
    rw [decide_eq_false kinds_ne.2.2.2, run_no (sgn_ok l h).2.1]
theorem tv_bool {K : PySem.W.Frag} {H : Hp} {v : V} {d : PyData} (h : TV v d) : ∃ t, TyX K H v t ∧ PySem.W.kitOne K t (.type "bool") = some false := by
  cases h with
  | str z => exact ⟨_, .base (.str _), kit_ty (by decide +kernel)⟩
  | int i => exact ⟨_, .base (.int _), kit_ty (by decide +kernel)⟩
theorem kit_list {K : PySem.W.Frag} : PySem.W.kitOne K (.type "list") (.type "list") = some true := kit_ty (by decide +kernel)
/-- no names -/
def OTH : List (List Nat) := [cs "", cs "1a", List.replicate 13 97, cs "a b", cs "aB", cs "A", cs "a_"]
theorem oth_no : ∀ l ∈ OTH, (run LOW l && !decide (l ∈ RES)) = false ∧ l.length ≤ 1000 := by decide +kernel
theorem mul_a : Txt.mul (S (cs "a")) 13 = S (List.replicate 13 97) := by decide +kernel
theorem mul_z : Txt.mul (S (cs "z")) 12 = S (List.replicate 12 122) := by decide +kernel
theorem run_z : (run LOW (List.replicate 12 122) && !decide (List.replicate 12 122 ∈ RES)) = true := by decide +kernel
end Dw
namespace Dw
open PySem PySem.Spec PyProof.Rows L2 SX
/-! bad pieces -/
def BADC : List Nat := cs "!\"#$'./?@\\^_`"
inductive Bad : List Nat → Prop
  | char {c : Nat} (h : c ∈ BADC) : Bad [c]
  | longN {l : List Nat} (h0 : hdIn LOW l = true) (h1 : ∀ c ∈ l, c ∈ LOW ++ DIG) (h2 : 12 < l.length) (h3 : l.length ≤ 20) : Bad l
  | longW {l : List Nat} (h0 : hdIn UPP l = true) (h1 : ∀ c ∈ l, c ∈ UPP ++ DIG) (h2 : 12 < l.length) (h3 : l.length ≤ 20) : Bad l
  | mixN {a b : List Nat} (h0 : hdIn LOW a = true) (h1 : ∀ c ∈ a, c ∈ LOW ++ DIG) (h2 : hdIn UPP b = true) (h3 : a.length ≤ 10) (h4 : b.length ≤ 10) (h5 : ∀ c ∈ b, isAN c = true) : Bad (a ++ b)
  | mixW {a b : List Nat} (h0 : hdIn UPP a = true) (h1 : ∀ c ∈ a, c ∈ UPP ++ DIG) (h2 : hdIn LOW b = true) (h3 : a.length ≤ 10) (h4 : b.length ≤ 10) (h5 : ∀ c ∈ b, isAN c = true) : Bad (a ++ b)
  | zeros {l : List Nat} (h0 : l.head? = some 48) (h1 : ∀ c ∈ l, c ∈ DIG) (h2 : 1 < l.length) (h3 : l.length ≤ 30) : Bad l
  | big {l : List Nat} (h0 : l ≠ []) (h1 : ∀ c ∈ l, c ∈ DIG) (h2 : l.length ≤ 30) (n : Nat) (h3 : intText? (S l) = some (n : Int)) (h4 : 255 < n) : Bad l
  | letr {a b : List Nat} (h0 : a ≠ []) (h1 : ∀ c ∈ a, c ∈ DIG) (h2 : hdIn (LOW ++ UPP) b = true) (h3 : a.length ≤ 10) (h4 : b.length ≤ 10) (h5 : ∀ c ∈ b, isAN c = true) : Bad (a ++ b)
end Dw
namespace Dw
open PySem PySem.Spec PyProof.Rows L2 SX
/-! max(list, default=d) -/
theorem mxk (a v : Value) : argsOk "max" ⟨[a], [(Str.ofString "default", v)]⟩ := by unfold argsOk; kernel_rfl
theorem mxn : (toString "max" ++ toString ".loop" : String) = "max.loop" := by decide
section
variable {pr : Program} {w : World} {A : Around} {I : Addr} {fp wr : List Addr} {n : Nat} {P : Nat → Value → Prop} {St : Nat → Heap → Prop} {R : Result → Shared → Prop}
/-- what the loop leaves to be shown -/
def MxEnd (P : Nat → Value → Prop) (wr : List Addr) (n : Nat) (bt : Nat → Nat → Bool) (S : Addr) (R : Result → Shared → Prop) (s : Shared) : Prop :=
  ∀ v h' tk, P (argBest bt (n - 1)) v → (∀ b o, b ∉ wr → b ≠ S → s.heap.get? b = some o → h'.get? b = some o) → R (.ok (.ret v)) { s with heap := h', toks := tk }
theorem mx_turn (W : Walks pr w A.in1 I fp wr n P St) (bt : Nat → Nat → Bool) (cm : CmpOf pr w A.in1 .Gt P bt) (d : Value) (S : Addr) (nS : S ∉ fp) :
    ∀ (k j : Nat) (s : Shared) (x : Value) (c : Nat), n - (j + 1) = k → j + 1 ≤ n → St (j + 1) s.heap → P (argBest bt j) x → s.heap.get? S = some ⟨.type "list", none, .seq #[x, x] c, #[]⟩ → MxEnd P wr n bt S R s →
      codeAny (model pr w) A (.builtin "max.loop" ⟨[.ref I, .none, .ref S], [(Str.ofString "default", d)]⟩) R s := by
  have nW : S ∉ wr := fun q => nS (W.sub _ q)
  intro k
  induction k with
  | zero =>
    intro j s x c e0 lj st px hS fin
    have ej : j + 1 = n := by omega
    refine codeAny_builtin PySem.F.entry_max_loop ?_; rw [Around.under_plainId PySem.F.plain_max_loop _]
    show wpAny _ A.in1 (seqItems? (.ref S) >>= _) _ _ s
    refine wpAny_bind (wpAny_seqItems hS rfl (?_ : wpAny _ A.in1 (tryCatch (pyNext (.ref I)) _ >>= _) _ _ s))
    refine wpAny_bind (wpAny_tryCatch (W.done s _ _ (ej ▸ st) fun h1 tk kp => ?_))
    have hS1 := kp S _ nW hS
    refine (wpAny_bind ?_ : wpAny _ A.in1 (updateSeq S (fun _ => #[]) >>= _) _ _ _)
    refine wpAny_updateSeq hS1 rfl (wpAny_bind (wpAny_letGo (wpAny_pure ?_)))
    exact fin x _ tk (by rw [← ej]; exact px) fun b o bw bS q => (Heap.get?_update_other _ _ (Ne.symm bS)).trans (kp b o bw q)
  | succ k ih =>
    intro j s x c e0 lj st px hS fin
    have lt : j + 1 < n := by omega
    refine codeAny_builtin PySem.F.entry_max_loop ?_; rw [Around.under_plainId PySem.F.plain_max_loop _]
    show wpAny _ A.in1 (seqItems? (.ref S) >>= _) _ _ s
    refine wpAny_bind (wpAny_seqItems hS rfl (?_ : wpAny _ A.in1 (tryCatch (pyNext (.ref I)) _ >>= _) _ _ s))
    refine wpAny_bind (wpAny_tryCatch (W.item (j + 1) s _ _ lt st fun y h1 tk py st1 kp => ?_))
    have hS1 := kp S _ nW hS
    refine (wpAny_bind (wpAny_tryCatch (wpAny_holding (wpAny_bind (cm (j + 1) (argBest bt j) y x _ _ _ py px ?_)))) : wpAny _ A.in1 (tryCatch (holding [y, y] (richCompare .Gt y x >>= _)) _ >>= _) _ _ _)
    refine wpAny_bind (wpAny_holding (wpAny_truthy_bool (wpAny_bind (wpAny_letGo (wpAny_pure ?_)))))
    cases hb : bt (j + 1) (argBest bt j) with
    | true =>
      simp only [if_true]
      refine wpAny_bind (wpAny_updateSeq hS1 rfl (wpAny_bind (wpAny_letGo ?_)))
      rw [mxn]
      refine (wpAny_pure ⟨plainId_quiet PySem.F.plain_max_loop _, ih (j + 1) _ y _ (by omega) lt (W.frame _ _ _ st1 fun b bf o q => ?_) (by simp only [argBest, hb, if_true]; exact py) (Heap.get?_update_self _ hS1 rfl) fun v h2 tk2 pv kp2 => ?_⟩)
      · exact (Heap.get?_update_other _ _ (fun q : S = b => nS (q ▸ bf))).trans q
      · exact fin v h2 tk2 pv fun b o bw bS q => kp2 b o bw bS ((Heap.get?_update_other _ _ (Ne.symm bS)).trans (kp b o bw q))
    | false =>
      simp only [Bool.false_eq_true, if_false]
      refine wpAny_bind (wpAny_letGo ?_)
      rw [mxn]
      refine (wpAny_pure ⟨plainId_quiet PySem.F.plain_max_loop _, ih (j + 1) _ x c (by omega) lt st1 (by simp only [argBest, hb, Bool.false_eq_true, if_false]; exact px) hS1 fun v h2 tk2 pv kp2 => ?_⟩)
      exact fin v h2 tk2 pv fun b o bw bS q => kp2 b o bw bS (kp b o bw q)
theorem mx_first (W : Walks pr w A.in1 I fp wr n P St) (bt : Nat → Nat → Bool) (cm : CmpOf pr w A.in1 .Gt P bt) (d : Value) (S : Addr) (nS : S ∉ fp) {s : Shared} {c : Nat} (st : St 0 s.heap) (hS : s.heap.get? S = some ⟨.type "list", none, .seq #[] c, #[]⟩)
    (no : n = 0 → ∀ h' tk, (∀ b o, b ∉ wr → b ≠ S → s.heap.get? b = some o → h'.get? b = some o) → R (.ok (.ret d)) { s with heap := h', toks := tk })
    (fin : 0 < n → MxEnd P wr n bt S R s) :
    codeAny (model pr w) A (.builtin "max.loop" ⟨[.ref I, .none, .ref S], [(Str.ofString "default", d)]⟩) R s := by
  have nW : S ∉ wr := fun q => nS (W.sub _ q)
  refine codeAny_builtin PySem.F.entry_max_loop ?_; rw [Around.under_plainId PySem.F.plain_max_loop _]
  show wpAny _ A.in1 (seqItems? (.ref S) >>= _) _ _ s
  refine wpAny_bind (wpAny_seqItems hS rfl (?_ : wpAny _ A.in1 (tryCatch (pyNext (.ref I)) _ >>= _) _ _ s))
  rcases Nat.eq_zero_or_pos n with h0 | h0
  · subst h0
    refine wpAny_bind (wpAny_tryCatch (W.done s _ _ st fun h1 tk kp => ?_))
    refine (wpAny_bind (wpAny_rule ?_) : wpAny _ A.in1 (rule _ >>= _) _ _ _)
    exact wpAny_pure (no rfl h1 tk fun b o bw bS q => kp b o bw q)
  · refine wpAny_bind (wpAny_tryCatch (W.item 0 s _ _ h0 st fun y h1 tk py st1 kp => ?_))
    have hS1 := kp S _ nW hS
    refine (wpAny_bind ?_ : wpAny _ A.in1 (updateSeq S (fun _ => #[y, y]) >>= _) _ _ _)
    refine wpAny_updateSeq hS1 rfl ?_
    rw [mxn]
    refine (wpAny_pure ⟨plainId_quiet PySem.F.plain_max_loop _, mx_turn W bt cm d S nS _ 0 _ y _ rfl h0 (W.frame _ _ _ st1 fun b bf o q => ?_) py (Heap.get?_update_self _ hS1 rfl) fun v h2 tk2 pv kp2 => ?_⟩)
    · exact (Heap.get?_update_other _ _ (fun q : S = b => nS (q ▸ bf))).trans q
    · exact fin h0 v h2 tk2 pv fun b o bw bS q => kp2 b o bw bS ((Heap.get?_update_other _ _ (Ne.symm bS)).trans (kp b o bw q))
theorem mx_ints {E : Value → Shared → Prop} {s : Shared} {l : Addr} {xs : Array (Int × Tok)} {d : Value} {Q : Value → Shared → Prop} (hh : A.handled = none) (hl : s.heap.IsList l (intItems xs))
    (no : xs.size = 0 → ∀ h' tk, (∀ b o, s.heap.get? b = some o → h'.get? b = some o) → Q d { s with heap := h', toks := tk })
    (fin : ∀ v h' tk, 0 < xs.size → (intItems xs)[argBest (fun i j => decide (numAt xs i > numAt xs j)) (xs.size - 1)]? = some v → (∀ b o, s.heap.get? b = some o → h'.get? b = some o) → Q v { s with heap := h', toks := tk }) :
    wpAny (model pr w) A (call (.builtin "max") [.ref l] [(Str.ofString "default", d)]) Q E s := by
  refine PyProof.Rows.kmb_tree PySem.F.kind_max PySem.F.plain_max PySem.F.entry_max (mxk _ _) ?_
  have hlt : l < s.heap.objs.size := let ⟨_, e, _⟩ := hl; Heap.lt_size e
  refine (wpAny_bind (wpAny_of_eq (show Builtin.Builtins.bindParams "max" ["key", "default"] 0 ⟨[], [(Str.ofString "default", d)]⟩ = pure [none, some d] from rfl) ?_) : wpAny _ A.in1 (Builtin.Builtins.bindParams "max" ["key", "default"] 0 ⟨[], [(Str.ofString "default", d)]⟩ >>= _) _ _ s)
  refine wpAny_bind (wpAny_pure (wpAny_bind (iter_intList hl fun s2 e st bd nl => ?_)))
  subst e
  refine wpAny_bind (wpAny_newObj_type ?_)
  rw [mxn]
  refine wpAny_pure ⟨plainId_quiet PySem.F.plain_max_loop _, ?_⟩
  have W := Walks.list (prog := pr) (w := w) (A := A.in1) hh s.heap.objs.size l nl (intItems xs)
  have sz : (intItems xs).size = xs.size := by simp [intItems]
  have old := fun {h' : Heap} kp => old_kept (s := s) (l := l) (h' := h') kp
  have nS : (s.heap.push { cls := .type "list_iterator", data := .fields #[.ref l, .int 0 0] }).objs.size ∉ [s.heap.objs.size, l] := fun hm => Nat.lt_irrefl _ (bd _ hm)
  refine mx_first W (fun i j => decide (numAt xs i > numAt xs j)) (CmpOf.ints_gt (numAt xs) fun _ _ => intItems_at) d _ nS (W.frame _ _ _ st fun b _ o q => Heap.get?_push_of_some _ q) (Heap.get?_push_size _ rfl) (fun z h' tk kp => ?_) fun z v h' tk pv kp => ?_
  · exact no (sz ▸ z) h' tk (old fun b o bw q => kp b o bw (Nat.ne_of_lt (Heap.lt_size q)) (Heap.get?_push_of_some _ q))
  · exact fin v h' tk (sz ▸ z) (by rw [sz] at pv; exact pv) (old fun b o bw q => kp b o bw (Nat.ne_of_lt (Heap.lt_size q)) (Heap.get?_push_of_some _ q))
end
/-- max of a list of ints, with a default -/
def rMaxDf (K : PySem.W.Frag) : List V → List V → Hp → VK → Prop := fun vs zs H Q => ∃ (a : Addr) (ns : List Int) (d : Int), vs = [V.ref a] ∧ zs = [.int d] ∧ SqL K H a (ns.map V.int) ∧ ∀ m, ((ns = [] ∧ m = d) ∨ m ∈ ns) → (∀ y ∈ ns, y ≤ m) → Q (.int m) H
theorem cr_maxDf {X : Cx} (K : PySem.W.Frag) (hc : X.calm = true := by rfl) (hK : X.K = K := by rfl) : CallRK X (.builtin "max") ["default"] (rMaxDf K) := by
  subst hK
  intro pins s σ H xs zs us ws Q I r rz h
  obtain ⟨a, ns, d, rfl, rfl, hs, q⟩ := h
  obtain ⟨its, rv, hl, _⟩ := I.list hs
  rw [Vals.ref1 r]
  cases rz with
  | cons e er =>
  cases er
  obtain ⟨td, rfl⟩ := e
  obtain ⟨xs, e⟩ := rv.ints.allInts.items
  have hn : numsOf (intItems xs).toList = ns := by rw [← e]; exact rv.ints.numsOf
  rw [nums_intItems] at hn
  have hl2 := hl.isList
  rw [e] at hl2
  subst hn
  refine mx_ints (I.ok.hd hc) hl2 (fun z h' tk hk => ?_) fun v h' tk z hv hk => ?_
  · have ez : xs = #[] := Array.eq_empty_of_size_eq_zero z
    subst ez
    exact ⟨.int d, H, I.kept hk, ⟨_, rfl⟩, q d (.inl ⟨rfl, rfl⟩) (fun y hy => nomatch hy)⟩
  · obtain ⟨t, rfl⟩ := intItems_at hv
    obtain ⟨h1, h2⟩ := argBest_gt (numAt xs) (xs.size - 1)
    refine ⟨.int _, H, I.kept hk, ⟨_, rfl⟩, q _ (.inr ?_) fun y hy => ?_⟩
    · rw [numAt_eq]; exact PySem.getD_mem (by rw [List.length_map, Array.length_toList]; omega)
    · obtain ⟨j, hj, rfl⟩ := mem_getD hy
      rw [List.length_map, Array.length_toList] at hj
      rw [← numAt_eq]; exact h2 j (by omega)
end Dw
namespace Dw
open PySem PySem.Spec PyProof.Rows L2 SX
abbrev nv (n : Nat) : V := .int (n : Int)
/-! digits and the numbers that they stand for -/
def lo : List Nat → Nat
  | [] => 0
  | d :: r => d + 2 * lo r
def Bits (ds : List Nat) : Prop := ∀ d ∈ ds, d < 2
theorem lo_app : ∀ a b : List Nat, lo (a ++ b) = lo a + 2 ^ a.length * lo b
  | [], b => by simp [lo]
  | d :: a, b => by
    show d + 2 * lo (a ++ b) = d + 2 * lo a + 2 ^ (a.length + 1) * lo b
    rw [lo_app a b, Nat.pow_succ, Nat.mul_add, Nat.mul_comm (2 ^ a.length) 2, Nat.mul_assoc]
    omega
theorem lo_lt : ∀ {ds : List Nat}, Bits ds → lo ds < 2 ^ ds.length
  | [], _ => by simp [lo]
  | d :: r, h => by
    have h1 := lo_lt (ds := r) fun x hx => h x (List.mem_cons_of_mem _ hx)
    have h2 := h d List.mem_cons_self
    show d + 2 * lo r < 2 ^ (r.length + 1)
    rw [Nat.pow_succ]
    omega
theorem lo_bit : ∀ {ds : List Nat} (k : Nat), Bits ds → lo ds / 2 ^ k % 2 = ds.getD k 0
  | [], k, _ => by simp [lo]
  | d :: r, 0, h => by
    have h2 := h d List.mem_cons_self
    show (d + 2 * lo r) / 1 % 2 = d
    omega
  | d :: r, k + 1, h => by
    have h1 := lo_bit (ds := r) k fun x hx => h x (List.mem_cons_of_mem _ hx)
    have h2 := h d List.mem_cons_self
    show (d + 2 * lo r) / 2 ^ (k + 1) % 2 = r.getD k 0
    rw [Nat.pow_succ, Nat.mul_comm (2 ^ k) 2, ← Nat.div_div_eq_div_mul]
    have : (d + 2 * lo r) / 2 = lo r := by omega
    rw [this, h1]
def bitsL (n w : Nat) : List Nat := (List.range w).map fun k => n / 2 ^ k % 2
theorem bitsL_len (n w : Nat) : (bitsL n w).length = w := by simp [bitsL]
theorem bitsL_bits (n w : Nat) : Bits (bitsL n w) := fun d h => by
  obtain ⟨k, _, rfl⟩ := List.mem_map.mp h
  exact Nat.mod_lt _ (by decide)
theorem bitsL_zero (w : Nat) : bitsL 0 w = List.replicate w 0 := by
  refine List.ext_getElem (by simp [bitsL]) fun i h1 h2 => ?_
  simp [bitsL]
theorem bitsL_succ (n w : Nat) : bitsL n (w + 1) = n % 2 :: bitsL (n / 2) w := by
  unfold bitsL
  rw [List.range_succ_eq_map, List.map_cons, List.map_map]
  congr 1
  · simp
  · refine List.map_congr_left fun k _ => ?_
    show n / 2 ^ (k + 1) % 2 = n / 2 / 2 ^ k % 2
    rw [Nat.pow_succ, Nat.mul_comm, Nat.div_div_eq_div_mul]
theorem lo_bitsL : ∀ (n w : Nat), lo (bitsL n w) = n % 2 ^ w
  | n, 0 => by simp [bitsL, lo, Nat.mod_one]
  | n, w + 1 => by
    rw [bitsL_succ]
    show n % 2 + 2 * lo (bitsL (n / 2) w) = _
    rw [lo_bitsL (n / 2) w, Nat.pow_succ, Nat.mul_comm (2 ^ w) 2, Nat.mod_mul]
theorem lo_bitsL_of {n w : Nat} (h : n < 2 ^ w) : lo (bitsL n w) = n := by rw [lo_bitsL, Nat.mod_eq_of_lt h]
theorem bitsL_lo {ds : List Nat} (h : Bits ds) : bitsL (lo ds) ds.length = ds := by
  refine List.ext_getElem (by simp [bitsL]) fun i h1 h2 => ?_
  simp only [bitsL, List.getElem_map, List.getElem_range]
  rw [lo_bit i h, List.getD_eq_getElem?_getD, List.getElem?_eq_getElem h2]
  rfl
/-- the sum of the digits' values -/
theorem lo_sum : ∀ (ds : List Nat) (m : Nat), ((List.range ds.length).map fun i => ((ds.getD i 0 : Nat) : Int) * 2 ^ (i + m)).sum = (lo ds : Int) * 2 ^ m
  | [], m => by simp [lo]
  | d :: r, m => by
    rw [List.length_cons, List.range_succ_eq_map, List.map_cons, List.map_map, List.sum_cons]
    have h := lo_sum r (m + 1)
    have e : (List.map ((fun i => (((d :: r).getD i 0 : Nat) : Int) * 2 ^ (i + m)) ∘ Nat.succ) (List.range r.length)) = (List.range r.length).map fun i => ((r.getD i 0 : Nat) : Int) * 2 ^ (i + (m + 1)) := by
      refine List.map_congr_left fun i _ => ?_
      show ((((d :: r).getD (i + 1) 0 : Nat)) : Int) * 2 ^ (i + 1 + m) = _
      rw [show i + 1 + m = i + (m + 1) by omega]
      rfl
    rw [e, h]
    show ((d : Nat) : Int) * 2 ^ (0 + m) + (lo r : Int) * 2 ^ (m + 1) = ((d + 2 * lo r : Nat) : Int) * 2 ^ m
    rw [Nat.zero_add, Int.pow_succ, Int.natCast_add, Int.natCast_mul, Int.add_mul]
    have : (lo r : Int) * (2 ^ m * 2) = ((2 : Nat) : Int) * (lo r : Int) * 2 ^ m := by
      rw [Int.mul_comm ((2 : Nat) : Int), Int.mul_assoc, Int.mul_comm (2 ^ m) 2]
      rfl
    rw [this]
/-! words -/
def blen (n : Nat) : Nat := Builtin.Int.intBits (n : Int)
theorem blen_zero : blen 0 = 0 := rfl
theorem blen_pos {n : Nat} (h : n ≠ 0) : blen n = n.log2 + 1 := by
  unfold blen Builtin.Int.intBits
  rw [if_neg (by simpa using h), Int.natAbs_natCast]
theorem lt_blen (n : Nat) : n < 2 ^ blen n := by
  by_cases h : n = 0
  · subst h; decide
  · rw [blen_pos h]; exact Nat.lt_log2_self
theorem blen_le {n k : Nat} (h : n < 2 ^ k) : blen n ≤ k := by
  by_cases h0 : n = 0
  · subst h0; exact Nat.zero_le _
  · rw [blen_pos h0]
    exact Nat.succ_le_of_lt ((Nat.log2_lt h0).mpr h)
theorem blen_top {n : Nat} (h : n ≠ 0) : n / 2 ^ (blen n - 1) % 2 = 1 := by
  rw [blen_pos h, Nat.add_sub_cancel]
  have h1 := Nat.log2_self_le h
  have h2 : n < 2 ^ (n.log2 + 1) := Nat.lt_log2_self
  rw [Nat.pow_succ] at h2
  have hp : 0 < 2 ^ n.log2 := Nat.two_pow_pos _
  have : n / 2 ^ n.log2 = 1 := by
    refine Nat.div_eq_of_lt_le ?_ ?_
    · rw [Nat.one_mul]; exact h1
    · rw [Nat.mul_comm]; omega
  rw [this]
def bls : List Nat → Nat
  | [] => 0
  | n :: r => max (blen n) (bls r)
theorem bls_le {ns : List Nat} {k : Nat} (h : ∀ n ∈ ns, n < 2 ^ k) : bls ns ≤ k := by
  induction ns with
  | nil => exact Nat.zero_le _
  | cons n r ih => exact Nat.max_le.mpr ⟨blen_le (h n List.mem_cons_self), ih fun x hx => h x (List.mem_cons_of_mem _ hx)⟩
theorem le_bls {ns : List Nat} {n : Nat} (h : n ∈ ns) : blen n ≤ bls ns := by
  induction ns with
  | nil => cases h
  | cons m r ih =>
    rcases List.mem_cons.mp h with rfl | h
    · exact Nat.le_max_left _ _
    · exact Nat.le_trans (ih h) (Nat.le_max_right _ _)
theorem bls_mem {ns : List Nat} (h : ns ≠ []) : ∃ n ∈ ns, blen n = bls ns := by
  induction ns with
  | nil => exact absurd rfl h
  | cons m r ih =>
    by_cases hr : r = []
    · subst hr
      exact ⟨m, List.mem_cons_self, by simp [bls]⟩
    · obtain ⟨n, hn, e⟩ := ih hr
      rcases Nat.le_total (blen m) (bls r) with q | q
      · exact ⟨n, List.mem_cons_of_mem _ hn, by rw [e]; exact (Nat.max_eq_right q).symm⟩
      · exact ⟨m, List.mem_cons_self, (Nat.max_eq_left q).symm⟩
theorem bls_max {ns : List Nat} {m : Int} (h : (ns.map (fun n => ((blen n : Nat) : Int)) = [] ∧ m = 0) ∨ m ∈ ns.map fun n => ((blen n : Nat) : Int)) (hm : ∀ y ∈ ns.map (fun n => ((blen n : Nat) : Int)), y ≤ m) : m = (bls ns : Nat) := by
  rcases h with ⟨h, rfl⟩ | h
  · rw [List.map_eq_nil_iff.mp h]; rfl
  · obtain ⟨n, hn, rfl⟩ := List.mem_map.mp h
    obtain ⟨k, hk, e⟩ := bls_mem (ns := ns) (fun z => by rw [z] at hn; cases hn)
    have h1 := hm _ (List.mem_map.mpr ⟨k, hk, rfl⟩)
    have h2 := le_bls hn
    omega
def bitAt (ns : List Nat) (k : Nat) : List Nat := ns.map fun n => n / 2 ^ k % 2
theorem bitAt_bits (ns : List Nat) (k : Nat) : Bits (bitAt ns k) := fun d h => by
  obtain ⟨n, _, rfl⟩ := List.mem_map.mp h
  exact Nat.mod_lt _ (by decide)
theorem bitAt_len (ns : List Nat) (k : Nat) : (bitAt ns k).length = ns.length := by simp [bitAt]
def wd (ns : List Nat) : List Nat := (List.range (bls ns)).map fun k => lo (bitAt ns k)
theorem wd_len (ns : List Nat) : (wd ns).length = bls ns := by simp [wd]
theorem wd_get {ns : List Nat} {k : Nat} (h : k < bls ns) : (wd ns)[k]? = some (lo (bitAt ns k)) := by simp [wd, h]
theorem wd_lt {ns : List Nat} {l : Nat} (h : l ∈ wd ns) : l < 2 ^ ns.length := by
  obtain ⟨k, _, rfl⟩ := List.mem_map.mp h
  have := lo_lt (bitAt_bits ns k)
  rwa [bitAt_len] at this
theorem bitAt_ge {ns : List Nat} {k : Nat} (h : bls ns ≤ k) : bitAt ns k = List.replicate ns.length 0 := by
  refine List.ext_getElem (by simp [bitAt]) fun i h1 h2 => ?_
  simp only [bitAt, List.getElem_map, List.getElem_replicate]
  have h3 : i < ns.length := by simpa [bitAt] using h1
  have h4 : ns[i] < 2 ^ k := Nat.lt_of_lt_of_le (lt_blen _) (Nat.pow_le_pow_right (by decide) (Nat.le_trans (le_bls (List.getElem_mem h3)) h))
  rw [Nat.div_eq_of_lt h4]
theorem lo_zeros : ∀ w : Nat, lo (List.replicate w 0) = 0
  | 0 => rfl
  | w + 1 => by
    show 0 + 2 * lo (List.replicate w 0) = 0
    rw [lo_zeros w]
theorem lo_bitAt_ge {ns : List Nat} {k : Nat} (h : bls ns ≤ k) : lo (bitAt ns k) = 0 := by rw [bitAt_ge h, lo_zeros]
theorem lo_ne : ∀ {ds : List Nat}, (∃ d ∈ ds, d ≠ 0) → lo ds ≠ 0
  | [], ⟨_, h, _⟩ => nomatch h
  | x :: r, ⟨d, h, hd⟩ => by
    show x + 2 * lo r ≠ 0
    rcases List.mem_cons.mp h with rfl | h
    · omega
    · have := lo_ne ⟨d, h, hd⟩
      omega
theorem wd_snoc {ns : List Nat} (h : 0 < bls ns) : ∃ r, wd ns = r ++ [lo (bitAt ns (bls ns - 1))] := by
  obtain ⟨n, e⟩ : ∃ n, bls ns = n + 1 := ⟨bls ns - 1, by omega⟩
  refine ⟨(List.range n).map fun k => lo (bitAt ns k), ?_⟩
  unfold wd
  rw [e, List.range_succ, List.map_append]
  rfl
theorem wd_last {ns : List Nat} (h : 0 < bls ns) : lo (bitAt ns (bls ns - 1)) ≠ 0 := by
  obtain ⟨n, hn, e⟩ := bls_mem (ns := ns) (fun z => by rw [z] at h; exact absurd h (by decide))
  have n0 : n ≠ 0 := fun z => by
    rw [z, blen_zero] at e
    omega
  refine lo_ne ⟨n / 2 ^ (bls ns - 1) % 2, List.mem_map.mpr ⟨n, hn, rfl⟩, ?_⟩
  rw [← e, blen_top n0]
  decide
def un (word : List Nat) (w : Nat) : List Nat := (List.range w).map fun t => lo (bitAt word t)
theorem bitAt_wd (ns : List Nat) (z t : Nat) (ht : t < ns.length) : lo (bitAt (wd ns ++ List.replicate z 0) t) = ns[t] := by
  have e : bitAt (wd ns ++ List.replicate z 0) t = bitsL ns[t] (bls ns) ++ List.replicate z 0 := by
    unfold bitAt
    rw [List.map_append, List.map_replicate, Nat.zero_div]
    congr 1
    unfold wd bitsL
    rw [List.map_map]
    refine List.map_congr_left fun k _ => ?_
    show lo (bitAt ns k) / 2 ^ t % 2 = _
    rw [lo_bit t (bitAt_bits ns k), List.getD_eq_getElem?_getD, bitAt, List.getElem?_map, List.getElem?_eq_getElem ht]
    rfl
  rw [e, lo_app, lo_zeros, Nat.mul_zero, Nat.add_zero]
  exact lo_bitsL_of (Nat.lt_of_lt_of_le (lt_blen _) (Nat.pow_le_pow_right (by decide) (le_bls (List.getElem_mem ht))))
theorem un_wd (ns : List Nat) (z : Nat) : un (wd ns ++ List.replicate z 0) ns.length = ns := by
  refine List.ext_getElem (by simp [un]) fun i h1 h2 => ?_
  simp only [un, List.getElem_map, List.getElem_range]
  exact bitAt_wd ns z i h2
/-! letters with a track more -/
def wt (l t v : Nat) : Nat := l % 2 ^ t + 2 ^ t * (v + 2 * (l / 2 ^ t))
theorem wt_mod {l t v : Nat} : wt l t v % 2 ^ t = l % 2 ^ t := by
  unfold wt
  rw [Nat.add_mul_mod_self_left, Nat.mod_mod]
theorem wt_div {l t v : Nat} : wt l t v / 2 ^ t = v + 2 * (l / 2 ^ t) := by
  unfold wt
  have hp : 0 < 2 ^ t := Nat.two_pow_pos _
  rw [Nat.add_mul_div_left _ _ hp, Nat.div_eq_of_lt (Nat.mod_lt _ hp), Nat.zero_add]
theorem wt_or {l t v : Nat} (hv : v < 2) : (l % 2 ^ t ||| v * 2 ^ t) ||| l / 2 ^ t * 2 ^ (t + 1) = wt l t v := by
  have hp : 0 < 2 ^ t := Nat.two_pow_pos _
  have h1 : l % 2 ^ t < 2 ^ t := Nat.mod_lt _ hp
  have e1 : l % 2 ^ t ||| v * 2 ^ t = 2 ^ t * v + l % 2 ^ t := by
    rw [Nat.or_comm, Nat.mul_comm, Nat.two_pow_add_eq_or_of_lt h1]
  have h2 : 2 ^ t * v + l % 2 ^ t < 2 ^ (t + 1) := by
    rw [Nat.pow_succ]
    have : 2 ^ t * v ≤ 2 ^ t * 1 := Nat.mul_le_mul_left _ (by omega)
    omega
  rw [e1, Nat.or_comm, Nat.mul_comm (l / 2 ^ t), ← Nat.two_pow_add_eq_or_of_lt h2, Nat.pow_succ]
  unfold wt
  rw [Nat.mul_add, Nat.mul_assoc]
  omega
def wo (l t : Nat) : Nat := l % 2 ^ t + 2 ^ t * (l / 2 ^ (t + 1))
theorem wo_or {l t : Nat} : (l % 2 ^ t ||| l / 2 ^ (t + 1) * 2 ^ t) = wo l t := by
  have hp : 0 < 2 ^ t := Nat.two_pow_pos _
  have h1 : l % 2 ^ t < 2 ^ t := Nat.mod_lt _ hp
  unfold wo
  rw [Nat.or_comm, Nat.mul_comm, ← Nat.two_pow_add_eq_or_of_lt h1]
  omega
theorem wo_wt {l t v : Nat} (hv : v < 2) : wo (wt l t v) t = l := by
  unfold wo
  rw [wt_mod, Nat.pow_succ, ← Nat.div_div_eq_div_mul, wt_div]
  have : (v + 2 * (l / 2 ^ t)) / 2 = l / 2 ^ t := by omega
  rw [this, Nat.mod_add_div]
theorem wt_lo {l w t v : Nat} (hl : l < 2 ^ w) (ht : t ≤ w) : lo ((bitsL l w).take t ++ [v] ++ (bitsL l w).drop t) = wt l t v := by
  have e1 : (bitsL l w).take t = bitsL l t := by
    unfold bitsL
    rw [← List.map_take, List.take_range, Nat.min_eq_left ht]
  have e2 : lo ((bitsL l w).drop t) = l / 2 ^ t := by
    have h := lo_app ((bitsL l w).take t) ((bitsL l w).drop t)
    rw [List.take_append_drop, lo_bitsL_of hl, e1, lo_bitsL, bitsL_len] at h
    have h2 := Nat.mod_add_div l (2 ^ t)
    have hp : 0 < 2 ^ t := Nat.two_pow_pos _
    have h3 : 2 ^ t * lo ((bitsL l w).drop t) = 2 ^ t * (l / 2 ^ t) := by omega
    exact Nat.eq_of_mul_eq_mul_left hp h3
  rw [lo_app, lo_app, e2, e1, lo_bitsL, List.length_append, bitsL_len]
  show l % 2 ^ t + 2 ^ t * (v + 2 * 0) + 2 ^ (t + 1) * (l / 2 ^ t) = wt l t v
  unfold wt
  rw [Nat.pow_succ, Nat.mul_add, Nat.mul_add, Nat.mul_assoc]
  omega
/-! the same of Python's ints -/
theorem i_dig (n k : Nat) : Builtin.bitAnd ((n : Int) / 2 ^ k) 1 = ((n / 2 ^ k % 2 : Nat) : Int) := by
  have e : (n : Int) / 2 ^ k = ((n / 2 ^ k : Nat) : Int) := by rw [Int.natCast_ediv, PySem.W.kbt_cast]
  have h := PySem.W.kbt_mask ((n : Int) / 2 ^ k) 1
  rw [show ((2 : Int) ^ 1 - 1) = 1 by decide, show ((2 : Int) ^ 1) = 2 by decide] at h
  rw [h, e, Int.natCast_emod]
  rfl
theorem i_low (n k : Nat) : Builtin.bitAnd (n : Int) (2 ^ k - 1) = ((n % 2 ^ k : Nat) : Int) := by
  rw [PySem.W.kbt_mask, Int.natCast_emod, PySem.W.kbt_cast]
theorem i_or (a b : Nat) : Builtin.bitOr (a : Int) (b : Int) = ((a ||| b : Nat) : Int) := by
  rw [bitOr_nn (Int.natCast_nonneg _) (Int.natCast_nonneg _), Int.toNat_natCast, Int.toNat_natCast]
theorem i_shl (a k : Nat) : (a : Int) * 2 ^ k = ((a * 2 ^ k : Nat) : Int) := by rw [Int.natCast_mul, PySem.W.kbt_cast]
theorem i_shr (a k : Nat) : (a : Int) / 2 ^ k = ((a / 2 ^ k : Nat) : Int) := by rw [Int.natCast_ediv, PySem.W.kbt_cast]
theorem i_one (k : Nat) : (1 : Int) * 2 ^ k = ((2 ^ k : Nat) : Int) := by rw [Int.one_mul, PySem.W.kbt_cast]
theorem shlN {n k b : Nat} (h : n < 2 ^ b) (hb : b + k ≤ 134217728) : CShl (n : Int) (k : Int) := shl_ok (by rw [Int.natAbs_natCast]; exact h) hb
/-! a comprehension without a test: a new list of what each turn gives -/
theorem lc_map {J : It} {n : Nat} {G : Hp → Prop} {Y : Nat → Hp → V → Hp → Prop} (w : Walk J n G Y) {g : TG} {te : TE} {vs : List Nat} {σ : L2.St} {H1 : Hp} {D : Addr} {Qd : Hp → Prop} (out : Nat → V) (hn : n ≤ 10000) (hD : H1 D = none)
    (hG : ∀ H, Same H1 H → G H)
    (hs : ∀ i x H H' (N : VK), i < n → Same H1 H → Y i H x H' → (∀ H2, Same H H2 → N (out i) H2) → g x (wipe σ vs) H' fun σ2 H2 => wipe σ2 vs = wipe σ vs ∧ te σ2 H2 N)
    (hd : ∀ H, Same H1 H → H D = some (.lst ((List.range n).map out)) → Qd H) : LcJ J g tYes te vs D σ H1 Qd := by
  refine lc_it w (fun i H => Same H1 H ∧ H D = some (.lst ((List.range i).map out))) ⟨same_upd hD, upd_same⟩ (fun i H _ p => hG H p.1) (fun i x H H' hi p y => ?_) fun H p => hd H p.1 p.2
  obtain ⟨s1, hDl⟩ := p
  refine hs i x H H' (fun y H4 => ∃ acc, H4 D = some (.lst acc) ∧ acc.length < sizeLine ∧ (Same H1 (upd H4 D (.lst (acc ++ [y]))) ∧ (upd H4 D (.lst (acc ++ [y]))) D = some (.lst ((List.range (i + 1)).map out)))) hi s1 y fun H2 s2 => ⟨_, s2 _ _ hDl, by rw [List.length_map, List.length_range]; exact smallt (by omega), Dw.Same.new (s1.trans s2) hD, ?_⟩
  rw [upd_same, List.range_succ, List.map_append]
  rfl
theorem blkOk_nm {N : List Str} {sc scope : Scope} {own : List (Str × Nat)} (nm : List (Str × NameKind)) (e : sc.names = nm) (h : blkC N ⟨.function, nm, false, false, []⟩ scope own = true) : BlkOk N sc scope own := by
  refine blkOk_by ?_
  unfold blkC at h ⊢
  rw [e]
  exact h
theorem sameT {K : PySem.W.Frag} {H H' : Hp} {a : Addr} {xs : List V} (s : Same H H') (h : SqT K H a xs) : SqT K H' a xs := by
  rcases h with (h | ⟨o, h⟩) | h
  · exact .inl (.inl (s _ _ h))
  · exact .inl (.inr ⟨o, s _ _ h⟩)
  · exact .inr h
theorem yat_i {xs : List V} {i : Nat} {H H' : Hp} {x : V} (h : YAt xs i H x H') : H' = H ∧ xs[i]? = some x := h
section
variable {X : Cx} (K : PySem.W.Frag)
theorem piL {tg l : Expr} {tl : TE} (hl : PE X l tl) (h : X.K = K := by rfl) : PI X tg l (iList K tl) := h ▸ pi_list hl
theorem piT {tg l : Expr} {tl : TE} (hl : PE X l tl) (h : X.K = K := by rfl) : PI X tg l (iTup K tl) := h ▸ pi_tup hl
theorem piE {e : Expr} {ta : TA} {p pos tpos : Pos} {elts : List Expr} {kk : Nat} (hg : Gl X "enumerate") (hm : X.mg "enumerate" = none) (ha : PA X [e] ta) (hs : starEach [e] X.env = [(false, eval e X.env)] := by rfl) (h : X.K = K := by rfl) :
    PI X (.Tuple elts kk tpos) (.Call (.Name "enumerate" p) [e] [] pos) (iEnum K ta) := h ▸ pi_enum hg hm ha hs
theorem sumK (hc : X.calm = true := by rfl) (h : X.K = K := by rfl) : CallR X (.builtin "sum") (rSum K) := h ▸ cr_sum hc
end
end Dw
namespace Dw
open PySem PySem.Spec PyProof.Rows L2 SX
/-- the drawing's own list at p, over the script at q -/
def Draw (K : PySem.W.Frag) (H : Hp) (p q : Addr) (ns : List Int) : Prop := (∀ H', But p H H' → SqL K H' q (ns.map V.int)) ∧ ∃ a v x : Int, H p = some (.lst [.ref q, .int a, .int v, .int x]) ∧ 0 ≤ a ∧ 0 ≤ v
theorem Draw.same {K : PySem.W.Frag} {H H' : Hp} {p q : Addr} {ns : List Int} (h : Draw K H p q ns) (e : Same H H') : Draw K H' p q ns := by
  obtain ⟨hq, a, v, x, hp, h0, h1⟩ := h
  exact ⟨fun H2 b => hq H2 ((But.of e).trans b), a, v, x, e _ _ hp, h0, h1⟩
theorem Draw.ne {K : PySem.W.Frag} {H : Hp} {p q t : Addr} {ns : List Int} (h : Draw K H p q ns) (ht : H t = none) : t ≠ p := by
  obtain ⟨_, _, _, _, hp, _⟩ := h
  exact (ne_of_none hp ht).symm
/-- a store at an address that was free before -/
theorem Draw.put {K : PySem.W.Frag} {H0 H : Hp} {p q t : Addr} {ns : List Int} {o : HO} (d : Draw K H0 p q ns) (b : But p H0 H) (h : Draw K H p q ns) (ht : H0 t = none) : Draw K (upd H t o) p q ns := by
  have n := d.ne ht
  obtain ⟨hq, _⟩ := d
  obtain ⟨_, a, v, x, hp, h0, h1⟩ := h
  exact ⟨fun H2 b2 => hq H2 ((b.new ht).trans b2), a, v, x, by rw [upd_ne n.symm]; exact hp, h0, h1⟩
theorem Draw.start {K : PySem.W.Frag} {H : Hp} {p q : Addr} {ns : List Int} (hS : SqL K H q (ns.map V.int)) (hp : H p = none) : Draw K (upd H p (.lst [.ref q, .int 0, .int 0, .int 1])) p q ns := by
  refine ⟨fun H' b => ?_, 0, 0, 1, upd_same, by decide, by decide⟩
  have s : ∀ o, H q = some o → H' q = some o := fun o e => by
    have n : q ≠ p := fun z => by rw [z, hp] at e; cases e
    exact b _ _ n (by rw [upd_ne n]; exact e)
  rcases hS with (h | ⟨o, h⟩) | h
  · exact .inl (.inl (s _ h))
  · exact .inl (.inr ⟨o, s _ h⟩)
  · exact .inr h
end Dw
namespace Dw
open PySem PySem.Spec PyProof.Rows L2 SX
/-! deep equality of data -/
theorem eqD_of {K : PySem.W.Frag} {H : Hp} {x y : V} {d : PyData} {Q : VK} (h1 : Dp K H x d) (h2 : Dp K H y d) (s : SeqAt.shaped d = true) (q : Q (.bl true) H) : rEqD K x y H Q := ⟨d, d, h1, h2, s, s, by rw [shaped_refl s]; exact q⟩
theorem neD_of {K : PySem.W.Frag} {H : Hp} {x y : V} {d : PyData} {Q : VK} (h1 : Dp K H x d) (h2 : Dp K H y d) (s : SeqAt.shaped d = true) (q : Q (.bl false) H) : rNeD K x y H Q := ⟨d, d, h1, h2, s, s, by rw [shaped_refl s]; exact q⟩
def natD (n : Nat) : PyData := .int (n : Int)
theorem nats_lay : ∀ ns : List Nat, PyData.canLayAll0 (ns.map natD) = true
  | [] => by simp [PyData.canLayAll0]
  | n :: r => by simp [PyData.canLayAll0, natD, PyData.canLay0, nats_lay r]
theorem nats_depth : ∀ ns : List Nat, PyData.depthAll (ns.map natD) = 0
  | [] => by simp [PyData.depthAll]
  | n :: r => by simp [PyData.depthAll, natD, PyData.depth, nats_depth r]
theorem nats_dp {K : PySem.W.Frag} {H : Hp} : ∀ ns : List Nat, DpAll K H (ns.map nv) (ns.map natD)
  | [] => .nil
  | _ :: r => .cons (.int _) (nats_dp r)
theorem nats_shaped (ns : List Nat) : SeqAt.shaped (.list (ns.map natD)) = true := by
  simp [SeqAt.shaped, PyData.canLay0, PyData.depth, nats_lay ns, nats_depth]
theorem nats_shapedT (ns : List Nat) : SeqAt.shaped (.tuple (ns.map natD)) = true := by
  simp [SeqAt.shaped, PyData.canLay0, PyData.depth, nats_lay ns, nats_depth]
theorem cutV_to {xs : List V} {t : Nat} (h : t ≤ xs.length) : cutV xs none (some (t : Int)) = xs.take t := by
  unfold cutV
  rw [HT.sIx_nat]
  show (xs.drop 0).take (min t xs.length - 0) = _
  rw [List.drop_zero, Nat.sub_zero, Nat.min_eq_left h]
theorem cutV_from {xs : List V} {t : Nat} (h : t ≤ xs.length) : cutV xs (some (t : Int)) none = xs.drop t := by
  unfold cutV
  rw [HT.sIx_nat]
  show (xs.drop (min t xs.length)).take (xs.length - min t xs.length) = _
  rw [Nat.min_eq_left h, List.take_of_length_le (by rw [List.length_drop]; omega)]
end Dw
namespace Dw
open PySem PySem.Spec PyProof.Rows L2 SX
theorem hu1' {A : Around} {k : Nat} (hr : Room k A) : A.units + 1 < cLine := by
  have := hr.units
  omega
/-! fields, read and stored -/
def FldR (K : PySem.W.Frag) (f : Str) : V → Hp → VK → Prop := fun x H Q => ∃ a C dx fs v, x = .ref a ∧ H a = some (.ins C dx fs) ∧ Cls K C ∧ NoAttr K C f ∧ fs.lookup f = some v ∧ Q v H
def tFd (K : PySem.W.Frag) (ta : TE) (f : Str) : TE := fun σ H Q => ta σ H fun x H1 => FldR K f x H1 Q
theorem fld_of {K : PySem.W.Frag} {f : Str} {a C dx : Addr} {fs : List (Str × V)} {v : V} {H : Hp} {Q : VK} (c : Cls K C) (n : NoAttr K C f) (h : H a = some (.ins C dx fs)) (l : fs.lookup f = some v) (q : Q v H) : FldR K f (.ref a) H Q := ⟨a, C, dx, fs, v, rfl, h, c, n, l, q⟩
def FldS (K : PySem.W.Frag) (f : Str) (x y : V) (H : Hp) (R : Hp → Prop) : Prop := ∃ a C dx fs, x = .ref a ∧ H a = some (.ins C dx fs) ∧ Cls K C ∧ NoAttr K C f ∧ fs.length < 1000 ∧ R (upd H a (.ins C dx (putF f y fs)))
def tFs (K : PySem.W.Frag) (ta tv : TE) (f : Str) : TS := fun D σ H => tv σ H fun y H1 => ta σ H1 fun x H2 => FldS K f x y H2 (D.nx σ)
theorem flds_of {K : PySem.W.Frag} {f : Str} {a C dx : Addr} {fs : List (Str × V)} {y : V} {H : Hp} {R : Hp → Prop} (c : Cls K C) (n : NoAttr K C f) (h : H a = some (.ins C dx fs)) (l : fs.length < 1000) (q : R (upd H a (.ins C dx (putF f y fs)))) : FldS K f (.ref a) y H R := ⟨a, C, dx, fs, rfl, h, c, n, l, q⟩
section
variable {X : Cx} (K : PySem.W.Frag)
theorem pe_fd {e : Expr} {ta : TE} {f : Str} {pos : Pos} (he : PE X e ta) (hb : attributeBase e f X.env (eval e X.env) = eval e X.env) (h : X.K = K := by rfl) : PE X (.Attribute e f pos) (tFd K ta f) := h ▸ pe_fld he hb
theorem ps_fldK {o value : Expr} {ta tv : TE} {f : Str} {pos pos' : Pos} (ha : PE X o ta) (hv : PE X value tv) (hs : swapsWith value (some (.Attribute o f pos')) pos.line X.env = pure false) (h : X.K = K := by rfl) : PS X (.Assign [.Attribute o f pos'] value pos) (tFs K ta tv f) := h ▸ ps_fld ha hv hs
theorem allQ (hc : X.calm = true := by rfl) (h : X.K = K := by rfl) : CallR X (.builtin "all") (rAll K) := h ▸ cr_all hc
end
/-! tables -/
structure RowsAt (H : Hp) (rs : List Addr) (T : List (List Int)) : Prop where
  len : rs.length = T.length
  at_ : ∀ (i : Nat) (a : Addr) (r : List Int), rs[i]? = some a → T[i]? = some r → H a = some (.lst (r.map V.int))
theorem RowsAt.same {H H' : Hp} {rs : List Addr} {T : List (List Int)} (h : RowsAt H rs T) (s : Same H H') : RowsAt H' rs T := ⟨h.len, fun i a r h1 h2 => s _ _ (h.at_ i a r h1 h2)⟩
theorem RowsAt.get {H : Hp} {rs : List Addr} {T : List (List Int)} {i : Nat} {r : List Int} (h : RowsAt H rs T) (e : T[i]? = some r) : ∃ a, rs[i]? = some a ∧ H a = some (.lst (r.map V.int)) := by
  have hi : i < rs.length := by
    rw [h.len]
    exact (List.getElem?_eq_some_iff.mp e).1
  exact ⟨rs[i], List.getElem?_eq_getElem hi, h.at_ i _ r (List.getElem?_eq_getElem hi) e⟩
def goodRow (n l : Nat) (r : List Int) : Bool := decide (r.length = l) && r.all fun x => decide (0 ≤ x) && decide (x < (n : Int))
def goodT (T : List (List Int)) (l : Nat) : Bool := T.all (goodRow T.length l)
/-- where state s is led to by a letter -/
def nxt (T : List (List Int)) (s l : Nat) : Nat := ((T.getD s []).getD l 0).toNat
def runT (T : List (List Int)) (s : Nat) (ls : List Nat) : Nat := ls.foldl (nxt T) s
theorem goodT_row {T : List (List Int)} {l s : Nat} (g : goodT T l = true) (h : s < T.length) : ∃ r, T[s]? = some r ∧ r.length = l ∧ ∀ x ∈ r, 0 ≤ x ∧ x < (T.length : Int) := by
  have h1 := List.all_eq_true.mp g T[s] (List.getElem_mem h)
  unfold goodRow at h1
  rw [Bool.and_eq_true, decide_eq_true_eq, List.all_eq_true] at h1
  refine ⟨T[s], List.getElem?_eq_getElem h, h1.1, fun x hx => ?_⟩
  have h2 := h1.2 x hx
  rw [Bool.and_eq_true, decide_eq_true_eq, decide_eq_true_eq] at h2
  exact h2
theorem goodT_at {T : List (List Int)} {l s a : Nat} (g : goodT T l = true) (h : s < T.length) (ha : a < l) : ∃ r, T[s]? = some r ∧ r[a]? = some ((nxt T s a : Nat) : Int) ∧ nxt T s a < T.length := by
  obtain ⟨r, e, hl, hx⟩ := goodT_row g h
  have ha' : a < r.length := by omega
  have e2 : r[a]? = some r[a] := List.getElem?_eq_getElem ha'
  have h3 := hx r[a] (List.getElem_mem ha')
  have e3 : nxt T s a = r[a].toNat := by
    unfold nxt
    have e4 : T.getD s [] = r := by rw [List.getD_eq_getElem?_getD, e, Option.getD_some]
    rw [e4, List.getD_eq_getElem?_getD, e2, Option.getD_some]
  refine ⟨r, e, ?_, by omega⟩
  rw [e2, e3, Int.toNat_of_nonneg h3.1]
theorem runT_lt {T : List (List Int)} {l : Nat} (g : goodT T l = true) : ∀ (ls : List Nat) (s : Nat), (∀ x ∈ ls, x < l) → s < T.length → runT T s ls < T.length
  | [], _, _, h => h
  | x :: r, s, hl, h => by
    obtain ⟨_, _, _, h2⟩ := goodT_at g h (hl x List.mem_cons_self)
    exact runT_lt g r _ (fun y hy => hl y (List.mem_cons_of_mem _ hy)) h2
theorem runT_snoc (T : List (List Int)) (s : Nat) (ls : List Nat) (x : Nat) : runT T s (ls ++ [x]) = nxt T (runT T s ls) x := by
  unfold runT
  rw [List.foldl_append]
  rfl
/-! machines -/
def mflds (w : Nat) (t b : Addr) : List (Str × V) := putF "accepting" (.ref b) (putF "table" (.ref t) (putF "width" (nv w) []))
theorem kwt : ¬ (("width" : Str) = "table") := by decide +kernel
theorem kwa : ¬ (("width" : Str) = "accepting") := by decide +kernel
theorem kta : ¬ (("table" : Str) = "accepting") := by decide +kernel
theorem mf_w (w : Nat) (t b : Addr) : (mflds w t b).lookup ("width" : Str) = some (nv w) := by
  unfold mflds
  rw [lookup_putF, if_neg kwa, lookup_putF, if_neg kwt, lookup_putF, if_pos rfl]
theorem mf_t (w : Nat) (t b : Addr) : (mflds w t b).lookup ("table" : Str) = some (.ref t) := by
  unfold mflds
  rw [lookup_putF, if_neg kta, lookup_putF, if_pos rfl]
theorem mf_a (w : Nat) (t b : Addr) : (mflds w t b).lookup ("accepting" : Str) = some (.ref b) := by
  unfold mflds
  rw [lookup_putF, if_pos rfl]
theorem mf_no (w : Nat) (t b : Addr) {m : Str} (h1 : ¬ m = "width") (h2 : ¬ m = "table") (h3 : ¬ m = "accepting") : (mflds w t b).lookup m = none := by
  unfold mflds
  rw [lookup_putF, if_neg h3, lookup_putF, if_neg h2, lookup_putF, if_neg h1]
  rfl
structure MachAt (C : Addr) (H : Hp) (m : Addr) (w : Nat) (T : List (List Int)) (acc : List Bool) : Prop where
  ex : ∃ dx t b rs, H m = some (.ins C dx (mflds w t b)) ∧ H t = some (.lst (rs.map V.ref)) ∧ RowsAt H rs T ∧ H b = some (.lst (acc.map V.bl))
theorem MachAt.same {C : Addr} {H H' : Hp} {m : Addr} {w : Nat} {T : List (List Int)} {acc : List Bool} (h : MachAt C H m w T acc) (s : Same H H') : MachAt C H' m w T acc := by
  obtain ⟨dx, t, b, rs, h1, h2, h3, h4⟩ := h.ex
  exact ⟨dx, t, b, rs, s _ _ h1, s _ _ h2, h3.same s, s _ _ h4⟩
/-- what a machine must be -/
structure MOk (w : Nat) (T : List (List Int)) (acc : List Bool) : Prop where
  w6 : w ≤ 6
  pos : 0 < T.length
  le : T.length ≤ 400
  good : goodT T (2 ^ w) = true
  al : acc.length = T.length
  set : ∀ i, i < T.length → acc[i]? = acc[nxt T i 0]?
theorem Same.but {H H' : Hp} {p : Addr} {o : HO} (h : H p = none) (s : Same H H') : But p H (upd H' p o) := (But.of s).trans But.upd
/-- all but what is new -/
theorem same_of_but {H H' : Hp} {p : Addr} (h : H p = none) (b : But p H H') : Same H H' := fun a o e => b a o (ne_of_none e h) e
def boolD (b : Bool) : PyData := .bool b
theorem bools_lay : ∀ ns : List Bool, PyData.canLayAll0 (ns.map boolD) = true
  | [] => by simp [PyData.canLayAll0]
  | n :: r => by simp [PyData.canLayAll0, boolD, PyData.canLay0, bools_lay r]
theorem bools_depth : ∀ ns : List Bool, PyData.depthAll (ns.map boolD) = 0
  | [] => by simp [PyData.depthAll]
  | n :: r => by simp [PyData.depthAll, boolD, PyData.depth, bools_depth r]
theorem bools_dp {K : PySem.W.Frag} {H : Hp} : ∀ ns : List Bool, DpAll K H (ns.map V.bl) (ns.map boolD)
  | [] => .nil
  | _ :: r => .cons (.bl _) (bools_dp r)
theorem bools_shaped (ns : List Bool) : SeqAt.shaped (.list (ns.map boolD)) = true := by
  simp [SeqAt.shaped, PyData.canLay0, PyData.depth, bools_lay ns, bools_depth]
def intD (n : Int) : PyData := .int n
theorem ints_lay : ∀ ns : List Int, PyData.canLayAll0 (ns.map intD) = true
  | [] => by simp [PyData.canLayAll0]
  | n :: r => by simp [PyData.canLayAll0, intD, PyData.canLay0, ints_lay r]
theorem ints_depth : ∀ ns : List Int, PyData.depthAll (ns.map intD) = 0
  | [] => by simp [PyData.depthAll]
  | n :: r => by simp [PyData.depthAll, intD, PyData.depth, ints_depth r]
theorem ints_dp {K : PySem.W.Frag} {H : Hp} : ∀ ns : List Int, DpAll K H (ns.map V.int) (ns.map intD)
  | [] => .nil
  | _ :: r => .cons (.int _) (ints_dp r)
theorem ints_shaped (ns : List Int) : SeqAt.shaped (.list (ns.map intD)) = true := by
  simp [SeqAt.shaped, PyData.canLay0, PyData.depth, ints_lay ns, ints_depth]
def rowD (r : List Int) : PyData := .list (r.map intD)
theorem rows_lay : ∀ T : List (List Int), PyData.canLayAll0 (T.map rowD) = true
  | [] => by simp [PyData.canLayAll0]
  | n :: r => by simp [PyData.canLayAll0, rowD, PyData.canLay0, ints_lay n, rows_lay r]
theorem rows_depth : ∀ T : List (List Int), PyData.depthAll (T.map rowD) ≤ 1
  | [] => by simp [PyData.depthAll]
  | n :: r => by
    have := rows_depth r
    simp [PyData.depthAll, rowD, PyData.depth, ints_depth n]
    omega
theorem rows_shaped (T : List (List Int)) : SeqAt.shaped (.list (T.map rowD)) = true := by
  have := rows_depth T
  simp [SeqAt.shaped, PyData.canLay0, PyData.depth, rows_lay T]
  omega
theorem rows_dp {K : PySem.W.Frag} {H : Hp} : ∀ {rs : List Addr} {T : List (List Int)}, RowsAt H rs T → DpAll K H (rs.map V.ref) (T.map rowD)
  | [], [], _ => .nil
  | a :: rs, r :: T, h => .cons (.lst (SqL.of (h.at_ 0 a r rfl rfl)) (ints_dp r)) (rows_dp (rs := rs) (T := T) ⟨Nat.succ.inj h.len, fun i a' r' h1 h2 => h.at_ (i + 1) a' r' h1 h2⟩)
  | [], _ :: _, h => nomatch h.len
  | _ :: _, [], h => nomatch h.len
end Dw
namespace Dw
open PySem PySem.Spec PyProof.Rows L2 SX
/-- a machine at m whose parts are new -/
structure MachNew (C : Addr) (H H' : Hp) (m : Addr) (w : Nat) (T : List (List Int)) (acc : List Bool) : Prop where
  ex : ∃ dx t b rs, H' m = some (.ins C dx (mflds w t b)) ∧ H' t = some (.lst (rs.map V.ref)) ∧ RowsAt H' rs T ∧ H' b = some (.lst (acc.map V.bl)) ∧ H t = none ∧ H b = none ∧ ∀ r ∈ rs, H r = none
theorem MachNew.at_ {C : Addr} {H H' : Hp} {m : Addr} {w : Nat} {T : List (List Int)} {acc : List Bool} (h : MachNew C H H' m w T acc) : MachAt C H' m w T acc := by
  obtain ⟨dx, t, b, rs, h1, h2, h3, h4, _⟩ := h.ex
  exact ⟨dx, t, b, rs, h1, h2, h3, h4⟩
end Dw
namespace Dw
open PySem PySem.Spec PyProof.Rows L2 SX
theorem for_enumN {K : PySem.W.Frag} {a : Addr} {xs : List V} {g : TG} {tb : TS} {D : Ends} {σ : L2.St} {H : Hp} (Pv : Nat → L2.St → Hp → Prop) (h0 : Pv 0 σ H) (hl : ∀ i σ H, i ≤ xs.length → Pv i σ H → SqL K H a xs)
    (hs : ∀ i x T σ H (N : L2.St → Hp → Prop), xs[i]? = some x → Pv i σ H → H T = none → (∀ σ' H', Pv (i + 1) σ' H' → N σ' H') → g (.ref T) σ (upd H T (.tup [.int (i : Nat), x])) fun σ2 H2 => tb { D with nx := N, ct := N, bk := D.nx } σ2 H2) (hd : ∀ σ H, Pv xs.length σ H → D.nx σ H) :
    ForJ (Ite K a) g tb D σ H := for_it (walk_enum (xs := xs)) Pv h0 hl (fun i x σ H H' hi p y => by
      obtain ⟨T, v, z, rfl, hT, rfl, e1, e2⟩ := y
      cases e1
      exact hs i z T σ H (Pv (i + 1)) e2 p hT fun _ _ h => h) hd
theorem RowsAt.snoc {H : Hp} {rs : List Addr} {T : List (List Int)} {a : Addr} {r : List Int} (h : RowsAt H rs T) (e : H a = some (.lst (r.map V.int))) : RowsAt H (rs ++ [a]) (T ++ [r]) := by
  refine ⟨by rw [List.length_append, List.length_append, h.len]; rfl, fun i b q h1 h2 => ?_⟩
  by_cases hi : i < rs.length
  · rw [List.getElem?_append_left hi] at h1
    rw [List.getElem?_append_left (by rw [← h.len]; exact hi)] at h2
    exact h.at_ i b q h1 h2
  · rw [List.getElem?_append_right (by omega)] at h1
    rw [List.getElem?_append_right (by rw [← h.len]; omega), ← h.len] at h2
    cases hk : i - rs.length with
    | zero =>
      rw [hk] at h1 h2
      cases h1
      cases h2
      exact e
    | succ k =>
      rw [hk] at h1
      cases h1
theorem RowsAt.but {H H' : Hp} {rs : List Addr} {T : List (List Int)} {p : Addr} (h : RowsAt H rs T) (b : But p H H') (n : ∀ r ∈ rs, r ≠ p) : RowsAt H' rs T :=
  ⟨h.len, fun i a r h1 h2 => b _ _ (n a (List.mem_of_getElem? h1)) (h.at_ i a r h1 h2)⟩
end Dw
namespace Dw
open PySem PySem.Spec PyProof.Rows L2 SX
/-- a machine at m, its parts at L -/
def MachP (C : Addr) (H : Hp) (L : List Addr) (m : Addr) (w : Nat) (T : List (List Int)) (acc : List Bool) : Prop := ∃ dx t b rs, L = m :: t :: b :: rs ∧ H m = some (.ins C dx (mflds w t b)) ∧ H t = some (.lst (rs.map V.ref)) ∧ RowsAt H rs T ∧ H b = some (.lst (acc.map V.bl))
section
variable {C : Addr} {H H' : Hp} {L : List Addr} {m q : Addr} {w : Nat} {T : List (List Int)} {acc : List Bool}
theorem MachP.at_ (h : MachP C H L m w T acc) : MachAt C H m w T acc := by
  obtain ⟨dx, t, b, rs, _, h1, h2, h3, h4⟩ := h
  exact ⟨dx, t, b, rs, h1, h2, h3, h4⟩
theorem MachP.but (h : MachP C H L m w T acc) (b : But q H H') (n : q ∉ L) : MachP C H' L m w T acc := by
  obtain ⟨dx, t, a, rs, rfl, h1, h2, h3, h4⟩ := h
  simp only [List.mem_cons, not_or] at n
  exact ⟨dx, t, a, rs, rfl, b _ _ (fun e => n.1 e.symm) h1, b _ _ (fun e => n.2.1 e.symm) h2, h3.but b fun r hr e => n.2.2.2 (e ▸ hr), b _ _ (fun e => n.2.2.1 e.symm) h4⟩
theorem MachP.same (h : MachP C H L m w T acc) (s : Same H H') : MachP C H' L m w T acc := by
  obtain ⟨dx, t, a, rs, rfl, h1, h2, h3, h4⟩ := h
  exact ⟨dx, t, a, rs, rfl, s _ _ h1, s _ _ h2, h3.same s, s _ _ h4⟩
theorem RowsAt.some {H : Hp} {rs : List Addr} {T : List (List Int)} {a : Addr} (h : RowsAt H rs T) (ha : a ∈ rs) : ∃ r, r ∈ T ∧ H a = some (.lst (r.map V.int)) := by
  obtain ⟨i, hi, e⟩ := List.mem_iff_getElem.mp ha
  have hi2 : i < T.length := by rw [← h.len]; exact hi
  exact ⟨T[i], List.getElem_mem hi2, h.at_ i a T[i] (by rw [List.getElem?_eq_getElem hi, e]) (List.getElem?_eq_getElem hi2)⟩
theorem MachP.free (h : MachP C H L m w T acc) (hq : H q = none) : q ∉ L := by
  obtain ⟨dx, t, a, rs, rfl, h1, h2, h3, h4⟩ := h
  intro z
  simp only [List.mem_cons] at z
  rcases z with rfl | rfl | rfl | z
  · rw [hq] at h1; cases h1
  · rw [hq] at h2; cases h2
  · rw [hq] at h4; cases h4
  · obtain ⟨r, _, e⟩ := h3.some z
    rw [hq] at e; cases e
theorem MachNew.parts (h : MachNew C H H' m w T acc) : ∃ L, MachP C H' L m w T acc ∧ ∀ a ∈ L, a = m ∨ H a = none := by
  obtain ⟨dx, t, b, rs, h1, h2, h3, h4, n1, n2, n3⟩ := h.ex
  refine ⟨_, ⟨dx, t, b, rs, rfl, h1, h2, h3, h4⟩, fun a ha => ?_⟩
  simp only [List.mem_cons] at ha
  rcases ha with rfl | rfl | rfl | z
  · exact .inl rfl
  · exact .inr n1
  · exact .inr n2
  · exact .inr (n3 a z)
theorem notin_of {o : HO} (h : ∀ a ∈ L, H a = none) (hq : H q = some o) : q ∉ L := fun z => by
  rw [h q z] at hq
  cases hq
end
end Dw
namespace Dw
open PySem PySem.Spec PyProof.Rows L2 SX
/-! a ring that is walked twice -/
def it (f : Nat → Nat) : Nat → Nat → Nat
  | 0, s => s
  | k + 1, s => it f k (f s)
theorem it_add (f : Nat → Nat) : ∀ (a b s : Nat), it f (a + b) s = it f b (it f a s)
  | 0, b, s => by rw [Nat.zero_add]; rfl
  | a + 1, b, s => by
    rw [Nat.add_right_comm]
    exact it_add f a b (f s)
theorem it_succ (f : Nat → Nat) (k s : Nat) : it f (k + 1) s = f (it f k s) := it_add f k 1 s
theorem it_lt {f : Nat → Nat} {n : Nat} (hf : ∀ x, x < n → f x < n) : ∀ (k s : Nat), s < n → it f k s < n
  | 0, _, h => h
  | k + 1, s, h => it_lt hf k (f s) (hf s h)
theorem pigeon : ∀ (n : Nat) (f : Nat → Nat), (∀ i, i ≤ n → f i < n) → ∃ i j, i < j ∧ j ≤ n ∧ f i = f j
  | 0, f, h => absurd (h 0 (Nat.le_refl 0)) (Nat.not_lt_zero _)
  | n + 1, f, h => by
    by_cases hv : ∃ i, i ≤ n ∧ f i = f (n + 1)
    · obtain ⟨i, hi, e⟩ := hv
      exact ⟨i, n + 1, by omega, Nat.le_refl _, e⟩
    · have hne : ∀ i, i ≤ n → f i ≠ f (n + 1) := fun i hi e => hv ⟨i, hi, e⟩
      have hl := h (n + 1) (Nat.le_refl _)
      obtain ⟨i, j, hij, hj, e⟩ := pigeon n (fun i => if f i = n then f (n + 1) else f i) (fun i hi => by
        have h1 := h i (by omega)
        have h2 := hne i hi
        show (if f i = n then f (n + 1) else f i) < n
        split
        · rename_i q
          omega
        · omega)
      refine ⟨i, j, hij, by omega, ?_⟩
      have h1 := hne i (by omega)
      have h2 := hne j hj
      split at e <;> split at e <;> omega
def ringL (f : Nat → Nat) (n s : Nat) : List Nat := (List.range (n + 1)).map fun j => it f (n + j) s
theorem ringL_mem {f : Nat → Nat} {n s x : Nat} : x ∈ ringL f n s ↔ ∃ j, j ≤ n ∧ it f (n + j) s = x := by
  unfold ringL
  rw [List.mem_map]
  constructor
  · rintro ⟨j, hj, e⟩
    exact ⟨j, by have := List.mem_range.mp hj; omega, e⟩
  · rintro ⟨j, hj, e⟩
    exact ⟨j, List.mem_range.mpr (by omega), e⟩
theorem ring_same {f : Nat → Nat} {n s x : Nat} (hf : ∀ x, x < n → f x < n) (hs : s < n) : x ∈ ringL f n s ↔ x ∈ ringL f n (f s) := by
  obtain ⟨a, b, hab, hb, e⟩ := pigeon n (fun i => it f i s) fun i _ => it_lt hf i s hs
  have per : ∀ k, a ≤ k → it f (k + (b - a)) s = it f k s := fun k hk => by
    have e1 : k + (b - a) = b + (k - a) := by omega
    have e2 : k = a + (k - a) := by omega
    rw [e1, it_add, ← (show it f a s = it f b s from e), ← it_add, ← e2]
  have nx : ∀ j, it f (n + j) (f s) = it f (n + 1 + j) s := fun j => by
    have : n + 1 + j = (n + j) + 1 := by omega
    rw [this]
    rfl
  rw [ringL_mem, ringL_mem]
  constructor
  · rintro ⟨j, hj, rfl⟩
    by_cases h0 : j = 0
    · subst h0
      refine ⟨b - a - 1, by omega, ?_⟩
      have e2 : n + 1 + (b - a - 1) = n + (b - a) := by omega
      rw [nx, e2, per n (by omega)]
      rfl
    · refine ⟨j - 1, by omega, ?_⟩
      rw [nx]
      congr 1
      omega
  · rintro ⟨j, hj, rfl⟩
    rw [nx]
    by_cases h0 : j = n
    · subst h0
      refine ⟨j + 1 - (b - a), by omega, ?_⟩
      rw [← per (j + (j + 1 - (b - a))) (by omega)]
      congr 1
      omega
    · exact ⟨j + 1, by omega, by congr 1; omega⟩
def IsMin (m : Nat) (L : List Nat) : Prop := m ∈ L ∧ ∀ y ∈ L, m ≤ y
theorem IsMin.eq {m k : Nat} {L M : List Nat} (h : IsMin m L) (h' : IsMin k M) (e : ∀ x, x ∈ L ↔ x ∈ M) : m = k :=
  Nat.le_antisymm (h.2 _ ((e _).mpr h'.1)) (h'.2 _ ((e _).mp h.1))
/-! told words -/
structure TOk (T : List (List Int)) (outs : List Int) : Prop where
  pos : 0 < T.length
  le : T.length ≤ 40
  al : outs.length = T.length
  rng : ∀ o ∈ outs, 0 ≤ o ∧ o ≤ 9
  good : goodT T 2 = true
  set : ∀ i, i < T.length → outs[i]? = outs[nxt T i 0]?
theorem TOk.nx {T : List (List Int)} {outs : List Int} (h : TOk T outs) {s d : Nat} (hs : s < T.length) (hd : d < 2) : nxt T s d < T.length := by
  obtain ⟨_, _, _, h2⟩ := goodT_at h.good hs hd
  exact h2
theorem TOk.zeros {T : List (List Int)} {outs : List Int} (h : TOk T outs) : ∀ (z s : Nat), s < T.length → outs[runT T s (List.replicate z 0)]? = outs[s]?
  | 0, _, _ => rfl
  | z + 1, s, hs => by
    show outs[runT T (nxt T s 0) (List.replicate z 0)]? = _
    rw [h.zeros z _ (h.nx hs (by decide)), ← h.set s hs]
/-- the digits of a number -/
def dg (n : Nat) : List Nat := bitsL n (blen n)
theorem dg_zero : dg 0 = [] := rfl
theorem blen_half {n : Nat} (h : n ≠ 0) : blen n = blen (n / 2) + 1 := by
  have h1 := lt_blen (n / 2)
  have h2 : n < 2 ^ (blen (n / 2) + 1) := by
    rw [Nat.pow_succ]
    omega
  have h3 := blen_le h2
  obtain ⟨k, e⟩ : ∃ k, blen n = k + 1 := ⟨n.log2, blen_pos h⟩
  have h4 := lt_blen n
  rw [e, Nat.pow_succ] at h4
  have h5 : blen (n / 2) ≤ k := blen_le (by omega)
  omega
theorem dg_pos {n : Nat} (h : n ≠ 0) : dg n = n % 2 :: dg (n / 2) := by
  unfold dg
  rw [blen_half h, bitsL_succ]
theorem dg_bits (n : Nat) : Bits (dg n) := bitsL_bits _ _
theorem bits_pad : ∀ (n k : Nat), bitsL n (blen n + k) = dg n ++ List.replicate k 0 := fun n k => by
  unfold dg
  refine List.ext_getElem (by simp [bitsL_len]) fun i h1 h2 => ?_
  by_cases hi : i < blen n
  · rw [List.getElem_append_left (by rw [bitsL_len]; exact hi)]
    simp only [bitsL, List.getElem_map, List.getElem_range]
  · rw [List.getElem_append_right (by rw [bitsL_len]; omega)]
    simp only [bitsL, List.getElem_map, List.getElem_range, List.getElem_replicate]
    have : n < 2 ^ i := Nat.lt_of_lt_of_le (lt_blen n) (Nat.pow_le_pow_right (by decide) (by omega))
    rw [Nat.div_eq_of_lt this]
theorem runT_app (T : List (List Int)) (s : Nat) (a b : List Nat) : runT T s (a ++ b) = runT T (runT T s a) b := by
  unfold runT
  rw [List.foldl_append]
/-- a copied table -/
theorem lc_copy {K : PySem.W.Frag} {t : Addr} {rs : List Addr} {T : List (List Int)} {g : TG} {te : TE} {vs : List Nat} {σ : L2.St} {H1 : Hp} {D : Addr} {Qd : Hp → Prop} (h1 : H1 t = some (.lst (rs.map V.ref))) (hr : RowsAt H1 rs T) (hn : T.length ≤ 500) (hD : H1 D = none)
    (step : ∀ a (r : List Int) H (N : VK), H a = some (.lst (r.map V.int)) → (∀ L, H L = none → N (.ref L) (upd H L (.lst (r.map V.int)))) → g (.ref a) (wipe σ vs) H fun σ2 H2 => wipe σ2 vs = wipe σ vs ∧ te σ2 H2 N)
    (hd : ∀ H' qs, Same H1 H' → H' D = some (.lst (qs.map V.ref)) → RowsAt H' qs T → (∀ q ∈ qs, H1 q = none ∧ q ≠ D) → Qd H') : LcJ (Itl K t) g tYes te vs D σ H1 Qd := by
  refine lc_listN (xs := rs.map V.ref) (fun i H4 => ∃ qs : List Addr, H4 D = some (.lst (qs.map V.ref)) ∧ RowsAt H4 qs (T.take i) ∧ Same H1 H4 ∧ ∀ q ∈ qs, H1 q = none ∧ q ≠ D) ?_ ?_ ?_ ?_
  · exact ⟨[], upd_same, ⟨rfl, fun i a r h _ => nomatch h⟩, same_upd hD, fun _ h => nomatch h⟩
  · rintro i H4 _ ⟨qs, _, _, s4, _⟩
    exact SqL.of (s4 _ _ h1)
  · rintro i x H4 N2 hx ⟨qs, h4, q4, s4, n4⟩ hN2
    rw [List.getElem?_map] at hx
    obtain ⟨ra, hra, rfl⟩ := Option.map_eq_some_iff.mp hx
    have hi : i < T.length := by rw [← hr.len]; exact (List.getElem?_eq_some_iff.mp hra).1
    have hTi : T[i]? = some T[i] := List.getElem?_eq_getElem hi
    have hrow := s4 _ _ (hr.at_ i ra T[i] hra hTi)
    have hql : qs.length ≤ 500 := by
      have := q4.len
      rw [List.length_take] at this
      omega
    refine step ra T[i] H4 (fun y H5 => ∃ acc, H5 D = some (.lst acc) ∧ acc.length < sizeLine ∧ N2 (upd H5 D (.lst (acc ++ [y])))) hrow fun L hL => ⟨_, (same_upd hL) _ _ h4, smallt (by rw [List.length_map]; omega), hN2 _ ⟨qs ++ [L], ?_, ?_, ?_, ?_⟩⟩
    · rw [upd_same, List.map_append]
      rfl
    · have hLD : L ≠ D := (ne_of_none h4 hL).symm
      rw [List.take_add_one, hTi]
      refine RowsAt.but (RowsAt.snoc (q4.same (same_upd hL)) upd_same) But.upd fun q hq => ?_
      rcases List.mem_append.mp hq with hq | hq
      · exact (n4 q hq).2
      · rw [List.mem_singleton.mp hq]
        exact hLD
    · exact Dw.Same.new (s4.trans (same_upd hL)) hD
    · intro q hq
      rcases List.mem_append.mp hq with hq | hq
      · exact n4 q hq
      · rw [List.mem_singleton.mp hq]
        exact ⟨s4.free hL, (ne_of_none h4 hL).symm⟩
  · rintro H4 ⟨qs, h4, q4, s4, n4⟩
    rw [List.length_map, hr.len, List.take_length] at q4
    exact hd H4 qs s4 h4 q4 n4
section
variable {X : Cx} (K : PySem.W.Frag)
theorem minK (hc : X.calm = true := by rfl) (h : X.K = K := by rfl) : CallR X (.builtin "min") (rMin K) := h ▸ cr_min hc
end
end Dw
namespace Dw
open PySem PySem.Spec PyProof.Rows L2 SX
theorem Same.get {H H' : Hp} {a : Addr} {o : HO} (s : Same H H') (h : H a = some o) : H' a = some o := s _ _ h
theorem But.get {p : Addr} {H H' : Hp} {a : Addr} {o : HO} (b : But p H H') (n : a ≠ p) (h : H a = some o) : H' a = some o := b _ _ n h
theorem Same.none {H H' : Hp} {a : Addr} (s : Same H H') (h : H' a = none) : H a = none := s.free h
theorem But.none {p : Addr} {H H' : Hp} {a : Addr} (b : But p H H') (n : a ≠ p) (h : H' a = none) : H a = none := by
  cases e : H a with
  | none => rfl
  | some o =>
    have := b _ _ n e
    rw [h] at this
    cases this
def tflds (o t : Addr) : List (Str × V) := putF "table" (.ref t) (putF "outputs" (.ref o) [])
theorem kot : ¬ (("outputs" : Str) = "table") := by decide +kernel
theorem tf_o (o t : Addr) : (tflds o t).lookup ("outputs" : Str) = some (.ref o) := by
  unfold tflds
  rw [lookup_putF, if_neg kot, lookup_putF, if_pos rfl]
theorem tf_t (o t : Addr) : (tflds o t).lookup ("table" : Str) = some (.ref t) := by
  unfold tflds
  rw [lookup_putF, if_pos rfl]
theorem tf_no (o t : Addr) {m : Str} (h1 : ¬ m = "outputs") (h2 : ¬ m = "table") : (tflds o t).lookup m = none := by
  unfold tflds
  rw [lookup_putF, if_neg h2, lookup_putF, if_neg h1]
  rfl
/-- a told word at m, its parts at L -/
def ToldP (C : Addr) (H : Hp) (L : List Addr) (m : Addr) (T : List (List Int)) (outs : List Int) : Prop := ∃ dx o t rs, L = m :: o :: t :: rs ∧ H m = some (.ins C dx (tflds o t)) ∧ H o = some (.lst (outs.map V.int)) ∧ H t = some (.lst (rs.map V.ref)) ∧ RowsAt H rs T
section
variable {C : Addr} {H H' : Hp} {L : List Addr} {m q : Addr} {T : List (List Int)} {outs : List Int}
theorem ToldP.but (h : ToldP C H L m T outs) (b : But q H H') (n : q ∉ L) : ToldP C H' L m T outs := by
  obtain ⟨dx, o, t, rs, rfl, h1, h2, h3, h4⟩ := h
  simp only [List.mem_cons, not_or] at n
  exact ⟨dx, o, t, rs, rfl, b _ _ (fun e => n.1 e.symm) h1, b _ _ (fun e => n.2.1 e.symm) h2, b _ _ (fun e => n.2.2.1 e.symm) h3, h4.but b fun r hr e => n.2.2.2 (e ▸ hr)⟩
theorem ToldP.same (h : ToldP C H L m T outs) (s : Same H H') : ToldP C H' L m T outs := by
  obtain ⟨dx, o, t, rs, rfl, h1, h2, h3, h4⟩ := h
  exact ⟨dx, o, t, rs, rfl, s _ _ h1, s _ _ h2, s _ _ h3, h4.same s⟩
theorem ToldP.free (h : ToldP C H L m T outs) (hq : H q = none) : q ∉ L := by
  obtain ⟨dx, o, t, rs, rfl, h1, h2, h3, h4⟩ := h
  intro z
  simp only [List.mem_cons] at z
  rcases z with rfl | rfl | rfl | z
  · rw [hq] at h1; cases h1
  · rw [hq] at h2; cases h2
  · rw [hq] at h3; cases h3
  · obtain ⟨r, _, e⟩ := h4.some z
    rw [hq] at e; cases e
end
/-- a row of a table, changed nowhere else -/
theorem RowsAt.not {H : Hp} {rs : List Addr} {T : List (List Int)} {q : Addr} (h : RowsAt H rs T) (hq : ∀ r : List Int, H q ≠ Option.some (.lst (r.map V.int))) : q ∉ rs := fun z => by
  obtain ⟨r, _, e⟩ := h.some z
  exact hq r e
theorem RowsAt.free {H : Hp} {rs : List Addr} {T : List (List Int)} {q : Addr} (h : RowsAt H rs T) (hq : H q = none) : q ∉ rs := fun z => by
  obtain ⟨r, _, e⟩ := h.some z
  rw [hq] at e
  cases e
/-- the output that a word has at a number -/
def outOf (T : List (List Int)) (outs : List Int) (n : Nat) : Int := outs.getD (runT T 0 (dg n)) 0
theorem TOk.run {T : List (List Int)} {outs : List Int} (h : TOk T outs) {ds : List Nat} (b : Bits ds) : runT T 0 ds < T.length := runT_lt h.good ds 0 b h.pos
theorem TOk.at_ {T : List (List Int)} {outs : List Int} (h : TOk T outs) {s : Nat} (hs : s < T.length) : outs[s]? = some (outs.getD s 0) := by
  rw [List.getD_eq_getElem?_getD, List.getElem?_eq_getElem (by rw [h.al]; exact hs)]
  rfl
theorem TOk.pad {T : List (List Int)} {outs : List Int} (h : TOk T outs) (n k : Nat) : outs[runT T 0 (bitsL n (blen n + k))]? = some (outOf T outs n) := by
  rw [bits_pad, runT_app, h.zeros k _ (h.run (dg_bits n)), h.at_ (h.run (dg_bits n))]
  rfl
theorem bitsL_snoc (n k : Nat) : bitsL n (k + 1) = bitsL n k ++ [n / 2 ^ k % 2] := by
  unfold bitsL
  rw [List.range_succ, List.map_append]
  rfl
theorem wd_dg (n : Nat) : wd [n] = dg n := by
  unfold dg wd bitsL bitAt bls bls
  rw [Nat.max_eq_left (Nat.zero_le _)]
  refine List.map_congr_left fun k _ => ?_
  show n / 2 ^ k % 2 + 2 * 0 = _
  omega
theorem TOk.mach {T : List (List Int)} {outs : List Int} (h : TOk T outs) (o : Int) : MOk 1 T (outs.map fun x => decide (x = o)) := by
  refine ⟨by decide, h.pos, by have := h.le; omega, h.good, by rw [List.length_map, h.al], fun i hi => ?_⟩
  rw [List.getElem?_map, List.getElem?_map, h.set i hi]
theorem TOk.acc {T : List (List Int)} {outs : List Int} (h : TOk T outs) (o : Int) (n : Nat) : (outs.map fun x => decide (x = o)).getD (runT T 0 (wd [n])) false = decide (outOf T outs n = o) := by
  rw [wd_dg, List.getD_eq_getElem?_getD, List.getElem?_map, h.at_ (h.run (dg_bits n))]
  rfl
end Dw
namespace Dw
open PySem PySem.Spec PyProof.Rows L2 SX
theorem ixN_at {n j : Nat} (hj : j < n) : ixN n (j : Int) = some j := by
  unfold ixN
  rw [if_pos (by omega), if_pos (by omega)]
  simp
theorem setL_of {p : Addr} {xs : List V} {j : Nat} {v : V} {H : Hp} {R : Hp → Prop} (h : H p = some (.lst xs)) (hj : j < xs.length) (q : R (upd H p (.lst (xs.set j v)))) : L2.rSetL (.ref p) (.int (j : Nat)) v H R := ⟨p, xs, j, j, rfl, rfl, h, ixN_at hj, q⟩
end Dw
namespace Dw
open PySem PySem.Spec PyProof.Rows L2
/-! try with several clauses, each with a name: «except A as e: .. except B as e: ..» -/
abbrev Clause := Value × Nat × (Addr → Value → Option Addr → TS)
/-- the ends of a suite whose name is unbound behind it -/
def unb (i : Nat) (D : Ends) : Ends := { nx := fun σ H => D.nx (σ.set i none) H, rt := D.rt, bk := fun σ H => D.bk (σ.set i none) H, ct := fun σ H => D.ct (σ.set i none) H }
def wNamed (K : PySem.W.Frag) (Wo : WX) (D : Ends) : List Clause → WX
  | [] => Wo
  | (c, i, ts) :: rest => fun cls d σ H => ∃ b, PySem.W.exmOne K cls c = some b ∧
      (b = true → ∀ a, H a = none → ts a cls d (unb i D) (σ.set i (some (.ref a))) H) ∧ (b = false → wNamed K Wo D rest cls d σ H)
inductive Named (X : Cx) : List ExceptHandler → List Clause → Prop
  | none : Named X [] []
  | more {x n : Str} {c : Value} {i : Nat} {ts : Addr → Value → Option Addr → TS} {st : Stmt} {sts : List Stmt} {p p' : Pos} {hs : List ExceptHandler} {l : List Clause}
      (nm : Names X x c) (at_i : X.N[i]? = some n) (loc : X.env.kindOf n = some .local)
      (su : ∀ (a : Addr) (oe : Obj) (cls : Value) (d : Option Addr) (pn : List (Addr × Obj)), Zc cls d oe → (∃ vs, oe.data = .fields vs) → PSs (X.suite a ((a, oe) :: pn)) (st :: sts) (ts a cls d))
      (rest : Named X hs l) : Named X (.ExceptHandler (some (.Name x p)) (some n) (st :: sts) p' :: hs) ((c, i, ts) :: l)
section
variable {X : Cx} {D : Ends} {Wo : WX}
/-- what the catching frame knows of the exception at a -/
structure Got (X : Cx) (pins : List (Addr × Obj)) (σ : L2.St) (H : Hp) (a : Addr) (cls : Value) (d : Option Addr) (B : Heap) (sI s' : Shared) (h : Heap) : Prop where
  J : Inv X pins σ H sI
  nb : ∀ b o, sI.heap.get? b = some o → b ∉ frs X.stack → B.get? b = some o
  up : sI.heap.UpToSlots h
  fl : HandSPX.FlyingZ B (X.env :: X.outer) a (Zc cls d) h
  na : H a = none
  os : s'.os = sI.os
  ag : AllBare s'.gens
  nL : a ≠ X.env.locals
  nF : a ∉ X.fs
theorem named_run {pins : List (Addr × Obj)} {σ : L2.St} {H : Hp} {a : Addr} {cls : Value} {d : Option Addr} {B : Heap} {sI s' : Shared} {h : Heap}
    (hst : X.stack = X.env :: X.outer) (hfm : X.env.frame = some X.env.locals) (hN : X.N.Nodup) (tk : Takes X Wo) (ok : X.Ok)
    (G : Got X pins σ H a cls d B sI s' h) : ∀ {hs : List ExceptHandler} {l : List Clause}, Named X hs l → wNamed X.K Wo D l cls d σ H →
    wpAny (model X.prog X.w) X.A (handleBy (.ref a) X.env hs) (SP X pins D) X.xe { s' with heap := h } := by
  intro hs l nmd
  have J3 : Inv X pins σ H { s' with heap := h } := G.J.landed G.nb G.fl.1 G.up G.os G.ag
  induction nmd with
  | none =>
    intro w
    refine wpAny_handleBy_nil ?_
    obtain ⟨_, _, _, oe, vs, T, oT, us, he, hz, hd, h1, _⟩ := id G.fl
    unfold PySem.passOn
    have nz : ¬ ((Value.ref T == Value.none) = true) := by simp
    have out : wpAny (model X.prog X.w) X.A (setFlight (.ref a) X.env.frame)
        (fun _ s4 => wpAny (model X.prog X.w) X.A (throw (.ref a) : Sem Flow) (SP X pins D) X.xe s4) X.xe { s' with heap := h } := by
      rw [hfm]
      refine HandSPX.setFlight_upZ G.fl fun h4 held up4 => wpAny_throw (tk _ _ ?_)
      have sky : Sky B X.stack a (Zc cls d) X.env.locals h4 := .inr (.inr (by rw [hst]; exact held))
      exact ⟨a, B, sI, pins, σ, H, cls, d, rfl, G.J, G.nb, G.up.trans up4, sky, G.na, G.os, G.ag, w⟩
    refine wpAny_bind (wpAny_field he hd h1 ?_)
    rw [if_neg nz]
    first | exact wpAny_bind (wpAny_pure (wpAny_bind out)) | exact wpAny_bind out
  | @more x n c i ts st sts p p' hs2 l2 nm at_i loc su rest ih =>
    rintro ⟨b, hb, yes, no⟩
    obtain ⟨oe, vs, he, hz, hd⟩ := G.fl.there
    have S3 := J3.suite he hd G.na G.nL G.nF
    have typ : PySem.W.Looks (model X.prog X.w) h (typeOf (.ref a)) cls := fun A Q E s k q => wpAny_typeOf_ref (k _ _ he) (by rw [hz.1]; exact q)
    have look := PySem.W.exm_one (M := model X.prog X.w) J3.kIn typ hb
    refine wpAny_handleBy_cons (codeAny_handlers_test ?_) (by intro q; cases q)
    have name : ∀ {Q : Value → Shared → Prop} {E : Value → Shared → Prop}, Q c { s' with heap := h } →
        wpAny (model X.prog X.w) (X.A.mark (some (.ref a))) (eval (.Name x p) X.env) Q E { s' with heap := h } := by
      intro Q E q
      obtain ⟨g1, g2, g3 | ⟨g3, g4, g5⟩⟩ := nm
      · exact ld_glob (X := X.suite a ((a, oe) :: (X.pn ++ pins))) S3 g1 g3 q g2
      · exact ld_blt (X := X.suite a ((a, oe) :: (X.pn ++ pins))) S3 g1 g3 g4 q g5 g2
    refine name (look.here ?_)
    cases b with
    | false =>
      show wpAny _ X.A (handleBy (.ref a) X.env hs2) _ _ _
      exact ih (no rfl)
    | true =>
      refine codeAny_handlers_suite_as (HandSPX.lands_againZ G.fl fun h4 fl4 up4 => ?_)
      have J4 : Inv X pins σ H { s' with heap := h4 } := G.J.landed G.nb fl4.1 (G.up.trans up4) G.os G.ag
      obtain ⟨oe4, vs4, he4, hz4, hd4⟩ := fl4.there
      have S4 := J4.suite he4 hd4 G.na G.nL G.nF
      refine store_ok (X := X.suite a ((a, oe4) :: (X.pn ++ pins))) (v := .ref a) S4 hN at_i (.inl loc) rfl (fun s5 S5 => ?_) (.inr loc)
      refine wpAny_mono ((su a oe4 cls d (X.pn ++ pins) hz4 ⟨_, hd4⟩).run [] s5 _ H (unb i D) S5 (yes rfl a G.na)) (fun f s6 done => ?_) (fun _ _ z => False.elim z)
      have behind : ∀ {σ6 : L2.St} {H6 : Hp} {Q : Shared → Prop}, Inv (X.suite a ((a, oe4) :: (X.pn ++ pins))) [] σ6 H6 s6 → (∀ s7, Inv X pins (σ6.set i none) H6 s7 → Q s7) →
          wpAny (model X.prog X.w) X.A (do bindName X.env n .none; unbindBehindTheSuite X.env n p') (fun _ s7 => Q s7) X.xe s6 :=
        fun {σ6 H6 Q} S6 hq => gone_ok (S6.unsuite ok) hN at_i loc hq
      cases f with
      | ret u => obtain ⟨v6, σ6, H6, S6, r6, q6⟩ := done; exact behind S6 fun s7 J7 => ⟨_, _, _, J7, r6, q6⟩
      | next => obtain ⟨σ6, H6, S6, q6⟩ := done; exact behind S6 fun s7 J7 => ⟨_, _, J7, q6⟩
      | brk => obtain ⟨σ6, H6, S6, q6⟩ := done; exact behind S6 fun s7 J7 => ⟨_, _, J7, q6⟩
      | cont => obtain ⟨σ6, H6, S6, q6⟩ := done; exact behind S6 fun s7 J7 => ⟨_, _, J7, q6⟩
variable {body : List Stmt} {hd0 : ExceptHandler} {hds : List ExceptHandler} {l : List Clause} {pos : Pos} {tb : WX → TS}
theorem ps_try_named (hst : X.stack = X.env :: X.outer) (hfm : X.env.frame = some X.env.locals) (hN : X.N.Nodup) (tk : Takes X Wo)
    (hb : ∀ (W : WX) (pn : List (Addr × Obj)) (xe : Value → Shared → Prop), Takes (X.tr pn xe) W → PassesOwn (model X.prog X.w) X.A X.env xe → PSs (X.tr pn xe) body (tb W))
    (hh : Named X (hd0 :: hds) l) : PS X (.Try body (hd0 :: hds) [] [] pos) (fun D σ H => tb (wNamed X.K Wo D l) D σ H) := by
  refine ⟨fun pins s σ H D I q0 => wpAny_Try_except ?_⟩
  have ok := I.ok
  have hfr : X.A.frames = some (X.env :: X.outer) := by rw [ok.frames, hst]
  let xe : Value → Shared → Prop := fun e s₁ => wpAny (model X.prog X.w) X.A (noteFrame e X.env)
    (fun _ s₂ => wpAny (model X.prog X.w) X.A (setFlight e none) (fun _ s₃ => wpAny (model X.prog X.w) X.A (handleBy e X.env (hd0 :: hds)) (SP X pins D) X.xe s₃) X.xe s₂) X.xe s₁
  have takes : Takes (X.tr (X.pn ++ pins) xe) (wNamed X.K Wo D l) := by
    rintro u s' ⟨a, B, sI, pins', σ', H', cls, d, rfl, J', nb, up, sky, na, os, ag, w⟩
    have J : Inv X pins σ' H' sI := J'.ofTry ok
    have sky' : Sky B (X.env :: X.outer) a (Zc cls d) X.env.locals s'.heap := by rw [← hst]; exact sky
    show wpAny (model X.prog X.w) X.A (noteFrame (.ref a) X.env) _ _ _
    refine Sky.land Zc.steady hfr hfm sky' fun h3 fl3 up3 => ?_
    obtain ⟨oe3, vs3, he3, _, hd3⟩ := fl3.there
    have far : a ∉ frs (X.env :: X.outer) := fun hm => by
      obtain ⟨_, o', e', hnf⟩ := fl3.2.2.1.mem hm
      rw [he3] at e'
      cases e'
      exact hnf _ hd3
    refine named_run hst hfm hN tk ok ⟨J, nb, up.trans up3, fl3, na, os, ag, fun z => ?_, fun hm => ?_⟩ hh w
    · exact far (List.mem_filterMap.mpr ⟨X.env, List.mem_cons_self, by rw [hfm, z]⟩)
    · obtain ⟨e, he, q⟩ := List.mem_filterMap.mp hm
      exact far (List.mem_filterMap.mpr ⟨e, List.mem_cons_of_mem _ he, q⟩)
  refine wpAny_mono ((hb _ (X.pn ++ pins) xe takes PassesOwn.looking).run [] s σ H D (I.toTry _) q0) (fun f s1 done => ?_) (fun _ _ z => z)
  cases f with
  | ret u => obtain ⟨v, σ', H', J', r, q⟩ := done; exact ⟨v, σ', H', J'.ofTry ok, r, q⟩
  | next => obtain ⟨σ', H', J', q⟩ := done; exact wpAny_execs_nil ⟨σ', H', J'.ofTry ok, q⟩
  | brk => obtain ⟨σ', H', J', q⟩ := done; exact ⟨σ', H', J'.ofTry ok, q⟩
  | cont => obtain ⟨σ', H', J', q⟩ := done; exact ⟨σ', H', J'.ofTry ok, q⟩
end
end Dw
namespace Dw
open PySem PySem.Spec PyProof.Rows L2 SX
/-! own exceptions with one field -/
def sp_init (C : Addr) (f : Str) : Sp := fun vs H Q _ => ∃ (a : Addr) (v : V), vs = [.ref a, v] ∧ H a = some (exo a C none) ∧ ∀ dx, H dx = none → dx ≠ a → Q .non (upd (upd H dx (exd dx [(f, v)])) a (exo a C (some dx)))
/-- a class of own exceptions whose __init__ stores its one argument -/
structure ExF (P : Program) (w : World) (K : PySem.W.Frag) (mg : Str → Option Value) (base : Heap) (x : Str) (C : Addr) (f : Str) : Prop where
  T : OexC K C
  g : mg x = some (.ref C)
  xf : XfC K C
  nof : PySem.W.findIn K (.ref C) f = some none
  ini : ∃ (fI : Addr) (fd : FuncData), PySem.W.findIn K (.ref C) "__init__" = some (some (.ref fI)) ∧ PySem.W.typeIn K (.ref fI) = some (.type "function") ∧ FnOk P w K mg base C8.CX0 1 fI fd ["self", f] (sp_init C f) ∧ Binds K fd ["self", f] []
section
variable {X : Cx} {x f : Str} {C : Addr} {k : Nat} {e : Expr} {ta : TA} {p pos : Pos}
theorem pmk_ex (F : ExF X.prog X.w X.K X.mg X.base x C f) (hr : Room k X.A) (hk : 2 ≤ k) (hg : Gl X x) (ha : PA X [e] ta)
    (hdb : (x == ("__debug__" : Str)) = false := by decide) (he : starEach (e :: []) X.env = (false, eval e X.env) :: starEach [] X.env := by rfl) (hpl : (backTo pos (starEach [] X.env)).any (·.1) = false := by rfl) :
    PMk X (.Call (.Name x p) [e] [] pos) (tMkO C (sp_init C f) [] ta) := by
  obtain ⟨fI, fd, h1, h2, h3, h4⟩ := F.ini
  exact pmk_oex F.T h1 h2 h3 (hr.mono hk) h4 .nil C8.pass0 hg F.g ha hdb he hpl
end
theorem raise_ok {C : Addr} {f : Str} {v : V} {H : Hp} {E : XK} (ok : ∀ d H', Same H H' → H d = none → H' d = some (.xd [(f, v)]) → E (.ref C) (some d) H') {a : Addr} (ha : H a = none) :
    sp_init C f [.ref a, v] (upd H a (exo a C none)) (fun v H2 => v = .non ∧ ∃ (d : Addr) (fs : List (Str × V)), H2 a = some (exo a C (some d)) ∧ H2 d = some (exd d fs) ∧ H d = none ∧ E (.ref C) (some d) (upd (del H2 a) d (.xd fs))) (fun _ _ _ => False) := by
  refine ⟨a, v, rfl, upd_same, fun dx hd hne => ⟨rfl, dx, [(f, v)], upd_same, ?_, ?_, ?_⟩⟩
  · rw [upd_ne hne, upd_same]
  · rw [upd_ne hne] at hd
    exact hd
  · have hd0 : H dx = none := by
      rw [upd_ne hne] at hd
      exact hd
    refine ok dx _ (fun b o hb => ?_) hd0 upd_same
    have h1 : b ≠ dx := ne_of_none hb hd0
    have h2 : b ≠ a := ne_of_none hb ha
    rw [upd_ne h1, del_ne h2, upd_ne h2, upd_ne h1, upd_ne h2]
    exact hb
theorem exm_of {K : PySem.W.Frag} {S C : Addr} {b : Bool} (h1 : PySem.W.subIn K (.ref C) (.type "BaseException") = some true) (h2 : PySem.W.isClsIn K C = true) (h3 : PySem.W.typeIn K (.ref C) = some (.type "type")) (h4 : PySem.W.subIn K (.ref S) (.ref C) = some b) :
    PySem.W.exmOne K (.ref S) (.ref C) = some b := by
  have e1 : (PySem.W.subIn K (.ref C) (.type "BaseException") == some true) = true := by rw [h1]; rfl
  have h2' : (PySem.W.clsIn K C).isSome = true := h2
  have e2 : ((PySem.W.clsIn K C).isSome && PySem.W.typeIn K (.ref C) == some (.type "type")) = true := by
    rw [h2', h3]; rfl
  unfold PySem.W.exmOne
  rw [if_pos e1]
  unfold PySem.W.kitCls
  first
    | rw [if_pos e2, h4]
    | simp only [e2, h4, if_true]
/-! defs that may raise -/
structure CalX (P : Program) (w : World) (K : PySem.W.Frag) (mg : Str → Option Value) (base : Heap) (k : Nat) (x : Str) (sp : Sp) : Prop where
  ex : ∃ (f : Addr) (fd : FuncData) (ps : List Str), FnOk P w K mg base (L2.CX P w) k f fd ps sp ∧ mg x = some (.ref f) ∧ PySem.W.keepIn K (.ref f) = true ∧ Binds K fd ps []
section
variable {P : Program} {w : World} {K : PySem.W.Frag} {mg : Str → Option Value} {base : Heap}
theorem calX0 {x : Str} {st : Stmt} {f : Addr} {fd : FuncData} {N ps : List Str} {k : Nat} {sp : Sp} (F : C8.Def K mg x st f fd) (b : Binds K fd ps []) (S : FnScope N ps (C8.fnScope st)) (len : ∀ vs H Q E, sp vs H Q E → vs.length = ps.length)
    (hbody : ∀ (cdv : Value) (A : Around) (outer : List Env) (s : Shared) (H : Hp) (vs : List V) (Q : VK) (E : XK), Room k (A.deeper (envOfC x (C8.fnScope st) s.heap.objs.size f cdv)) → sp vs H Q E →
      ∃ t, PSs (cxOf (L2.CX P w) P w K mg base N x (C8.fnScope st) f cdv A outer s H E) (C8.fnBody st) t ∧ t { nx := fun _ H' => Q .non H', rt := Q } (start N vs) H) : CalX P w K mg base (k + 1) x sp := by
  refine ⟨f, fd, ps, ?_, F.mgf, F.kp, b⟩
  obtain ⟨oc, od, dV, kV, doc, pm, an, cdv, ct, osl, rfl, lk, hcd⟩ := F.fn.ex
  exact fn_of lk hcd S len fun A outer s H vs Q E hr hsp => hbody cdv A outer s H vs Q E hr hsp
end
section
variable {X : Cx} {k j : Nat} {x : Str} {sp : Sp} {p pos : Pos} {e : Expr} {es : List Expr} {t : TA}
/-- its call in a def that lets the same out -/
theorem pe_cx {E : XK} (c : CalX X.prog X.w X.K X.mg X.base k x sp) (hr : Room j X.A) (hk : k ≤ j) (hx : Passes (L2.CX X.prog X.w) X E) (hg : Gl X x) (ha : PA X (e :: es) t)
    (hdb : (x == ("__debug__" : Str)) = false := by decide) (he : starEach (e :: es) X.env = (false, eval e X.env) :: starEach es X.env := by rfl) (hpl : (backTo pos (starEach es X.env)).any (·.1) = false := by rfl) :
    PE X (.Call (.Name x p) (e :: es) [] pos) (tCall sp [] E t) := by
  obtain ⟨f, fd, ps, F, hm, kp, b⟩ := c.ex
  exact pe_call F (hr.mono hk) hg hm kp b .nil hx ha hdb he hpl
/-- its call in a try -/
theorem pe_cs {W : WX} (c : CalX X.prog X.w X.K X.mg X.base k x sp) (hr : Room j X.A) (hk : k ≤ j) (tk : Takes X W) (hg : Gl X x) (ha : PA X (e :: es) t)
    (hdb : (x == ("__debug__" : Str)) = false := by decide) (he : starEach (e :: es) X.env = (false, eval e X.env) :: starEach es X.env := by rfl) (hpl : (backTo pos (starEach es X.env)).any (·.1) = false := by rfl) :
    PE X (.Call (.Name x p) (e :: es) [] pos) (tCallS sp (WE W) t) := by
  obtain ⟨f, fd, ps, F, hm, kp, b⟩ := c.ex
  exact pe_callS F (hr.mono hk) hg hm kp b (fun σ => passAt tk σ) ha hdb he hpl
end
end Dw
namespace Dw
open PySem PySem.Spec PyProof.Rows L2 SX
/-- an own error of class C with this field is let out -/
def Rz (C : Addr) (f : Str) (v : V) (H : Hp) (E : XK) : Prop := ∀ d H', Same H H' → H d = none → H' d = some (.xd [(f, v)]) → E (.ref C) (some d) H'
theorem Rz.same {C : Addr} {f : Str} {v : V} {H H1 : Hp} {E : XK} (h : Rz C f v H E) (e : Same H H1) : Rz C f v H1 E := fun d H' s n x => h d H' (e.trans s) (e.free n) x
theorem raise_rz {C : Addr} {f : Str} {v : V} {H : Hp} {E : XK} (ok : Rz C f v H E) {a : Addr} (ha : H a = none) :
    sp_init C f [.ref a, v] (upd H a (exo a C none)) (fun v H2 => v = .non ∧ ∃ d : Addr, H2 a = some (exo a C (some d)) ∧ ∃ fs : List (Str × V), H2 d = some (exd d fs) ∧ H d = none ∧ E (.ref C) (some d) (upd (del H2 a) d (.xd fs))) (fun _ _ _ => False) := by
  obtain ⟨a1, v1, h1, h2, h3⟩ := raise_ok ok ha
  refine ⟨a1, v1, h1, h2, fun dx hd hne => ?_⟩
  obtain ⟨h4, d, fs, h5, h6, h7, h8⟩ := h3 dx hd hne
  exact ⟨h4, d, h5, fs, h6, h7, h8⟩
theorem hdIn_app {ch a b : List Nat} (h : hdIn ch a = true) : hdIn ch (a ++ b) = true := by
  cases a with
  | nil => cases h
  | cons c r => exact h
theorem hdIn_no {ch ch' a b : List Nat} (h : hdIn ch a = true) (d : ∀ c ∈ ch, c ∉ ch') : hdIn ch' (a ++ b) = false := by
  cases a with
  | nil => cases h
  | cons c r => exact decide_eq_false (d c (of_decide_eq_true h))
end Dw
namespace Dw
open PySem PySem.Spec PyProof.Rows L2 SX
theorem badc_ok : ∀ c ∈ BADC, c ∉ LOW ∧ c ∉ UPP ∧ c ∉ DIG ∧ c ≠ 32 ∧ c ≠ 10 ∧ ∀ s ∈ SGN, s.head? = some c → s = [33, 61] := by decide +kernel
theorem ul_no : ∀ c ∈ UPP, c ∉ LOW ++ DIG := by decide +kernel
theorem lu_no : ∀ c ∈ LOW, c ∉ UPP ++ DIG := by decide +kernel
theorem lud_no : ∀ c ∈ LOW ++ UPP, c ∉ DIG := by decide +kernel
theorem bad_hd {l : List Nat} (h : Bad l) : ∃ c r, l = c :: r ∧ c ≠ 32 ∧ c ≠ 10 := by
  have pick : ∀ {ch a : List Nat}, hdIn ch a = true → ∃ c r, a = c :: r ∧ c ∈ ch := fun {ch a} h => by
    cases a with
    | nil => cases h
    | cons c r => exact ⟨c, r, rfl, of_decide_eq_true h⟩
  cases h with
  | char h => exact ⟨_, [], rfl, (badc_ok _ h).2.2.2.1, (badc_ok _ h).2.2.2.2.1⟩
  | longN h0 h1 h2 h3 => obtain ⟨c, r, e, hc⟩ := pick h0; exact ⟨c, r, e, low_ok c hc⟩
  | longW h0 h1 h2 h3 => obtain ⟨c, r, e, hc⟩ := pick h0; exact ⟨c, r, e, (upp_ok c hc).2⟩
  | mixN h0 h1 h2 h3 h4 h5 => obtain ⟨c, r, e, hc⟩ := pick h0; exact ⟨c, _, by rw [e]; rfl, low_ok c hc⟩
  | mixW h0 h1 h2 h3 h4 h5 => obtain ⟨c, r, e, hc⟩ := pick h0; exact ⟨c, _, by rw [e]; rfl, (upp_ok c hc).2⟩
  | zeros h0 h1 h2 h3 =>
    cases l with
    | nil => cases h0
    | cons c r => exact ⟨c, r, rfl, (dig_ok c (h1 c List.mem_cons_self)).2.2⟩
  | big h0 h1 h2 n h3 h4 =>
    obtain ⟨c, r, e⟩ := cons_of h0
    exact ⟨c, r, e, (dig_ok c (h1 c (by rw [e]; exact List.mem_cons_self))).2.2⟩
  | letr h0 h1 h2 h3 h4 h5 =>
    obtain ⟨c, r, e⟩ := cons_of h0
    exact ⟨c, _, by rw [e]; rfl, (dig_ok c (h1 c (by rw [e]; exact List.mem_cons_self))).2.2⟩
theorem bad_len {l : List Nat} (h : Bad l) : l.length ≤ 30 := by
  cases h with
  | char h => exact (show 1 ≤ 30 by decide)
  | longN h0 h1 h2 h3 => omega
  | longW h0 h1 h2 h3 => omega
  | mixN h0 h1 h2 h3 h4 h5 => rw [List.length_append]; omega
  | mixW h0 h1 h2 h3 h4 h5 => rw [List.length_append]; omega
  | zeros h0 h1 h2 h3 => exact h3
  | big h0 h1 h2 n h3 h4 => exact h2
  | letr h0 h1 h2 h3 h4 h5 => rw [List.length_append]; omega
theorem char_no {c : Nat} {rest : List Nat} (h : c ∈ BADC) (h61 : hdIn [61] rest = false) : ∀ s ∈ SGN, pfx s ([c] ++ rest) = false := by
  intro s hs
  cases hp : pfx s ([c] ++ rest) with
  | false => rfl
  | true =>
    exfalso
    obtain ⟨r, hr⟩ := pfx_iff.mp hp
    obtain ⟨c', s', e⟩ := cons_of (sgn_ok s hs).1
    rw [e] at hr
    have hc : c = c' := (List.cons.inj hr).1
    have := (badc_ok c h).2.2.2.2.2 s hs (by rw [e, hc]; rfl)
    rw [this] at e
    obtain ⟨e1, e2⟩ := List.cons.inj e
    have h2 : rest = s' ++ r := (List.cons.inj hr).2
    rw [← e2] at h2
    rw [h2] at h61
    have h3 : hdIn [61] ([61] ++ r) = true := by
      show decide (61 ∈ [61]) = true
      decide
    rw [h3] at h61
    cases h61
end Dw
namespace Dw
open PySem PySem.Spec PyProof.Rows L2 SX
def GoodsT (tl : List Nat) : List Itm → Prop
  | [] => True
  | x :: r => Piece x.l x.k x.v ∧ Blank x.sp ∧ After x.l (x.sp ++ (iflat r ++ tl)) ∧ GoodsT tl r
theorem GoodsT.append {tl : List Nat} : ∀ {a b : List Itm}, GoodsT tl (a ++ b) → GoodsT tl b
  | [], _, h => h
  | _ :: a, _, h => GoodsT.append (a := a) h.2.2.2
end Dw
namespace Dw
open PySem PySem.Spec PySem.Calls PyProof.Rows PySem.W
/-! isinstance of a caught error that bears a field -/
section
variable {prog : Program} {w : World} {A : Around} {E : Value → Shared → Prop} {s : Shared} {K : Frag} {b C : Addr} {ob : Obj} {od : Option Obj}
theorem fo_data {n : Str} {a g : Value} (h1 : (clsIn K C).isSome = true) (h2 : findIn K (.ref C) n = some (some a)) (h3 : specialIn K a "__get__" = some (some g)) (h4 : takesIn K a = some true) : findObj K C od n = some (.bind g a) := by
  obtain ⟨cd, h1⟩ := Option.isSome_iff_exists.mp h1
  unfold findObj
  rw [h1, Option.bind_some, h2, Option.bind_some]
  simp [h3, h4]
theorem cls_asked {Q : Option Value → Shared → Prop} (T : L2.ExcC K C) (X : K.In s.heap) (I : InstAt s.heap b ob C od) (h : Q (some (.ref C)) { s with toks := s.toks + 1 }) : wpAny (model prog w) A (getAttr? (.ref b) "__class__") Q E s := by
  have found : findObj K C od "__class__" = some (.bind (.builtin "getset_descriptor.__get__") (.builtin "object.__class__")) :=
    fo_data (by obtain ⟨cd, hc, _⟩ := any_some T.hd; rw [hc]; rfl) T.ha T.hn T.ht
  obtain ⟨h0, gs, dr, tk, os⟩ := s
  have M0 := I.type (M := model prog w)
  have M1 := looks_findIn (M := model prog w) X T.hg
  have M2 := looks_findIn (M := model prog w) X T.hk
  have M3 := looks_find (M := model prog w) X I found
  have isb : Looks (model prog w) h0 (isInstance (.ref b) (.type "BaseException")) true := M0.andThen (looks_subIn X T.hs)
  have e0 : (false && onTheHeap (Value.builtin "BaseException.__getattribute__")) = false := rfl
  have e2 : (Value.builtin "BaseException.__getattribute__" == Value.builtin "object.__getattribute__") = false := by decide +kernel
  have e1 : (onTheHeap (Value.ref C) && Value.builtin "BaseException.__getattribute__" == Value.builtin "object.__getattribute__") = false := by rw [e2]; rfl
  unfold getAttr? getAttrBy? getAttrBy
  refine wpAny_bind (wpAny_mkText (wpAny_bind (wpAny_attempt (wpAny_holding (wpAny_bind (M0.at (wpAny_bind (M1.at ?_))))))))
  show wpAny _ _ (if (onTheHeap (Value.ref C) && Value.builtin "BaseException.__getattribute__" == Value.builtin "object.__getattribute__") = true then _ else _) _ _ _
  rw [e1, if_neg Bool.false_ne_true]
  unfold getAttrByItsOwn hookBefore
  refine wpAny_bind ?_
  rw [if_pos (show onTheHeap (Value.ref C) = true from rfl)]
  refine M2.at ?_
  refine wpAny_bind (wpAny_attempt (wpAny_holding ?_))
  unfold callGetattribute
  rw [e0, if_neg Bool.false_ne_true]
  unfold boundAndCalled
  rw [PySem.F.excAttr_ValueError.ga.bind (.ref b)]
  refine wpAny_bind (wpAny_pure ?_)
  show wpAny _ _ (call (.builtin "BaseException.__getattribute__") [.ref b, .str "__class__" tk]) _ _ _
  refine wpAny_call (codeAny_call_builtin PySem.F.excAttr_ValueError.ga.plain PySem.F.entry_bexc_ga ?_)
  refine @check_slot (model prog w) _ _ ⟨h0, gs, dr, tk + 1, os⟩ "BaseException.__getattribute__" "BaseException" "__getattribute__" (.ref b) [.str "__class__" tk] [] _ (by decide +kernel) (by decide +kernel) isb (PySem.F.args_bexc_ga (.ref b) (.str "__class__" tk)) ?_
  unfold Builtin.«object.__getattribute__»
  refine wpAny_bind (wpAny_of_eq (a := ((Value.ref b : Value), [Value.str "__class__" tk])) (by first | rfl | (simp only [slotArgs]; rfl)) ?_)
  refine wpAny_bind (wpAny_pure (wpAny_bind (M0.at (wpAny_bind (M3.at ?_)))))
  show wpAny _ _ (holding [Value.builtin "object.__class__"] (call (.builtin "getset_descriptor.__get__") [.builtin "object.__class__", .ref b, .ref C]) >>= ret) _ _ _
  refine wpAny_bind (wpAny_holding (wpAny_call (class_get (s := ⟨h0, gs, dr, tk + 1, os⟩) (ox := ob) (od := od) X I T.hm ?_)))
  refine wpAny_pure ?_
  show wpAny _ _ (handedOut (.ref C)) _ _ _
  rw [handedOut_of (v := .ref C) rfl]
  first
    | exact wpAny_pure (wpAny_pure h)
    | exact wpAny_pure h
    | exact wpAny_pure (wpAny_bind (wpAny_pure (wpAny_pure h)))
theorem kitx_of (T : L2.ExcC K C) : KitX K (.ref b) (.ref C) (fun h => InstAt h b ob C od) where
  ty := fun _ _ _ I => I.type
  it := fun _ _ X _ => by
    obtain ⟨cd, hc, _⟩ := any_some T.hd
    unfold clsIn at hc
    split at hc
    · rename_i c1 d1 cd1 sl1 ho
      intro A1 Q1 E1 s1 k q
      unfold isType loadHead
      exact wpAny_bind (wpAny_loadPart (k _ _ (X _ _ ho)) (wpAny_pure q))
    · cases hc
  ne := fun h tp dd its n sl X htp => by
    obtain ⟨cd, hc, _⟩ := any_some T.hd
    refine Bool.eq_false_iff.mpr fun q => ?_
    obtain rfl : C = tp := Value.ref.inj (beq_iff_eq.mp q)
    unfold clsIn at hc
    split at hc
    · rename_i c1 d1 cd1 sl1 ho
      have z := (X _ _ ho).symm.trans htp
      cases z
    · cases hc
  ca := fun X I k => cls_asked T X I k
end
open L2
/-- isinstance(e, c), e the caught error of class C with its own dict at d -/
def rIsF (K : PySem.W.Frag) (C a : Addr) (cls : Value) (d : Option Addr) : List V → Hp → VK → Prop := fun xs H Q => ∃ (c : V) (cv : Value) (b : Bool) (dd : Addr) (fs : List (Str × V)), xs = [.ref a, c] ∧ (∀ u, RelV c u → u = cv) ∧ cls = .ref C ∧ d = some dd ∧ H dd = some (.xd fs) ∧ PySem.W.kitOne K (.ref C) cv = some b ∧ Q (.bl b) H
theorem call_isF {X : Cx} {a C : Addr} {oe : Obj} {cls : Value} {d : Option Addr} {pn : List (Addr × Obj)} (T : ExcC X.K C) (hz : Zc cls d oe) (hf : ∃ vs, oe.data = .fields vs) : CallR (X.suite a ((a, oe) :: pn)) (.builtin "isinstance") (rIsF X.K C a cls d) := by
  intro pins s σ H xs us Q I r h
  obtain ⟨c, cv, b, dd, fs, rfl, hcv, rfl, rfl, hdd, e, q⟩ := h
  obtain ⟨u1, r1, rfl, ra, rr⟩ : ∃ u1 r1, us = u1 :: r1 ∧ RelV (.ref a) u1 ∧ Vals [c] r1 := by
    cases r with
    | cons h1 h2 => exact ⟨_, _, rfl, h1, h2⟩
  obtain ⟨u2, rfl, rc⟩ := vals1 rr
  obtain rfl : u1 = Value.ref a := ra
  obtain rfl := hcv _ rc
  obtain ⟨gt, _⟩ := I.pin (a, oe) (List.mem_append_left _ List.mem_cons_self)
  obtain ⟨vs, hv⟩ := hf
  have ok : ObjOk X.prog X.w H s.heap dd (.xd fs) := I.hok dd _ hdd
  obtain ⟨mA, ns, _⟩ := ok
  obtain ⟨od, ho, _⟩ := lookIn_ns ns
  have J : PySem.W.InstAt s.heap a oe C (some od) := ⟨gt, hz.1, by unfold PySem.W.notCls; rw [hv] <;> rfl, by rw [hz.2]; exact ho⟩
  exact PySem.W.kia_one (kitx_of T) I.kIn J e (fun z => nomatch z) fun tk => ⟨.bl b, H, I.kept (t' := tk) fun _ _ z => z, rfl, q⟩
/-- a call that lets nothing out, of a def that may -/
theorem passF {X : Cx} {P : Program} {w : World} : Passes (L2.CX P w) X C8.E0 := fun _ _ _ _ _ _ _ h => by
  obtain ⟨_, _, _, _, _, _, _, _, _, _, _, _, e⟩ := h
  exact e.elim
end Dw
namespace Dw
open PySem PySem.Spec PyProof.Rows L2 SX
/-! classes whose __init__ may raise, methods that may raise -/
structure MakX (P : Program) (w : World) (K : PySem.W.Frag) (mg : Str → Option Value) (base : Heap) (k : Nat) (x : Str) (C : Addr) (sp : Sp) : Prop where
  ex : ∃ (f : Addr) (fd : FuncData) (ps : List Str), Mk K C f ∧ FnOk P w K mg base (L2.CX P w) k f fd ps sp ∧ mg x = some (.ref C) ∧ Binds K fd ps []
structure MetX (P : Program) (w : World) (K : PySem.W.Frag) (mg : Str → Option Value) (base : Heap) (k : Nat) (C : Addr) (m : Str) (sp : Sp) : Prop where
  ex : ∃ (f : Addr) (fd : FuncData) (ps : List Str), Cls K C ∧ Meth K C m f ∧ FnOk P w K mg base (L2.CX P w) k f fd ps sp ∧ Binds K fd ps []
section
variable {P : Program} {w : World} {K : PySem.W.Frag} {mg : Str → Option Value} {base : Heap}
theorem makX0 {x qual : Str} {C : Addr} {st : Stmt} {f : Addr} {fd : FuncData} {N ps : List Str} {k : Nat} {sp : Sp} (M : Mk K C f) (hm : mg x = some (.ref C)) (F : C8.Fun K "__init__" qual st f fd) (b : Binds K fd ps []) (S : FnScope N ps (C8.fnScope st)) (len : ∀ vs H Q E, sp vs H Q E → vs.length = ps.length)
    (hbody : ∀ (cdv : Value) (A : Around) (outer : List Env) (s : Shared) (H : Hp) (vs : List V) (Q : VK) (E : XK), Room k (A.deeper (envOfC qual (C8.fnScope st) s.heap.objs.size f cdv)) → sp vs H Q E →
      ∃ t, PSs (cxOf (L2.CX P w) P w K mg base N qual (C8.fnScope st) f cdv A outer s H E) (C8.fnBody st) t ∧ t { nx := fun _ H' => Q .non H', rt := Q } (start N vs) H) : MakX P w K mg base (k + 1) x C sp := by
  refine ⟨f, fd, ps, M, ?_, hm, b⟩
  obtain ⟨oc, od, dV, kV, doc, pm, an, cdv, ct, osl, rfl, lk, hcd⟩ := F.ex
  exact fn_of lk hcd S len fun A outer s H vs Q E hr hsp => hbody cdv A outer s H vs Q E hr hsp
theorem metX0 {m qual : Str} {C : Addr} {st : Stmt} {f : Addr} {fd : FuncData} {N ps : List Str} {k : Nat} {sp : Sp} (c : Cls K C) (me : Meth K C m f) (F : C8.Fun K m qual st f fd) (b : Binds K fd ps []) (S : FnScope N ps (C8.fnScope st)) (len : ∀ vs H Q E, sp vs H Q E → vs.length = ps.length)
    (hbody : ∀ (cdv : Value) (A : Around) (outer : List Env) (s : Shared) (H : Hp) (vs : List V) (Q : VK) (E : XK), Room k (A.deeper (envOfC qual (C8.fnScope st) s.heap.objs.size f cdv)) → sp vs H Q E →
      ∃ t, PSs (cxOf (L2.CX P w) P w K mg base N qual (C8.fnScope st) f cdv A outer s H E) (C8.fnBody st) t ∧ t { nx := fun _ H' => Q .non H', rt := Q } (start N vs) H) : MetX P w K mg base (k + 1) C m sp := by
  refine ⟨f, fd, ps, c, me, ?_, b⟩
  obtain ⟨oc, od, dV, kV, doc, pm, an, cdv, ct, osl, rfl, lk, hcd⟩ := F.ex
  exact fn_of lk hcd S len fun A outer s H vs Q E hr hsp => hbody cdv A outer s H vs Q E hr hsp
end
section
variable {X : Cx} {k j : Nat} {f C : Addr} {x m : Str} {sp : Sp} {p pos apos : Pos} {e o : Expr} {es : List Expr} {t : TA} {ta : TE} {CX : CXT} {fd : FuncData} {ps : List Str}
theorem pe_mkx {E : XK} (c : MakX X.prog X.w X.K X.mg X.base k x C sp) (hr : Room j X.A) (hk : k + 1 ≤ j) (hx : Passes (L2.CX X.prog X.w) X E) (hg : Gl X x) (ha : PA X (e :: es) t)
    (hdb : (x == ("__debug__" : Str)) = false := by decide) (he : starEach (e :: es) X.env = (false, eval e X.env) :: starEach es X.env := by rfl) (hpl : (backTo pos (starEach es X.env)).any (·.1) = false := by rfl) :
    PE X (.Call (.Name x p) (e :: es) [] pos) (tMake C sp [] E t) := by
  obtain ⟨f, fd, ps, M, F, hm, b⟩ := c.ex
  exact pe_make M F (hr.mono hk) hg hm b .nil hx ha hdb he hpl
theorem pe_mtx {pl : Sem Bool} {E : XK} (c : MetX X.prog X.w X.K X.mg X.base k C m sp) (hr : Room j X.A) (hk : k ≤ j) (hx : Passes (L2.CX X.prog X.w) X E) (he : PE X o ta) (ha : PA X (e :: es) t)
    (hst : starEach (e :: es) X.env = (false, eval e X.env) :: starEach es X.env := by rfl) (hpl : (backTo pos (starEach es X.env)).any (·.1) = false := by rfl)
    (ht : eval (.Call (.Attribute o m apos) (e :: es) [] pos) X.env = (do
      let ov ← eval o X.env
      standAt apos.atName
      let (f, first) ← holding [ov] (getMethod ov m pl)
      callWith pos f first (backTo pos (starEach (e :: es) X.env)) (backToKw pos (keywordEach [] X.env))) := by rfl) :
    PE X (.Call (.Attribute o m apos) (e :: es) [] pos) (tMeth C m sp [] E ta t) := by
  obtain ⟨f, fd, ps, hc, hm, F, b⟩ := c.ex
  exact pe_meth (pl := pl) he hc hm F (hr.mono hk) b .nil hx ha hst hpl ht
/-! in a try -/
def tMakeS (C : Addr) (sp : Sp) (E : L2.St → XK) (t : TA) : TE := fun σ H Q => t σ H fun vs H1 => ∀ x dx, H1 x = none → H1 dx = none → dx ≠ x →
  sp (.ref x :: vs) (upd (upd H1 dx (.own x)) x (.ins C dx [])) (fun v H2 => v = .non ∧ Q (.ref x) H2) (E σ)
theorem run_makeS {pins : List (Addr × Obj)} {σ : L2.St} {H : Hp} {s : Shared} {Q : VK} {E : L2.St → XK} {us : List Value} {vs : List V} (M : Mk X.K C f) (F : FnOk X.prog X.w X.K X.mg X.base CX k f fd ps sp) (hr : Room (k + 1) X.A) (hb : Binds X.K fd ps [])
    (hx : PassesAt CX X σ (E σ)) (I : Inv X pins σ H s) (r : Vals vs us)
    (h : ∀ x dx, H x = none → H dx = none → dx ≠ x → sp (.ref x :: vs) (upd (upd H dx (.own x)) x (.ins C dx [])) (fun v H2 => v = .non ∧ Q (.ref x) H2) (E σ)) :
    wpAny (model X.prog X.w) X.A (call (.ref C) us) (EP X pins σ Q) X.xe s := by
  have hq := h (s.heap.objs.size + 1) s.heap.objs.size (I.hok.fresh (Nat.le_succ _)) (I.hok.fresh (Nat.le_refl _)) (Nat.ne_of_lt (Nat.lt_succ_self _))
  have I2 := Inv.made (C := C) I
  have r2 : Vals (V.ref (s.heap.objs.size + 1) :: vs) (Value.ref (s.heap.objs.size + 1) :: us) := .cons rfl r
  have hl : (Value.ref (s.heap.objs.size + 1) :: us ++ []).length = ps.length := by
    have e := r2.length
    rw [F.len _ _ _ _ hq] at e
    rw [List.append_nil]
    exact e.symm
  have b := hb _ (Value.ref (s.heap.objs.size + 1) :: us) I2.kIn hl
  rw [List.append_nil] at b
  refine wpAny_call (make_map (f := f) I.kIn M.makes M.init (beq_iff_eq.mp M.fn) (codeAny_mono (F.run _ X.stack _ _ ⟨Value.ref (s.heap.objs.size + 1) :: us, []⟩ (Value.ref (s.heap.objs.size + 1) :: us) _ _ (E σ) (hr.make C us [])
    (I2.env0.make C us []) b r2 hq) fun r s' hq' => ?_))
  cases r with
  | error e => exact hx pins _ _ e s' I2 hq'
  | ok fl =>
    cases fl with
    | ret u =>
      obtain ⟨v, H', I3, rv, ev, q3⟩ := I2.after hq'
      subst ev
      exact ⟨rv, ⟨V.ref (s.heap.objs.size + 1), H', I3, rfl, q3⟩⟩
    | next => exact False.elim hq'
    | brk => exact False.elim hq'
    | cont => exact False.elim hq'
theorem pe_mks {W : WX} (c : MakX X.prog X.w X.K X.mg X.base k x C sp) (hr : Room j X.A) (hk : k + 1 ≤ j) (tk : Takes X W) (hg : Gl X x) (ha : PA X (e :: es) t)
    (hdb : (x == ("__debug__" : Str)) = false := by decide) (he : starEach (e :: es) X.env = (false, eval e X.env) :: starEach es X.env := by rfl) (hpl : (backTo pos (starEach es X.env)).any (·.1) = false := by rfl) :
    PE X (.Call (.Name x p) (e :: es) [] pos) (tMakeS C sp (WE W) t) := by
  obtain ⟨f, fd, ps, M, F, hm, b⟩ := c.ex
  refine ⟨fun pins s σ H Q I h => ?_⟩
  refine wpAny_Call_Name_kw (ld_glob I hg hm ?_ hdb)
  refine PySem.W.callWith_K (h₀ := X.base) I.ok.mod.kin M.kp (thn (ha.run pos pins s σ H _ I h) fun us s1 ⟨vs, H1, I1, r, q⟩ => ⟨I1.kIn, ?_⟩) he hpl
  exact run_makeS M F (hr.mono hk) b (passAt tk σ) I1 r q
def tMethS (C : Addr) (m : Str) (sp : Sp) (E : L2.St → XK) (ta : TE) (t : TA) : TE := fun σ H Q => ta σ H fun x H1 => ∃ a dx fs, x = .ref a ∧ H1 a = some (.ins C dx fs) ∧ fs.lookup m = none ∧
  t σ H1 fun vs H2 => sp (x :: vs) H2 Q (E σ)
theorem pe_mts {pl : Sem Bool} {W : WX} (c : MetX X.prog X.w X.K X.mg X.base k C m sp) (hr : Room j X.A) (hk : k ≤ j) (tk : Takes X W) (he : PE X o ta) (ha : PA X (e :: es) t)
    (hst : starEach (e :: es) X.env = (false, eval e X.env) :: starEach es X.env := by rfl) (hpl : (backTo pos (starEach es X.env)).any (·.1) = false := by rfl)
    (ht : eval (.Call (.Attribute o m apos) (e :: es) [] pos) X.env = (do
      let ov ← eval o X.env
      standAt apos.atName
      let (f, first) ← holding [ov] (getMethod ov m pl)
      callWith pos f first (backTo pos (starEach (e :: es) X.env)) (backToKw pos (keywordEach [] X.env))) := by rfl) :
    PE X (.Call (.Attribute o m apos) (e :: es) [] pos) (tMethS C m sp (WE W) ta t) := by
  obtain ⟨f, fd, ps, hc, hm, F, b⟩ := c.ex
  refine ⟨fun pins s σ H Q I h => ?_⟩
  refine PySem.W.methodCall_KW (pl := pl) (thn (he.run pins s σ H _ I h) fun u s1 ⟨x, H1, I1, rx, a, dx, fs, ex, ea, l, q⟩ => ?_) ht
  subst ex
  obtain rfl : u = Value.ref a := rx
  refine getmeth_ok I1 ea hc hm l ?_
  refine PySem.W.callWith_K (first := [.ref a]) (h₀ := X.base) I.ok.mod.kin hm.kp (thn (ha.run pos pins s1 σ H1 _ I1 q) fun us s2 ⟨vs, H2, I2, r, q2⟩ => ⟨I2.kIn, ?_⟩) hst hpl
  exact run_fnS (us := .ref a :: us) (vs := .ref a :: vs) F (hr.mono hk) b (passAt tk σ) I2 (.cons rfl r) q2
end
end Dw
namespace Dw
/-! marks that are settled: labels brought down along f -/
def rel (f : Nat → Nat) (g : Nat → Nat) (k : Nat) : Nat → Nat := fun x => if x = f k then min (g k) (g (f k)) else if x = k then min (g k) (g (f k)) else g x
def rnd (f : Nat → Nat) (g : Nat → Nat) : Nat → Nat → Nat
  | 0 => g
  | j + 1 => rel f (rnd f g j) j
def trn (f : Nat → Nat) (n : Nat) (g : Nat → Nat) : Nat → Nat → Nat
  | 0 => g
  | t + 1 => rnd f (trn f n g t) n
def cntv (g : Nat → Nat) (v : Nat) : Nat → Nat
  | 0 => 0
  | m + 1 => cntv g v m + if g m ≤ v then 1 else 0
theorem cntv_le (g : Nat → Nat) (v : Nat) : ∀ m, cntv g v m ≤ m
  | 0 => Nat.le_refl 0
  | m + 1 => by
    have := cntv_le g v m
    unfold cntv
    split <;> omega
theorem cntv_mono {g g' : Nat → Nat} {v : Nat} (h : ∀ x, g' x ≤ g x) : ∀ m, cntv g v m ≤ cntv g' v m
  | 0 => Nat.le_refl 0
  | m + 1 => by
    have h1 := cntv_mono (v := v) h m
    have h2 := h m
    unfold cntv
    split <;> split <;> omega
theorem cntv_strict {g g' : Nat → Nat} {v y : Nat} (h : ∀ x, g' x ≤ g x) (h1 : ¬ g y ≤ v) (h2 : g' y ≤ v) : ∀ m, y < m → cntv g v m + 1 ≤ cntv g' v m
  | 0, hm => absurd hm (Nat.not_lt_zero _)
  | m + 1, hm => by
    by_cases e : y = m
    · subst e
      have := cntv_mono (v := v) h y
      unfold cntv
      rw [if_neg h1, if_pos h2]
      omega
    · have h3 := cntv_strict h h1 h2 m (by omega)
      have h4 := h m
      unfold cntv
      split <;> split <;> omega
theorem rel_le (f g : Nat → Nat) (k x : Nat) : rel f g k x ≤ g x := by
  unfold rel
  split
  · rename_i e; rw [e]; exact Nat.min_le_right _ _
  · split
    · rename_i e; rw [e]; exact Nat.min_le_left _ _
    · exact Nat.le_refl _
theorem rnd_le (f g : Nat → Nat) : ∀ (j x : Nat), rnd f g j x ≤ g x
  | 0, _ => Nat.le_refl _
  | j + 1, x => Nat.le_trans (rel_le _ _ _ _) (rnd_le f g j x)
theorem rnd_anti (f g : Nat → Nat) (x j : Nat) : ∀ d, rnd f g (j + d) x ≤ rnd f g j x
  | 0 => Nat.le_refl _
  | d + 1 => Nat.le_trans (rel_le _ _ _ _) (rnd_anti f g x j d)
theorem rnd_low (f g : Nat → Nat) {n k : Nat} (hk : k < n) : rnd f g n k ≤ min (g k) (g (f k)) ∧ rnd f g n (f k) ≤ min (g k) (g (f k)) := by
  have e : n = (k + 1) + (n - (k + 1)) := by omega
  have h1 := rnd_le f g k k
  have h2 := rnd_le f g k (f k)
  have hm : min (rnd f g k k) (rnd f g k (f k)) ≤ min (g k) (g (f k)) := by omega
  have a : rnd f g (k + 1) k ≤ min (rnd f g k k) (rnd f g k (f k)) := by
    show rel f (rnd f g k) k k ≤ _
    unfold rel
    split
    · exact Nat.le_refl _
    · rw [if_pos rfl]; exact Nat.le_refl _
  have b : rnd f g (k + 1) (f k) ≤ min (rnd f g k k) (rnd f g k (f k)) := by
    show rel f (rnd f g k) k (f k) ≤ _
    unfold rel
    rw [if_pos rfl]
    exact Nat.le_refl _
  have c := rnd_anti f g k (k + 1) (n - (k + 1))
  have d := rnd_anti f g (f k) (k + 1) (n - (k + 1))
  rw [← e] at c d
  omega
def closedV (f : Nat → Nat) (n v : Nat) (g : Nat → Nat) : Prop := ∀ k, k < n → (g k ≤ v ↔ g (f k) ≤ v)
theorem rel_closed {f g : Nat → Nat} {n v k : Nat} (hk : k < n) (h : closedV f n v g) (x : Nat) : rel f g k x ≤ v ↔ g x ≤ v := by
  have h1 := h k hk
  unfold rel
  split
  · rename_i e; rw [e]; omega
  · split
    · rename_i e; rw [e]; omega
    · exact Iff.rfl
theorem rnd_closed {f g : Nat → Nat} {n v : Nat} (h : closedV f n v g) : ∀ j, j ≤ n → ∀ x, rnd f g j x ≤ v ↔ g x ≤ v
  | 0, _, _ => Iff.rfl
  | j + 1, hj, x => by
    have ih := rnd_closed h j (by omega)
    have hc : closedV f n v (rnd f g j) := fun k hk => by rw [ih k, ih (f k)]; exact h k hk
    show rel f (rnd f g j) j x ≤ v ↔ _
    rw [rel_closed (n := n) (by omega) hc x, ih x]
theorem trn_prog {f : Nat → Nat} {n v : Nat} (hn : 0 < n) (hf : ∀ x, x < n → f x < n) : ∀ t, closedV f n v (trn f n id t) ∨ t + 1 ≤ cntv (trn f n id t) v n
  | 0 => by
    right
    show 1 ≤ cntv id v n
    have : ∀ m, 0 < m → 1 ≤ cntv id v m := by
      intro m
      induction m with
      | zero => intro h; cases h
      | succ m ih =>
        intro _
        unfold cntv
        by_cases h0 : m = 0
        · subst h0; rw [if_pos (show id 0 ≤ v from Nat.zero_le _)]; omega
        · have := ih (by omega); omega
    exact this n hn
  | t + 1 => by
    by_cases hc : closedV f n v (trn f n id t)
    · left
      intro k hk
      show rnd f (trn f n id t) n k ≤ v ↔ rnd f (trn f n id t) n (f k) ≤ v
      rw [rnd_closed hc n (Nat.le_refl _) k, rnd_closed hc n (Nat.le_refl _) (f k)]
      exact hc k hk
    · rcases trn_prog (v := v) hn hf t with h | h
      · exact absurd h hc
      · right
        have : ∃ k, k < n ∧ ¬ (trn f n id t k ≤ v ↔ trn f n id t (f k) ≤ v) := Classical.byContradiction fun z => hc fun k hk => Classical.byContradiction fun y => z ⟨k, hk, y⟩
        obtain ⟨k, hk, hx⟩ := this
        have hl := rnd_low f (trn f n id t) hk
        have hle := rnd_le f (trn f n id t) n
        show t + 1 + 1 ≤ cntv (rnd f (trn f n id t) n) v n
        by_cases h1 : trn f n id t k ≤ v
        · have h2 : ¬ trn f n id t (f k) ≤ v := fun z => hx ⟨fun _ => z, fun _ => h1⟩
          have := cntv_strict (g' := rnd f (trn f n id t) n) hle h2 (by omega) n (hf k hk)
          omega
        · have h2 : trn f n id t (f k) ≤ v := Classical.byContradiction fun z => hx ⟨fun y => absurd y h1, fun y => absurd y z⟩
          have := cntv_strict (g' := rnd f (trn f n id t) n) hle h1 (by omega) n hk
          omega
theorem trn_settled {f : Nat → Nat} {n : Nat} (hf : ∀ x, x < n → f x < n) {k : Nat} (hk : k < n) : trn f n id n k = trn f n id n (f k) := by
  have hc : ∀ v, closedV f n v (trn f n id n) := fun v => by
    rcases trn_prog (v := v) (by omega) hf n with h | h
    · exact h
    · have := cntv_le (trn f n id n) v n
      omega
  have h1 := (hc (trn f n id n k) k hk).mp (Nat.le_refl _)
  have h2 := (hc (trn f n id n (f k)) k hk).mpr (Nat.le_refl _)
  omega
theorem trn_le (f : Nat → Nat) (n : Nat) : ∀ (t x : Nat), trn f n id t x ≤ x
  | 0, _ => Nat.le_refl _
  | t + 1, x => Nat.le_trans (rnd_le _ _ _ _) (trn_le f n t x)
theorem map_set (n k v : Nat) (g : Nat → Nat) : ((List.range n).map g).set k v = (List.range n).map fun x => if x = k then v else g x := by
  refine List.ext_getElem (by simp) fun i h1 h2 => ?_
  rw [List.getElem_set]
  simp only [List.getElem_map, List.getElem_range]
  by_cases e : k = i
  · rw [if_pos e, if_pos e.symm]
  · rw [if_neg e, if_neg fun z => e z.symm]
end Dw
namespace Dw
open PySem PySem.Spec PyProof.Rows L2 SX
/-- what is drawn from, later -/
def Cell (H : Hp) (p q : Addr) : Prop := ∃ a v x : Int, H p = some (.lst [.ref q, .int a, .int v, .int x]) ∧ 0 ≤ a ∧ 0 ≤ v
theorem Draw.cell {K : PySem.W.Frag} {H : Hp} {p q : Addr} {ns : List Int} (h : Draw K H p q ns) : Cell H p q := h.2
theorem Draw.re {K : PySem.W.Frag} {H H' : Hp} {p q : Addr} {ns : List Int} (d : Draw K H p q ns) (b : But p H H') (c : Cell H' p q) : Draw K H' p q ns := ⟨fun H2 b2 => d.1 H2 (b.trans b2), c⟩
theorem Cell.upd {H : Hp} {p q t : Addr} {o : HO} (h : Cell H p q) (n : t ≠ p) : Cell (upd H t o) p q := by
  obtain ⟨a, v, x, hp, h0, h1⟩ := h
  exact ⟨a, v, x, by rw [upd_ne n.symm]; exact hp, h0, h1⟩
/-- a new object is changed -/
theorem Draw.upd {K : PySem.W.Frag} {H H' : Hp} {p q t : Addr} {ns : List Int} {o : HO} (d : Draw K H p q ns) (b : But p H H') (d' : Draw K H' p q ns) (ht : H t = none) : Draw K (upd H' t o) p q ns := d.re (b.new ht) (d'.cell.upd (d.ne ht))
theorem Draw.free {K : PySem.W.Frag} {H H' : Hp} {p q t : Addr} {ns : List Int} (d : Draw K H p q ns) (b : But p H H') (d' : Draw K H' p q ns) (ht : H' t = none) : H t = none := b.none (d'.ne ht) ht
theorem rgV_zero (n : Nat) : rgV 0 (n : Int) = ((List.range n).map fun x => x).map nv := by
  unfold rgV
  rw [List.map_map, Int.sub_zero, Int.toNat_natCast]
  refine List.map_congr_left fun i _ => ?_
  show V.int (0 + (i : Int)) = V.int (i : Int)
  rw [Int.zero_add]
/-- a row is changed where it stands -/
theorem RowsAt.upd {H : Hp} {rs : List Addr} {T : List (List Int)} {k : Nat} {a : Addr} {r : List Int} (h : RowsAt H rs T) (nd : rs.Nodup) (e : rs[k]? = Option.some a) : RowsAt (L2.upd H a (.lst (r.map V.int))) rs (T.set k r) := by
  refine ⟨by rw [List.length_set, h.len], fun i b q h1 h2 => ?_⟩
  rw [List.getElem?_set] at h2
  by_cases hk : k = i
  · subst hk
    rw [e] at h1
    cases h1
    rw [if_pos rfl] at h2
    split at h2
    · cases h2
      exact upd_same
    · cases h2
  · rw [if_neg hk] at h2
    have hne : b ≠ a := fun z => by
      subst z
      have l1 := (List.getElem?_eq_some_iff.mp e)
      have l2 := (List.getElem?_eq_some_iff.mp h1)
      obtain ⟨i1, x1⟩ := l1
      obtain ⟨i2, x2⟩ := l2
      rcases Nat.lt_or_gt_of_ne hk with hl | hl
      · exact List.pairwise_iff_getElem.mp nd k i i1 i2 hl (by rw [x1, x2])
      · exact List.pairwise_iff_getElem.mp nd i k i2 i1 hl (by rw [x1, x2])
    rw [upd_ne hne]
    exact h.at_ i b q h1 h2
theorem nodup_snoc {α : Type} {l : List α} {a : α} (h : l.Nodup) (n : a ∉ l) : (l ++ [a]).Nodup := by
  rw [List.nodup_append]
  refine ⟨h, by simp, fun x hx y hy e => ?_⟩
  rw [List.mem_singleton] at hy
  exact n (hy ▸ e ▸ hx)
end Dw
namespace Dw
open PySem PySem.Spec PyProof.Rows L2 SX
/-! a tuple times an int, 1 as well -/
theorem tuple_mul1 (l : Addr) (items : Array Value) (n : Nat) (sl : Array (Option Value)) (dd : Option Addr) (u : Tok) :
    Meets (Builtin.«tuple.__mul__» ⟨[.ref l, .int 1 u], []⟩) (fun _ R s => s.heap.get? l = some { cls := .type "tuple", dict := dd, data := .seq items n, slots := sl } ∧ R (.ok (.ret (Value.ref l))) s) :=
  .of_wp fun prog w A R s h => by
    obtain ⟨hp, g, d, tk, os⟩ := s
    obtain ⟨hl, h⟩ := h
    have f1 := AutoSeq1.idx_int
    have c1 : (items.isEmpty || (1 : Int) == 1) = true := by simp
    have c0 : (decide ((1 : Int) < -(2 ^ 63)) || decide ((1 : Int) ≥ 2 ^ 63)) = false := by decide
    wp_walk using wpAny_loadPart' hl
    repeat (first
      | (refine wpAny_ite_false (decide_eq_false (by rw [c0]; exact Bool.false_ne_true)) ?_; wp_walk using wpAny_loadPart' hl)
      | (refine wpAny_ite_true (decide_eq_true c1) ?_; wp_walk using wpAny_loadPart' hl))
    exact ⟨_, rfl, h⟩
def rRepA (K : PySem.W.Frag) : R2 := fun x y H Q => ∃ l k xs, x = .ref l ∧ y = .int k ∧ SqT K H l xs ∧ xs ≠ [] ∧ 1 ≤ k ∧ k ≤ 1000 ∧ xs.length ≤ 1000 ∧ (k = 1 → Q (.ref l) H) ∧ (2 ≤ k → ∀ p, H p = none → Q (.ref p) (upd H p (.tup (List.replicate k.toNat xs).flatten)))
theorem op_repA0 {X : Cx} : OpR X (binaryOp .Mult) (rRepA X.K) := by
  intro pins s σ H x y v u Q I rx ry h
  obtain ⟨l, k, xs, ex, ey, hT, hne, h1, h2, hz, q1, q2⟩ := h
  by_cases hk : k = 1
  · subst hk
    subst ex
    subst ey
    cases rx
    obtain ⟨t, rfl⟩ := ry
    obtain ⟨its, r, ⟨⟨cls, dd, data, sl⟩, ho, hc, n, hd⟩, hs⟩ := I.tuple hT
    simp only at hc hd
    subst hc hd
    refine wpAny_binaryOp_repeat_ref (T := "tuple") (U := "int") (by decide) ⟨_, ho, rfl⟩ (fun s' => typeIs_int s' 1 t) noFill_tuple_mul F.fills_int_mul F.slot_int_rmul repeat_tuple F.slot_int_index.lookup
      (call_meets F.slot_int_rmul (typeIs_int s 1 t) F.entry_int_rmul (F.args_int_rmul_2 _ _) (int_rmul_tuple 1 t l its.toArray n dd sl)
        ⟨ho, rfl, ⟨_, ho, rfl⟩, call_meets F.slot_tuple_mul ⟨_, ho, rfl⟩ F.entry_tuple_mul (F.args_tuple_mul_2 _ _) (tuple_mul1 l its.toArray n sl dd t) ⟨ho, ?_⟩⟩)
    exact ⟨.ref l, H, I, rfl, q1 rfl⟩
  · exact op_repT pins s σ H x y v u Q I rx ry ⟨l, k, xs, ex, ey, hT, hne, by omega, h2, hz, q2 (by omega)⟩
theorem op_repA {X : Cx} (K : PySem.W.Frag) (h : X.K = K := by rfl) : OpR X (binaryOp .Mult) (rRepA K) := h ▸ op_repA0
/-! what is due of a machine's parts -/
def setM (T : List (List Int)) (acc : List Bool) : Bool := (List.range T.length).all fun i => decide (acc[i]? = acc[nxt T i 0]?)
def dueM (w : Int) (T : List (List Int)) (acc : List Bool) : Option (Bool × String) :=
  if ¬ (0 ≤ w ∧ w ≤ 6) then some (true, "width")
  else if 400 < T.length then some (false, "states")
  else if T = [] ∨ acc.length ≠ T.length ∨ goodT T (2 ^ w.toNat) = false then some (true, "table")
  else if setM T acc = false then some (true, "settled")
  else none
section
variable {w : Int} {T : List (List Int)} {acc : List Bool}
theorem dm1 (h : ¬ (0 ≤ w ∧ w ≤ 6)) : dueM w T acc = some (true, "width") := by
  unfold dueM
  rw [if_pos h]
theorem dm2 (h : 0 ≤ w ∧ w ≤ 6) (h2 : 400 < T.length) : dueM w T acc = some (false, "states") := by
  unfold dueM
  rw [if_neg (fun z => z h), if_pos h2]
theorem dm3 (h : 0 ≤ w ∧ w ≤ 6) (h2 : ¬ 400 < T.length) (h3 : T = [] ∨ acc.length ≠ T.length ∨ goodT T (2 ^ w.toNat) = false) : dueM w T acc = some (true, "table") := by
  unfold dueM
  rw [if_neg (fun z => z h), if_neg h2, if_pos h3]
theorem dm4 (h : 0 ≤ w ∧ w ≤ 6) (h2 : ¬ 400 < T.length) (h3 : ¬ (T = [] ∨ acc.length ≠ T.length ∨ goodT T (2 ^ w.toNat) = false)) (h4 : setM T acc = false) : dueM w T acc = some (true, "settled") := by
  unfold dueM
  rw [if_neg (fun z => z h), if_neg h2, if_neg h3, if_pos h4]
theorem dm5 (h : 0 ≤ w ∧ w ≤ 6) (h2 : ¬ 400 < T.length) (h3 : ¬ (T = [] ∨ acc.length ≠ T.length ∨ goodT T (2 ^ w.toNat) = false)) (h4 : setM T acc = true) : dueM w T acc = none := by
  unfold dueM
  rw [if_neg (fun z => z h), if_neg h2, if_neg h3, if_neg (by rw [h4]; decide)]
theorem setM_no {i : Nat} (hi : i < T.length) (h : acc[i]? ≠ acc[nxt T i 0]?) : setM T acc = false := by
  unfold setM
  rw [List.all_eq_false]
  exact ⟨i, List.mem_range.mpr hi, by simpa using h⟩
theorem setM_yes (h : ∀ i, i < T.length → acc[i]? = acc[nxt T i 0]?) : setM T acc = true := by
  unfold setM
  rw [List.all_eq_true]
  exact fun i hi => decide_eq_true (h i (List.mem_range.mp hi))
theorem setM_at (h : setM T acc = true) : ∀ i, i < T.length → acc[i]? = acc[nxt T i 0]? := fun i hi => by
  have := List.all_eq_true.mp h i (List.mem_range.mpr hi)
  exact of_decide_eq_true this
theorem MOk.due {n : Nat} (h : MOk n T acc) : dueM (n : Int) T acc = none := by
  have h6 := h.w6
  have h4 := h.le
  refine dm5 ⟨by omega, by omega⟩ (by omega) ?_ (setM_yes h.set)
  rw [Int.toNat_natCast]
  rintro (z | z | z)
  · have := h.pos
    rw [z] at this
    cases this
  · exact z h.al
  · rw [h.good] at z
    cases z
theorem MOk.of_due (h : dueM w T acc = none) : MOk w.toNat T acc ∧ 0 ≤ w ∧ w ≤ 6 := by
  unfold dueM at h
  split at h
  · cases h
  · rename_i h1
    split at h
    · cases h
    · rename_i h2
      split at h
      · cases h
      · rename_i h3
        split at h
        · cases h
        · rename_i h4
          have h1' : 0 ≤ w ∧ w ≤ 6 := Classical.not_not.mp h1
          simp only [not_or, ne_eq, Decidable.not_not] at h3
          refine ⟨⟨by omega, List.length_pos_iff.mpr h3.1, by omega, by simpa using h3.2.2, h3.2.1, setM_at (by simpa using h4)⟩, h1'⟩
end
/-- what a making ends in -/
def MRes (C CM CO m : Addr) (w : Int) (T : List (List Int)) (acc : List Bool) (H : Hp) (Q : VK) (E : XK) : Option (Bool × String) → Prop
  | none => ∀ H', But m H H' → MachNew C H H' m w.toNat T acc → Q .non H'
  | some (true, s) => Rz CM "why" (.str (Str.ofString s)) H E
  | some (false, s) => Rz CO "limit" (.str (Str.ofString s)) H E
/-! shapes -/
structure TupsAt (H : Hp) (ts : List Addr) (T : List (List Int)) : Prop where
  len : ts.length = T.length
  at_ : ∀ (i : Nat) (a : Addr) (r : List Int), ts[i]? = some a → T[i]? = some r → H a = some (.tup (r.map V.int))
theorem TupsAt.same {H H' : Hp} {ts : List Addr} {T : List (List Int)} (h : TupsAt H ts T) (s : Same H H') : TupsAt H' ts T := ⟨h.len, fun i a r h1 h2 => s _ _ (h.at_ i a r h1 h2)⟩
theorem TupsAt.snoc {H : Hp} {ts : List Addr} {T : List (List Int)} {a : Addr} {r : List Int} (h : TupsAt H ts T) (e : H a = some (.tup (r.map V.int))) : TupsAt H (ts ++ [a]) (T ++ [r]) := by
  refine ⟨by rw [List.length_append, List.length_append, h.len]; rfl, fun i b q h1 h2 => ?_⟩
  by_cases hi : i < ts.length
  · rw [List.getElem?_append_left hi] at h1
    rw [List.getElem?_append_left (by rw [← h.len]; exact hi)] at h2
    exact h.at_ i b q h1 h2
  · rw [List.getElem?_append_right (by omega)] at h1
    rw [List.getElem?_append_right (by rw [← h.len]; omega), ← h.len] at h2
    cases hk : i - ts.length with
    | zero =>
      rw [hk] at h1 h2
      cases h1
      cases h2
      exact e
    | succ k =>
      rw [hk] at h1
      cases h1
def ShapeAt (H : Hp) (s : Addr) (w : Nat) (T : List (List Int)) (acc : List Bool) : Prop := ∃ tt ta ts, H s = some (.tup [nv w, .ref tt, .ref ta]) ∧ H tt = some (.tup (ts.map V.ref)) ∧ TupsAt H ts T ∧ H ta = some (.tup (acc.map V.bl))
theorem ShapeAt.same {H H' : Hp} {s : Addr} {w : Nat} {T : List (List Int)} {acc : List Bool} (h : ShapeAt H s w T acc) (e : Same H H') : ShapeAt H' s w T acc := by
  obtain ⟨tt, ta, ts, h1, h2, h3, h4⟩ := h
  exact ⟨tt, ta, ts, e _ _ h1, e _ _ h2, h3.same e, e _ _ h4⟩
def trowD (r : List Int) : PyData := .tuple (r.map intD)
def shapeD (w : Nat) (T : List (List Int)) (acc : List Bool) : PyData := .tuple [.int (w : Int), .tuple (T.map trowD), .tuple (acc.map boolD)]
theorem tups_dp {K : PySem.W.Frag} {H : Hp} : ∀ {ts : List Addr} {T : List (List Int)}, TupsAt H ts T → DpAll K H (ts.map V.ref) (T.map trowD)
  | [], [], _ => .nil
  | a :: rs, r :: T, h => .cons (.tup (SqT.of (h.at_ 0 a r rfl rfl)) (ints_dp r)) (tups_dp (ts := rs) (T := T) ⟨Nat.succ.inj h.len, fun i a' r' h1 h2 => h.at_ (i + 1) a' r' h1 h2⟩)
  | [], _ :: _, h => nomatch h.len
  | _ :: _, [], h => nomatch h.len
theorem ShapeAt.dp {K : PySem.W.Frag} {H : Hp} {s : Addr} {w : Nat} {T : List (List Int)} {acc : List Bool} (h : ShapeAt H s w T acc) : Dp K H (.ref s) (shapeD w T acc) := by
  obtain ⟨tt, ta, ts, h1, h2, h3, h4⟩ := h
  exact .tup (SqT.of h1) (.cons (.int _) (.cons (.tup (SqT.of h2) (tups_dp h3)) (.cons (.tup (SqT.of h4) (bools_dp acc)) .nil)))
theorem trows_lay : ∀ T : List (List Int), PyData.canLayAll0 (T.map trowD) = true
  | [] => by simp [PyData.canLayAll0]
  | n :: r => by simp [PyData.canLayAll0, trowD, PyData.canLay0, ints_lay n, trows_lay r]
theorem trows_depth : ∀ T : List (List Int), PyData.depthAll (T.map trowD) ≤ 1
  | [] => by simp [PyData.depthAll]
  | n :: r => by
    have := trows_depth r
    simp [PyData.depthAll, trowD, PyData.depth, ints_depth n]
    omega
theorem shape_shaped (w : Nat) (T : List (List Int)) (acc : List Bool) : SeqAt.shaped (shapeD w T acc) = true := by
  have := trows_depth T
  simp [shapeD, SeqAt.shaped, PyData.canLay0, PyData.canLayAll0, PyData.depth, PyData.depthAll, trows_lay, bools_lay, bools_depth]
  omega
/-! a property -/
structure Prp (P : Program) (w : World) (K : PySem.W.Frag) (mg : Str → Option Value) (base : Heap) (k : Nat) (C : Addr) (m : Str) (sp : Sp) : Prop where
  ex : ∃ (p g : Addr) (fd : FuncData) (ps : List Str), Cls K C ∧ PropOf K C m p g ∧ FnOk P w K mg base C8.CX0 k g fd ps sp ∧ Binds K fd ps []
theorem prp0 {P : Program} {w : World} {K : PySem.W.Frag} {mg : Str → Option Value} {base : Heap} {m qual : Str} {C p : Addr} {st : Stmt} {f : Addr} {fd : FuncData} {N ps : List Str} {k : Nat} {sp : Sp} (c : Cls K C) (me : PropOf K C m p f) (F : C8.Fun K m qual st f fd) (b : Binds K fd ps []) (S : FnScope N ps (C8.fnScope st)) (len : ∀ vs H Q E, sp vs H Q E → vs.length = ps.length)
    (hbody : ∀ (cdv : Value) (A : Around) (outer : List Env) (s : Shared) (H : Hp) (vs : List V) (Q : VK) (E : XK), Room k (A.deeper (envOfC qual (C8.fnScope st) s.heap.objs.size f cdv)) → sp vs H Q E →
      ∃ t, PSs (cxOf C8.CX0 P w K mg base N qual (C8.fnScope st) f cdv A outer s H E).nox (C8.fnBody st) t ∧ t { nx := fun _ H' => Q .non H', rt := Q } (start N vs) H) : Prp P w K mg base (k + 1) C m sp :=
  ⟨p, f, fd, ps, c, me, C8.fn0 F S len hbody, b⟩
theorem pe_pr {X : Cx} {k j : Nat} {C : Addr} {m : Str} {sp : Sp} {e : Expr} {ta : TE} {pos : Pos} (c : Prp X.prog X.w X.K X.mg X.base k C m sp) (hr : Room j X.A) (hk : k + 1 ≤ j) (he : PE X e ta) (hab : attributeBase e m X.env (eval e X.env) = eval e X.env) : PE X (.Attribute e m pos) (tProp C sp [] C8.E0 ta) := by
  obtain ⟨p, g, fd, ps, hc, hp, F, b⟩ := c.ex
  exact pe_prop he hc hp F (hr.mono hk) b .nil C8.pass0 hab
/-! numbers that are halved, digits of a word -/
theorem halves_sum : ∀ (ns : List Nat) (k : Nat), (ns.map fun n => ((n / 2 ^ k : Nat) : Int)).sum = 0 ↔ bls ns ≤ k
  | [], k => by simp [bls]
  | n :: r, k => by
    have ih := halves_sum r k
    rw [List.map_cons, List.sum_cons]
    have nn : 0 ≤ (r.map fun n => ((n / 2 ^ k : Nat) : Int)).sum := by
      clear ih
      induction r with
      | nil => simp
      | cons m r ih =>
        rw [List.map_cons, List.sum_cons]
        have := Int.natCast_nonneg (m / 2 ^ k)
        exact Int.add_nonneg this ih
    show _ ↔ max (blen n) (bls r) ≤ k
    rw [Nat.max_le, ← ih]
    have hb : n / 2 ^ k = 0 ↔ blen n ≤ k := by
      constructor
      · intro h
        have h1 := Nat.div_eq_zero_iff.mp h
        rcases h1 with h1 | h1
        · have := Nat.two_pow_pos k
          omega
        · exact blen_le h1
      · intro h
        exact Nat.div_eq_of_lt (Nat.lt_of_lt_of_le (lt_blen n) (Nat.pow_le_pow_right (by decide) h))
    rw [← hb]
    obtain ⟨d, hd⟩ : ∃ d, d = n / 2 ^ k := ⟨_, rfl⟩
    rw [← hd]
    omega
def hvN (ns : List Nat) (k : Nat) : List Nat := ns.map fun n => n / 2 ^ k
theorem bitAt_hv (ns : List Nat) (k : Nat) : bitAt ns k = (hvN ns k).map (· % 2) := by
  unfold bitAt hvN
  rw [List.map_map]
  rfl
theorem hv_succ (ns : List Nat) (k : Nat) : (hvN ns k).map (· / 2) = hvN ns (k + 1) := by
  unfold hvN
  rw [List.map_map]
  refine List.map_congr_left fun n _ => ?_
  show n / 2 ^ k / 2 = n / 2 ^ (k + 1)
  rw [Nat.pow_succ, Nat.div_div_eq_div_mul]
theorem hvN_len (ns : List Nat) (k : Nat) : (hvN ns k).length = ns.length := by simp [hvN]
theorem wd_take (ns : List Nat) : wd ns = (List.range (bls ns)).map fun k => lo (bitAt ns k) := rfl
/-! zeros behind a word -/
theorem MOk.run {w : Nat} {T : List (List Int)} {acc : List Bool} (h : MOk w T acc) {ls : List Nat} (hl : ∀ l ∈ ls, l < 2 ^ w) : runT T 0 ls < T.length := runT_lt h.good ls 0 hl h.pos
theorem MOk.zeros {w : Nat} {T : List (List Int)} {acc : List Bool} (h : MOk w T acc) : ∀ (z s : Nat), s < T.length → acc[runT T s (List.replicate z 0)]? = acc[s]?
  | 0, _, _ => rfl
  | z + 1, s, hs => by
    obtain ⟨_, _, _, h2⟩ := goodT_at h.good hs (a := 0) (Nat.two_pow_pos w)
    show acc[runT T (nxt T s 0) (List.replicate z 0)]? = _
    rw [h.zeros z _ h2, ← h.set s hs]
theorem runT_appM (T : List (List Int)) (s : Nat) (a b : List Nat) : runT T s (a ++ b) = runT T (runT T s a) b := by
  unfold runT
  rw [List.foldl_append]
/-- the machine that takes all or none -/
theorem aon_ok {w : Nat} (hw : w ≤ 6) (v : Bool) : MOk w [List.replicate (2 ^ w) 0] [v] := by
  have hg : goodT [List.replicate (2 ^ w) (0 : Int)] (2 ^ w) = true := by
    unfold goodT goodRow
    simp
  refine ⟨hw, Nat.zero_lt_one, by simp, hg, rfl, fun i hi => ?_⟩
  have : i = 0 := by simpa using hi
  subst this
  obtain ⟨_, _, _, h⟩ := goodT_at hg (s := 0) (a := 0) Nat.zero_lt_one (Nat.two_pow_pos w)
  have : nxt [List.replicate (2 ^ w) (0 : Int)] 0 0 = 0 := by
    have h' : nxt [List.replicate (2 ^ w) (0 : Int)] 0 0 < 1 := h
    omega
  rw [this]
section
variable {X : Cx} (K : PySem.W.Frag)
theorem maxK (hc : X.calm = true := by rfl) (h : X.K = K := by rfl) : CallR X (.builtin "max") (rMax K) := h ▸ cr_max hc
end
theorem RowsAt.app {H : Hp} {a b : List Addr} {A B : List (List Int)} (h : RowsAt H a A) (g : RowsAt H b B) : RowsAt H (a ++ b) (A ++ B) := by
  refine ⟨by rw [List.length_append, List.length_append, h.len, g.len], fun i x r h1 h2 => ?_⟩
  by_cases hi : i < a.length
  · rw [List.getElem?_append_left hi] at h1
    rw [List.getElem?_append_left (by rw [← h.len]; exact hi)] at h2
    exact h.at_ i x r h1 h2
  · rw [List.getElem?_append_right (by omega)] at h1
    rw [List.getElem?_append_right (by rw [← h.len]; omega), ← h.len] at h2
    exact g.at_ _ x r h1 h2
theorem RowsAt.tk {H : Hp} {a : List Addr} {A : List (List Int)} (h : RowsAt H a A) (k : Nat) : RowsAt H (a.take k) (A.take k) := by
  refine ⟨by rw [List.length_take, List.length_take, h.len], fun i x r h1 h2 => ?_⟩
  rw [List.getElem?_take] at h1 h2
  split at h1
  · rename_i hi
    rw [if_pos hi] at h2
    exact h.at_ i x r h1 h2
  · cases h1
theorem RowsAt.dp {H : Hp} {a : List Addr} {A : List (List Int)} (h : RowsAt H a A) (k : Nat) : RowsAt H (a.drop k) (A.drop k) := by
  refine ⟨by rw [List.length_drop, List.length_drop, h.len], fun i x r h1 h2 => ?_⟩
  rw [List.getElem?_drop] at h1 h2
  exact h.at_ _ x r h1 h2
theorem RowsAt.one {H : Hp} {a : Addr} {r : List Int} (h : H a = Option.some (.lst (r.map V.int))) : RowsAt H [a] [r] := ⟨rfl, fun i x r' h1 h2 => match i, h1, h2 with
  | 0, h1, h2 => by cases h1; cases h2; exact h⟩
theorem RowsAt.rep {H : Hp} {a : Addr} {r : List Int} (h : H a = Option.some (.lst (r.map V.int))) (n : Nat) : RowsAt H (List.replicate n a) (List.replicate n r) := by
  refine ⟨by rw [List.length_replicate, List.length_replicate], fun i x r' h1 h2 => ?_⟩
  rw [List.getElem?_replicate] at h1 h2
  split at h1
  · rename_i hi
    rw [if_pos hi] at h2
    cases h1
    cases h2
    exact h
  · cases h1
/-- the row of a table, as a test of what is due -/
theorem goodT_no {T : List (List Int)} {l : Nat} {r : List Int} (h : r ∈ T) (hn : goodRow T.length l r = false) : goodT T l = false := by
  unfold goodT
  rw [List.all_eq_false]
  exact ⟨r, h, by rw [hn]; decide⟩
theorem goodRow_mm {n l : Nat} {r : List Int} (hl : r.length = l) (mn mx : Int) (h1 : mn ∈ r) (h2 : ∀ y ∈ r, mn ≤ y) (h3 : mx ∈ r) (h4 : ∀ y ∈ r, y ≤ mx) : goodRow n l r = (decide (0 ≤ mn) && decide (mx < (n : Int))) := by
  unfold goodRow
  rw [decide_eq_true hl, Bool.true_and, Bool.eq_iff_iff, List.all_eq_true, Bool.and_eq_true, decide_eq_true_eq, decide_eq_true_eq]
  constructor
  · intro h
    have a := h mn h1
    have b := h mx h3
    rw [Bool.and_eq_true, decide_eq_true_eq, decide_eq_true_eq] at a b
    exact ⟨a.1, b.2⟩
  · intro h x hx
    have a := h2 x hx
    have b := h4 x hx
    rw [Bool.and_eq_true, decide_eq_true_eq, decide_eq_true_eq]
    omega
/-- rows as tuples -/
theorem lc_tups {K : PySem.W.Frag} {t : Addr} {rs : List Addr} {T : List (List Int)} {g : TG} {te : TE} {vs : List Nat} {σ : L2.St} {H1 : Hp} {D : Addr} {Qd : Hp → Prop} (h1 : H1 t = some (.lst (rs.map V.ref))) (hr : RowsAt H1 rs T) (hn : T.length ≤ 500) (hD : H1 D = none)
    (step : ∀ a (r : List Int) H (N : VK), H a = some (.lst (r.map V.int)) → (∀ L, H L = none → N (.ref L) (upd H L (.tup (r.map V.int)))) → g (.ref a) (wipe σ vs) H fun σ2 H2 => wipe σ2 vs = wipe σ vs ∧ te σ2 H2 N)
    (hd : ∀ H' qs, Same H1 H' → H' D = some (.lst (qs.map V.ref)) → TupsAt H' qs T → Qd H') : LcJ (Itl K t) g tYes te vs D σ H1 Qd := by
  refine lc_listN (xs := rs.map V.ref) (fun i H4 => ∃ qs : List Addr, H4 D = some (.lst (qs.map V.ref)) ∧ TupsAt H4 qs (T.take i) ∧ Same H1 H4) ?_ ?_ ?_ ?_
  · exact ⟨[], upd_same, ⟨rfl, fun i a r h _ => nomatch h⟩, same_upd hD⟩
  · rintro i H4 _ ⟨qs, _, _, s4⟩
    exact SqL.of (s4 _ _ h1)
  · rintro i x H4 N2 hx ⟨qs, e4, q4, s4⟩ hN2
    rw [List.getElem?_map] at hx
    obtain ⟨ra, hra, rfl⟩ := Option.map_eq_some_iff.mp hx
    have hi : i < T.length := by rw [← hr.len]; exact (List.getElem?_eq_some_iff.mp hra).1
    have hTi : T[i]? = some T[i] := List.getElem?_eq_getElem hi
    have hrow := s4 _ _ (hr.at_ i ra T[i] hra hTi)
    have hql : qs.length ≤ 500 := by
      have := q4.len
      rw [List.length_take] at this
      omega
    refine step ra T[i] H4 (fun y H5 => ∃ acc, H5 D = some (.lst acc) ∧ acc.length < sizeLine ∧ N2 (upd H5 D (.lst (acc ++ [y])))) hrow fun L hL => ⟨_, (same_upd hL) _ _ e4, smallt (by rw [List.length_map]; omega), hN2 _ ⟨qs ++ [L], ?_, ?_, Dw.Same.new (s4.trans (same_upd hL)) hD⟩⟩
    · rw [upd_same, List.map_append]
      rfl
    · rw [List.take_add_one, hTi]
      have q5 := TupsAt.snoc (q4.same (same_upd hL)) (r := T[i]) upd_same
      refine ⟨q5.len, fun j a' r' e1 e2 => ?_⟩
      have h5 := q5.at_ j a' r' e1 e2
      rw [upd_ne]
      · exact h5
      · intro z
        subst z
        rw [(same_upd hL) _ _ e4] at h5
        cases h5
  · rintro H4 ⟨qs, e4, q4, s4⟩
    rw [List.length_map, hr.len, List.take_length] at q4
    exact hd H4 qs s4 e4 q4
/-- a machine and the parts that it was made of -/
structure Bg (K : PySem.W.Frag) (C p q : Addr) (ns : List Int) (t a : Addr) (rs : List Addr) (w : Nat) (T : List (List Int)) (acc : List Bool) (L : List Addr) (m : Addr) (H : Hp) : Prop where
  draw : Draw K H p q ns
  ht : H t = some (.lst (rs.map V.ref))
  rows : RowsAt H rs T
  ha : H a = some (.lst (acc.map V.bl))
  mach : MachP C H L m w T acc
  nt : t ≠ p
  na : a ≠ p
  nr : ∀ y ∈ rs, y ≠ p
  nL : p ∉ L
section
variable {K : PySem.W.Frag} {C p q : Addr} {ns : List Int} {t a : Addr} {rs : List Addr} {w : Nat} {T : List (List Int)} {acc : List Bool} {L : List Addr} {m : Addr} {H H' : Hp}
theorem Bg.same (h : Bg K C p q ns t a rs w T acc L m H) (s : Same H H') : Bg K C p q ns t a rs w T acc L m H' := ⟨h.draw.same s, s _ _ h.ht, h.rows.same s, s _ _ h.ha, h.mach.same s, h.nt, h.na, h.nr, h.nL⟩
theorem Bg.but (h : Bg K C p q ns t a rs w T acc L m H) (b : But p H H') (d : Draw K H' p q ns) : Bg K C p q ns t a rs w T acc L m H' := ⟨d, b _ _ h.nt h.ht, h.rows.but b h.nr, b _ _ h.na h.ha, h.mach.but b h.nL, h.nt, h.na, h.nr, h.nL⟩
end
end Dw
namespace Dw
/-! ranks: how many free letters lead to an accepting state -/
section
variable (acc : Nat → Bool) (f g : Nat → Nat)
def canK : Nat → Nat → Bool
  | 0, s => acc s
  | k + 1, s => canK k (f s) || canK k (g s)
def IsRank (s : Nat) : Option Nat → Prop
  | some k => canK acc f g k s = true ∧ ∀ j, j < k → canK acc f g j s = false
  | none => ∀ k, canK acc f g k s = false
def rkUp (r s : Nat) : Option Nat := (List.range (r + 1)).find? fun k => canK acc f g k s
end
section
variable {acc : Nat → Bool} {f g : Nat → Nat}
theorem IsRank.uniq {s : Nat} {a b : Option Nat} (h1 : IsRank acc f g s a) (h2 : IsRank acc f g s b) : a = b := by
  match a, b, h1, h2 with
  | none, none, _, _ => rfl
  | none, some k, h1, h2 => have := h2.1; rw [h1 k] at this; cases this
  | some k, none, h1, h2 => have := h1.1; rw [h2 k] at this; cases this
  | some k, some l, h1, h2 =>
    rcases Nat.lt_trichotomy k l with h | h | h
    · have := h1.1; rw [h2.2 k h] at this; cases this
    · rw [h]
    · have := h2.1; rw [h1.2 l h] at this; cases this
theorem rkUp_none {r s : Nat} : rkUp acc f g r s = none ↔ ∀ j, j ≤ r → canK acc f g j s = false := by
  unfold rkUp
  rw [List.find?_eq_none]
  constructor
  · intro h j hj
    have := h j (List.mem_range.mpr (by omega))
    simpa using this
  · intro h j hj
    rw [h j (by have := List.mem_range.mp hj; omega)]
    decide
theorem rkUp_some {r s d : Nat} : rkUp acc f g r s = some d ↔ d ≤ r ∧ canK acc f g d s = true ∧ ∀ j, j < d → canK acc f g j s = false := by
  unfold rkUp
  rw [List.find?_range_eq_some]
  constructor
  · rintro ⟨h1, h2, h3⟩
    refine ⟨by have := List.mem_range.mp h2; omega, h1, fun j hj => ?_⟩
    have := h3 j hj
    simpa using this
  · rintro ⟨h1, h2, h3⟩
    exact ⟨h2, List.mem_range.mpr (by omega), fun j hj => by rw [h3 j hj]; rfl⟩
theorem rkUp_zero (s : Nat) : rkUp acc f g 0 s = if acc s = true then some 0 else none := by
  split
  · rename_i h
    exact rkUp_some.mpr ⟨Nat.le_refl _, h, fun j hj => absurd hj (Nat.not_lt_zero _)⟩
  · rename_i h
    refine rkUp_none.mpr fun j hj => ?_
    have : j = 0 := by omega
    subst this
    show acc s = false
    simpa using h
/-- rank r is not given to a state later -/
theorem rkUp_same {r s : Nat} : rkUp acc f g (r + 1) s = some r ↔ rkUp acc f g r s = some r := by
  rw [rkUp_some, rkUp_some]
  constructor
  · rintro ⟨_, h⟩; exact ⟨Nat.le_refl _, h⟩
  · rintro ⟨_, h⟩; exact ⟨Nat.le_succ _, h⟩
theorem rkUp_keep {r s d : Nat} (h : rkUp acc f g r s = some d) : rkUp acc f g (r + 1) s = some d := by
  rw [rkUp_some] at h ⊢
  exact ⟨by omega, h.2⟩
theorem rkUp_new {r s : Nat} (h : rkUp acc f g r s = none) : rkUp acc f g (r + 1) s = if rkUp acc f g r (f s) = some r ∨ rkUp acc f g r (g s) = some r then some (r + 1) else none := by
  have h0 := rkUp_none.mp h
  have low : ∀ j, j < r → canK acc f g j (f s) = false ∧ canK acc f g j (g s) = false := fun j hj => by
    have := h0 (j + 1) (by omega)
    exact Bool.or_eq_false_iff.mp this
  split
  · rename_i hc
    refine rkUp_some.mpr ⟨Nat.le_refl _, ?_, fun j hj => h0 j (by omega)⟩
    show (canK acc f g r (f s) || canK acc f g r (g s)) = true
    rcases hc with hc | hc
    · rw [(rkUp_some.mp hc).2.1, Bool.true_or]
    · rw [(rkUp_some.mp hc).2.1, Bool.or_true]
  · rename_i hc
    refine rkUp_none.mpr fun j hj => ?_
    by_cases hj' : j ≤ r
    · exact h0 j hj'
    · have : j = r + 1 := by omega
      subst this
      show (canK acc f g r (f s) || canK acc f g r (g s)) = false
      rw [Bool.or_eq_false_iff]
      constructor
      · refine Bool.eq_false_iff.mpr fun z => hc (.inl ?_)
        exact rkUp_some.mpr ⟨Nat.le_refl _, z, fun j hj => (low j hj).1⟩
      · refine Bool.eq_false_iff.mpr fun z => hc (.inr ?_)
        exact rkUp_some.mpr ⟨Nat.le_refl _, z, fun j hj => (low j hj).2⟩
/-- when no state has the rank r, all ranks are found -/
theorem rkUp_done {n r : Nat} (hf : ∀ x, x < n → f x < n) (hg : ∀ x, x < n → g x < n) (h : ∀ s, s < n → rkUp acc f g r s ≠ some r) {s : Nat} (hs : s < n) : IsRank acc f g s (rkUp acc f g r s) := by
  have base : ∀ s, s < n → canK acc f g r s = true → ∃ j, j < r ∧ canK acc f g j s = true := fun s hs hc => by
    refine Classical.byContradiction fun z => h s hs (rkUp_some.mpr ⟨Nat.le_refl _, hc, fun j hj => Bool.eq_false_iff.mpr fun y => z ⟨j, hj, y⟩⟩)
  have all : ∀ d s, s < n → canK acc f g (r + d) s = true → ∃ j, j < r ∧ canK acc f g j s = true := by
    intro d
    induction d with
    | zero => exact base
    | succ d ih =>
      intro s hs hc
      have hc' : (canK acc f g (r + d) (f s) || canK acc f g (r + d) (g s)) = true := hc
      rw [Bool.or_eq_true] at hc'
      have up : ∀ j, j < r → (canK acc f g j (f s) = true ∨ canK acc f g j (g s) = true) → ∃ j, j < r ∧ canK acc f g j s = true := fun j hj hh => by
        have h1 : canK acc f g (j + 1) s = true := by
          show (canK acc f g j (f s) || canK acc f g j (g s)) = true
          rw [Bool.or_eq_true]
          exact hh
        by_cases hjr : j + 1 < r
        · exact ⟨j + 1, hjr, h1⟩
        · have : j + 1 = r := by omega
          rw [this] at h1
          exact base s hs h1
      rcases hc' with hc' | hc'
      · obtain ⟨j, hj, h2⟩ := ih _ (hf s hs) hc'
        exact up j hj (.inl h2)
      · obtain ⟨j, hj, h2⟩ := ih _ (hg s hs) hc'
        exact up j hj (.inr h2)
  cases e : rkUp acc f g r s with
  | some d => exact (rkUp_some.mp e).2
  | none =>
    have h0 := rkUp_none.mp e
    intro k
    by_cases hk : k ≤ r
    · exact h0 k hk
    · refine Bool.eq_false_iff.mpr fun z => ?_
      have ek : k = r + (k - r) := by omega
      rw [ek] at z
      obtain ⟨j, hj, h2⟩ := all _ s hs z
      rw [h0 j (by omega)] at h2
      cases h2
theorem rank_lt {n : Nat} (hf : ∀ x, x < n → f x < n) (hg : ∀ x, x < n → g x < n) {r s : Nat} (hs : s < n) (h : IsRank acc f g s (some r)) : r < n := by
  have down : ∀ d s, s < n → IsRank acc f g s (some d) → ∀ i, i ≤ d → ∃ x, x < n ∧ IsRank acc f g x (some i) := by
    intro d
    induction d with
    | zero =>
      intro s hs h i hi
      have : i = 0 := by omega
      subst this
      exact ⟨s, hs, h⟩
    | succ d ih =>
      intro s hs h i hi
      by_cases e : i = d + 1
      · subst e; exact ⟨s, hs, h⟩
      · have h1 : (canK acc f g d (f s) || canK acc f g d (g s)) = true := h.1
        have h2 : ∀ j, j < d → canK acc f g j (f s) = false ∧ canK acc f g j (g s) = false := fun j hj => Bool.or_eq_false_iff.mp (h.2 (j + 1) (by omega))
        rw [Bool.or_eq_true] at h1
        rcases h1 with h1 | h1
        · exact ih (f s) (hf s hs) ⟨h1, fun j hj => (h2 j hj).1⟩ i (by omega)
        · exact ih (g s) (hg s hs) ⟨h1, fun j hj => (h2 j hj).2⟩ i (by omega)
  refine Nat.lt_of_not_le fun hr => ?_
  have pick : ∀ i, ∃ x, i ≤ n → x < n ∧ IsRank acc f g x (some i) := fun i => by
    by_cases hi : i ≤ n
    · obtain ⟨x, h1, h2⟩ := down r s hs h i (by omega)
      exact ⟨x, fun _ => ⟨h1, h2⟩⟩
    · exact ⟨0, fun z => absurd z hi⟩
  obtain ⟨F, hF⟩ : ∃ F : Nat → Nat, ∀ i, i ≤ n → F i < n ∧ IsRank acc f g (F i) (some i) := ⟨fun i => Classical.choose (pick i), fun i => Classical.choose_spec (pick i)⟩
  obtain ⟨i, j, hij, hj, e⟩ := pigeon n F fun i hi => (hF i hi).1
  have h1 := (hF i (by omega)).2
  have h2 := (hF j hj).2
  rw [e] at h1
  have := Option.some.inj (h1.uniq h2)
  omega
/-! a search from the start -/
def rch (f g : Nat → Nat) (s : Nat) : Nat → Nat → Prop
  | 0, x => x = s
  | k + 1, y => ∃ x, rch f g s k x ∧ (y = f x ∨ y = g x)
theorem rch_cons : ∀ (k s y : Nat), rch f g s (k + 1) y ↔ rch f g (f s) k y ∨ rch f g (g s) k y
  | 0, s, y => by
    constructor
    · rintro ⟨x, rfl, h⟩; exact h
    · intro h; exact ⟨s, rfl, h⟩
  | k + 1, s, y => by
    constructor
    · rintro ⟨x, h, hy⟩
      rcases (rch_cons k s x).mp h with h | h
      · exact .inl ⟨x, h, hy⟩
      · exact .inr ⟨x, h, hy⟩
    · rintro (⟨x, h, hy⟩ | ⟨x, h, hy⟩)
      · exact ⟨x, (rch_cons k s x).mpr (.inl h), hy⟩
      · exact ⟨x, (rch_cons k s x).mpr (.inr h), hy⟩
theorem canK_rch : ∀ (k s : Nat), canK acc f g k s = true ↔ ∃ x, rch f g s k x ∧ acc x = true
  | 0, s => by
    constructor
    · intro h; exact ⟨s, rfl, h⟩
    · rintro ⟨x, rfl, h⟩; exact h
  | k + 1, s => by
    show (canK acc f g k (f s) || canK acc f g k (g s)) = true ↔ _
    rw [Bool.or_eq_true, canK_rch k (f s), canK_rch k (g s)]
    constructor
    · rintro (⟨x, h, ha⟩ | ⟨x, h, ha⟩)
      · exact ⟨x, (rch_cons k s x).mpr (.inl h), ha⟩
      · exact ⟨x, (rch_cons k s x).mpr (.inr h), ha⟩
    · rintro ⟨x, h, ha⟩
      rcases (rch_cons k s x).mp h with h | h
      · exact .inl ⟨x, h, ha⟩
      · exact .inr ⟨x, h, ha⟩
theorem nodup_len {n : Nat} : ∀ {l : List Nat}, l.Nodup → (∀ x ∈ l, x < n) → l.length ≤ n := fun {l} h1 h2 => by
  refine Nat.le_of_not_lt fun hlt => ?_
  obtain ⟨i, j, hij, hj, e⟩ := pigeon n (fun i => l.getD i 0) fun i hi => by
    show l.getD i 0 < n
    rw [List.getD_eq_getElem?_getD, List.getElem?_eq_getElem (by omega)]
    exact h2 _ (List.getElem_mem _)
  have := List.pairwise_iff_getElem.mp h1 i j (by omega) (by omega) hij
  refine this ?_
  have e' : l.getD i 0 = l.getD j 0 := e
  rw [List.getD_eq_getElem?_getD, List.getD_eq_getElem?_getD, List.getElem?_eq_getElem (by omega), List.getElem?_eq_getElem (by omega)] at e'
  exact e'
structure BF (acc : Nat → Bool) (f g : Nat → Nat) (n s : Nat) (k : Nat) (old layer : List Nat) : Prop where
  lt : ∀ x ∈ old ++ layer, x < n
  nd : (old ++ layer).Nodup
  b : ∀ x ∈ layer, rch f g s k x
  c : ∀ j x, j < k → rch f g s j x → x ∈ old
  d : ∀ x ∈ old, f x ∈ old ++ layer ∧ g x ∈ old ++ layer
  e : ∀ x ∈ old, acc x = false
  r : ∀ x, rch f g s k x → x ∈ old ++ layer
  l : layer = [] ∨ k + 1 ≤ (old ++ layer).length
theorem BF.start {n s : Nat} (hs : s < n) : BF acc f g n s 0 [] [s] :=
  ⟨fun x hx => by rw [List.nil_append, List.mem_singleton] at hx; omega, by simp, fun x hx => List.mem_singleton.mp hx, fun j x hj => absurd hj (Nat.not_lt_zero _), (fun _ h => nomatch h), (fun _ h => nomatch h), fun x hx => List.mem_singleton.mpr hx, .inr (by simp)⟩
theorem BF.found {n s k : Nat} {old layer : List Nat} (h : BF acc f g n s k old layer) (hx : ∃ x ∈ layer, acc x = true) : IsRank acc f g s (some k) := by
  obtain ⟨x, h1, h2⟩ := hx
  refine ⟨(canK_rch k s).mpr ⟨x, h.b x h1, h2⟩, fun j hj => Bool.eq_false_iff.mpr fun z => ?_⟩
  obtain ⟨y, h3, h4⟩ := (canK_rch j s).mp z
  rw [h.e y (h.c j y hj h3)] at h4
  cases h4
theorem BF.next {n s k : Nat} {old layer more : List Nat} (h : BF acc f g n s k old layer) (hno : ∀ x ∈ layer, acc x = false) (nd : (old ++ layer ++ more).Nodup) (lt : ∀ x ∈ more, x < n)
    (from_ : ∀ y ∈ more, ∃ x ∈ layer, y = f x ∨ y = g x) (all : ∀ x ∈ layer, f x ∈ old ++ layer ++ more ∧ g x ∈ old ++ layer ++ more) : BF acc f g n s (k + 1) (old ++ layer) more := by
  have sub : ∀ x, x ∈ old ++ layer → x ∈ old ++ layer ++ more := fun x hx => List.mem_append_left _ hx
  have d' : ∀ x ∈ old ++ layer, f x ∈ old ++ layer ++ more ∧ g x ∈ old ++ layer ++ more := fun x hx => by
    rcases List.mem_append.mp hx with hx | hx
    · exact ⟨sub _ (h.d x hx).1, sub _ (h.d x hx).2⟩
    · exact all x hx
  refine ⟨fun x hx => ?_, nd, fun y hy => ?_, fun j x hj hr => ?_, d', fun x hx => ?_, ?_, ?_⟩
  · rcases List.mem_append.mp hx with hx | hx
    · exact h.lt x hx
    · exact lt x hx
  · obtain ⟨x, hx, e⟩ := from_ y hy
    exact ⟨x, h.b x hx, e⟩
  · by_cases hjk : j < k
    · exact List.mem_append_left _ (h.c j x hjk hr)
    · have : j = k := by omega
      subst this
      exact h.r x hr
  · rcases List.mem_append.mp hx with hx | hx
    · exact h.e x hx
    · exact hno x hx
  · rintro y ⟨x, hx, e⟩
    have hx2 := d' x (h.r x hx)
    rcases e with e | e
    · rw [e]; exact hx2.1
    · rw [e]; exact hx2.2
  · cases hm : more with
    | nil => exact .inl rfl
    | cons y m =>
      right
      obtain ⟨x, hx, _⟩ := from_ y (by rw [hm]; exact List.mem_cons_self)
      rcases h.l with hl | hl
      · rw [hl] at hx; cases hx
      · rw [List.length_append, List.length_cons]
        omega
theorem BF.end_ {n s : Nat} {old layer : List Nat} (h : BF acc f g n s (n + 1) old layer) : IsRank acc f g s none := by
  have hl : layer = [] := by
    rcases h.l with hl | hl
    · exact hl
    · have := nodup_len h.nd h.lt
      omega
  subst hl
  have cl : ∀ k x, rch f g s k x → x ∈ old := by
    intro k
    induction k with
    | zero => intro x hx; exact h.c 0 x (Nat.succ_pos _) hx
    | succ k ih =>
      rintro y ⟨x, hx, e⟩
      have := h.d x (ih x hx)
      rw [List.append_nil] at this
      rcases e with e | e
      · rw [e]; exact this.1
      · rw [e]; exact this.2
  intro k
  refine Bool.eq_false_iff.mpr fun z => ?_
  obtain ⟨x, h1, h2⟩ := (canK_rch k s).mp z
  rw [h.e x (cl k x h1)] at h2
  cases h2
end
end Dw
namespace Dw
open PySem PySem.Spec PyProof.Rows L2 SX
def oV : Option Nat → V
  | none => .non
  | some k => nv k
theorem oV_flat (o : Option Nat) : flatV (oV o) = true := by cases o <;> rfl
theorem eqV_o (o : Option Nat) (k : Nat) : eqV (oV o) (nv k) = decide (o = some k) := by
  cases o with
  | none => rfl
  | some j =>
    show ((j : Int) == (k : Int)) = decide (some j = some k)
    rw [Bool.eq_iff_iff, beq_iff_eq, decide_eq_true_eq]
    constructor
    · intro h; rw [show j = k by omega]
    · intro h; rw [Option.some.inj h]
theorem inV_o (k : Nat) : ∀ L : List (Option Nat), inV (nv k) (L.map oV) = decide (some k ∈ L)
  | [] => by simp [inV]
  | o :: L => by
    have ih := inV_o k L
    unfold inV at ih ⊢
    rw [List.map_cons, List.any_cons, ih, eqV_o]
    by_cases h : o = some k
    · simp [h]
    · have : ¬ (some k = o) := fun e => h e.symm
      simp [h, this]
theorem flat_o (L : List (Option Nat)) : (L.map oV).all flatV = true := by
  rw [List.all_eq_true]
  intro v hv
  obtain ⟨o, _, rfl⟩ := List.mem_map.mp hv
  exact oV_flat o
theorem wt0 (t v : Nat) : wt 0 t v = 2 ^ t * v := by simp [wt]
theorem oset (n k : Nat) (o : Option Nat) (h : Nat → Option Nat) : ((List.range n).map fun s => oV (h s)).set k (oV o) = (List.range n).map fun s => oV (if s = k then o else h s) := by
  refine List.ext_getElem (by simp) fun i h1 h2 => ?_
  rw [List.getElem_set]
  simp only [List.getElem_map, List.getElem_range]
  by_cases e : k = i
  · rw [if_pos e, if_pos e.symm]
  · rw [if_neg e, if_neg fun z => e z.symm]
theorem inV_n (k : Nat) : ∀ L : List Nat, inV (nv k) (L.map nv) = decide (k ∈ L)
  | [] => by simp [inV]
  | o :: L => by
    have ih := inV_n k L
    unfold inV at ih ⊢
    rw [List.map_cons, List.any_cons, ih]
    show (((o : Int) == (k : Int)) || _) = _
    by_cases h : o = k
    · subst h; simp
    · have h1 : ((o : Int) == (k : Int)) = false := by
        rw [beq_eq_false_iff_ne]
        omega
      have : ¬ (k = o) := fun e => h e.symm
      simp [h1, this]
theorem flat_n (L : List Nat) : (L.map nv).all flatV = true := by
  rw [List.all_eq_true]
  intro v hv
  obtain ⟨o, _, rfl⟩ := List.mem_map.mp hv
  rfl
def keepA (A : Nat → Bool) : V → Bool
  | .int i => A i.toNat
  | _ => false
theorem keepA_map (A : Nat → Bool) (L : List Nat) : (L.map nv).filter (keepA A) = (L.filter A).map nv := by
  rw [List.filter_map]
  rfl
/-- a comprehension with a test over a list -/
theorem lc_filtN {K : PySem.W.Frag} {a : Addr} {xs : List V} {g : TG} {tt : TT} {te : TE} {vs : List Nat} {σ : L2.St} {H1 : Hp} {D : Addr} {Qd : Hp → Prop} (keep : V → Bool) (hx : SqL K H1 a xs) (hn : xs.length ≤ 10000) (hD : H1 D = none)
    (hs : ∀ (i : Nat) (x : V) (H : Hp) (Y : VK) (Nn : Hp → Prop), xs[i]? = some x → Same H1 H → (keep x = true → ∀ H', Same H H' → Y x H') → (keep x = false → ∀ H', Same H H' → Nn H') → g x (wipe σ vs) H fun σ2 H2 => wipe σ2 vs = wipe σ vs ∧ tt σ2 H2 fun b H3 => if b = true then te σ2 H3 Y else Nn H3)
    (hd : ∀ H, Same H1 H → H D = some (.lst (xs.filter keep)) → Qd H) : LcJ (Itl K a) g tt te vs D σ H1 Qd := by
  refine lc_listN (xs := xs) (fun i H => Same H1 H ∧ H D = some (.lst ((xs.take i).filter keep))) ⟨same_upd hD, upd_same⟩ (fun i H _ p => p.1.seq hx) (fun i x H N hi p hN => ?_) (fun H p => hd H p.1 (by rw [p.2, List.take_length]))
  obtain ⟨s1, hDl⟩ := p
  refine hs i x H (fun y H4 => ∃ acc, H4 D = some (.lst acc) ∧ acc.length < sizeLine ∧ N (upd H4 D (.lst (acc ++ [y])))) N hi s1 (fun hk H2 s2 => ⟨_, s2 _ _ hDl, ?_, hN _ ⟨Dw.Same.new (s1.trans s2) hD, ?_⟩⟩) (fun hk H2 s2 => hN _ ⟨s1.trans s2, ?_⟩)
  · have := List.length_filter_le keep (xs.take i)
    rw [List.length_take] at this
    exact smallt (by omega)
  · rw [upd_same, List.take_add_one, hi, List.filter_append]
    simp [hk]
  · rw [s2 _ _ hDl, List.take_add_one, hi, List.filter_append]
    simp [hk]
def oD : Option Nat → PyData
  | none => .none
  | some k => .int (k : Int)
theorem os_lay : ∀ L : List (Option Nat), PyData.canLayAll0 (L.map oD) = true
  | [] => by simp [PyData.canLayAll0]
  | none :: r => by simp [PyData.canLayAll0, oD, PyData.canLay0, os_lay r]
  | some n :: r => by simp [PyData.canLayAll0, oD, PyData.canLay0, os_lay r]
theorem os_depth : ∀ L : List (Option Nat), PyData.depthAll (L.map oD) = 0
  | [] => by simp [PyData.depthAll]
  | none :: r => by simp [PyData.depthAll, oD, PyData.depth, os_depth r]
  | some n :: r => by simp [PyData.depthAll, oD, PyData.depth, os_depth r]
theorem os_dp {K : PySem.W.Frag} {H : Hp} : ∀ L : List (Option Nat), DpAll K H (L.map oV) (L.map oD)
  | [] => .nil
  | none :: r => .cons .non (os_dp r)
  | some n :: r => .cons (.int _) (os_dp r)
theorem os_shaped (L : List (Option Nat)) : SeqAt.shaped (.list (L.map oD)) = true := by
  simp [SeqAt.shaped, PyData.canLay0, PyData.depth, os_lay L, os_depth]
theorem oV_inj {a b : Option Nat} (h : oV a = oV b) : a = b := by
  cases a <;> cases b
  · rfl
  · cases h
  · cases h
  · have := V.int.inj h
    congr 1
    omega
end Dw
namespace Dw
open PySem PySem.Spec PyProof.Rows L2 SX NdefX LamX
/-! defs of the module that take a function made within another def and call it -/
/-- what the caller shows of the handed function's cells -/
structure CbG (cl : List (Str × Addr)) (fr : List Str) (ws : List (Option V)) (outer : List Env) (h : Heap) (H : Hp) : Prop where
  cells : CellsAt cl fr ws h H
  nf : ∀ y c, cl.lookup y = some c → c ∉ frs outer
/-- a def's promise where G stands at the call -/
structure FnG (P : Program) (w : World) (K : PySem.W.Frag) (mg : Str → Option Value) (base : Heap) (CX : CXT) (k : Nat) (f : Addr) (fd : FuncData) (ps : List Str) (G : List Env → Heap → Hp → Prop) (sp : Sp) : Prop where
  len : ∀ vs H Q E, sp vs H Q E → vs.length = ps.length
  go : ∀ (A : Around) (fs : List Env) (st : Shared) (H : Hp) (as : Args) (us : List Value) (vs : List V) (Q : VK) (E : XK), Room k A → Env0 P w K mg base A fs st H → G fs st.heap H → BindsTo st fd as (ps.zip us) → Vals vs us → sp vs H Q E →
    codeAny (model P w) A (.call (.ref f) as) (CR CX fs P w H st Q E) st
theorem fnG_of {CX : CXT} {P : Program} {w : World} {K : PySem.W.Frag} {mg : Str → Option Value} {base : Heap} {k : Nat} {f : Addr} {nm ql : Str} {pr : Arguments} {bd : List Stmt} {sc : Scope} {d1 d2 d3 d4 cdv d5 d6 : Value} {o1 o2 : Option Addr} {sl : Array (Option Value)} {N ps : List Str} {G : List Env → Heap → Hp → Prop} {sp : Sp}
    (lk : K.lookup f = some ⟨d6, o2, .func (PySem.W.fnOf nm ql pr bd sc d1 d2 d3 d4 o1 cdv d5), sl⟩) (hcd : PySem.W.codeIn K cdv ql = true) (S : FnScope N ps sc) (len : ∀ vs H Q E, sp vs H Q E → vs.length = ps.length)
    (body : ∀ (A : Around) (fs : List Env) (st : Shared) (H : Hp) (vs : List V) (Q : VK) (E : XK), Room k (A.deeper (envOfC ql sc st.heap.objs.size f cdv)) → G fs st.heap H → sp vs H Q E → ∃ t, PSs (cxOf CX P w K mg base N ql sc f cdv A fs st H E) bd t ∧ t { nx := fun _ H' => Q .non H', rt := Q } (start N vs) H) :
    FnG P w K mg base CX (k + 1) f (PySem.W.fnOf nm ql pr bd sc d1 d2 d3 d4 o1 cdv d5) ps G sp := by
  constructor
  · exact len
  intro A fs st H as us vs Q E hr e0 g hb r hsp
  have kin0 := e0.mod.kin.keeps fun b o e => (e0.bs b o e).1
  have nol := e0.mod.nolimit.keeps fun b o e => (e0.bs b o e).1
  have kinds : ∀ y ∈ ps.zip us, sc.names.lookup y.1 = some .local ∨ (sc.names.lookup y.1 = some .cell ∧ ((cellsFrom (st.heap.objs.size + 1) sc.names []).lookup y.1).isSome = true) := by
    rintro ⟨n, v⟩ hy
    exact (S.par n (List.of_mem_zip hy).1).imp id fun q => ⟨q, PySem.W.cellsFrom_some _ _ _ (.inl q)⟩
  refine codeAny_call_function hr.depth (kin0 _ _ lk) rfl S.co S.gen rfl (PySem.W.codeRec_of kin0 hcd) (hb _ _ _ _ (wpAny_newFunctionEnv_cells S.kind kinds fun env he s1 x => ?_))
  subst he
  obtain ⟨t, ht, hq⟩ := body A fs st H vs Q E (hr.deeper _) g hsp
  have I := inv_start (CX := CX) (E := E) (cd := cdv) S hr.hd e0 (len _ _ _ _ hsp) r x
  refine ⟨nol.keeps x.toInCall.keep, codeAny_func (wpAny_mono (ht.run [] s1 (start N vs) H _ I hq) (fun fl s' hs => ?_) fun _ _ z => z)⟩
  match fl, hs with
  | .ret _, ⟨_, _, _, J, rv, q⟩ => exact ⟨_, _, J.os, J.bare, J.base, J.hok, rv, q⟩
  | .next, ⟨_, _, J, q⟩ => exact ⟨V.non, _, J.os, J.bare, J.base, J.hok, rfl, q⟩
  | .brk, ⟨_, _, _, q⟩ => exact False.elim q
  | .cont, ⟨_, _, _, q⟩ => exact False.elim q
/-- such a def under its name -/
structure CalG (P : Program) (w : World) (K : PySem.W.Frag) (mg : Str → Option Value) (base : Heap) (k : Nat) (x : Str) (G : List Env → Heap → Hp → Prop) (sp : Sp) : Prop where
  ex : ∃ (f : Addr) (fd : FuncData) (ps : List Str), FnG P w K mg base (L2.CX P w) k f fd ps G sp ∧ mg x = some (.ref f) ∧ PySem.W.keepIn K (.ref f) = true ∧ Binds K fd ps []
section
variable {P : Program} {w : World} {K : PySem.W.Frag} {mg : Str → Option Value} {base : Heap}
theorem calG0 {x : Str} {st : Stmt} {f : Addr} {fd : FuncData} {N ps : List Str} {k : Nat} {G : List Env → Heap → Hp → Prop} {sp : Sp} (F : C8.Def K mg x st f fd) (b : Binds K fd ps []) (S : FnScope N ps (C8.fnScope st)) (len : ∀ vs H Q E, sp vs H Q E → vs.length = ps.length)
    (body : ∀ (cdv : Value) (A : Around) (outer : List Env) (s : Shared) (H : Hp) (vs : List V) (Q : VK) (E : XK), Room k (A.deeper (envOfC x (C8.fnScope st) s.heap.objs.size f cdv)) → G outer s.heap H → sp vs H Q E →
      ∃ t, PSs (cxOf (L2.CX P w) P w K mg base N x (C8.fnScope st) f cdv A outer s H E) (C8.fnBody st) t ∧ t { nx := fun _ H' => Q .non H', rt := Q } (start N vs) H) : CalG P w K mg base (k + 1) x G sp := by
  obtain ⟨oc, od, dV, kV, doc, pm, an, cdv, ct, osl, rfl, lk, hcd⟩ := F.fn.ex
  exact ⟨_, _, ps, fnG_of lk hcd S len fun A fs s H vs Q E hr g h => body cdv A fs s H vs Q E hr g h, F.mgf, F.kp, b⟩
end
/-- the cells of the def that makes the function are no frames that run -/
theorem cbG_of {X : Cx} {pins : List (Addr × Obj)} {σ : L2.St} {H : Hp} {s : Shared} {cl : List (Str × Addr)} {fr : List Str} {js : List Nat} (I : Inv X pins σ H s) (c : Caps X cl fr js) (hfn : ∀ y, X.fn y = true) : CbG cl fr (js.map (slotAt σ)) X.stack s.heap H := by
  refine ⟨cells_of I c, fun y a e hb => ?_⟩
  have ea := c.sub y a e
  rcases List.mem_cons.mp (I.stkSub a hb) with z | z
  · exact I.cne y a ea z
  · obtain ⟨_, o, ho, _⟩ := I.ok.funs.mem z
    exact absurd (Heap.lt_size ho) (Nat.not_lt.mpr (I.ok.cab y a (hfn y) ea))
/-- its call; js: the slots of the names that the handed function captured -/
def tCallG (js : List Nat) (sp : List (Option V) → Sp) (E : XK) (t : TA) : TE := fun σ H Q => t σ H fun vs H1 => sp (js.map (slotAt σ)) vs H1 Q E
section
variable {X : Cx} {k j : Nat} {x : Str} {p pos : Pos} {e : Expr} {es : List Expr} {t : TA} {E : XK}
theorem pe_cG {cl : List (Str × Addr)} {fr : List Str} {js : List Nat} {sp : List (Option V) → Sp} (c : ∀ ws, CalG X.prog X.w X.K X.mg X.base k x (CbG cl fr ws) (sp ws)) (cp : X.Ok → Caps X cl fr js) (hfn : ∀ y, X.fn y = true) (hr : Room j X.A) (hk : k ≤ j) (hx : Passes (L2.CX X.prog X.w) X E) (hg : Gl X x) (ha : PA X (e :: es) t)
    (hdb : (x == ("__debug__" : Str)) = false := by decide) (he : starEach (e :: es) X.env = (false, eval e X.env) :: starEach es X.env := by rfl) (hpl : (backTo pos (starEach es X.env)).any (·.1) = false := by rfl) :
    PE X (.Call (.Name x p) (e :: es) [] pos) (tCallG js sp E t) := by
  refine ⟨fun pins s σ H Q I h => ?_⟩
  obtain ⟨f, fd, ps, F, hm, kp, b⟩ := (c (js.map (slotAt σ))).ex
  refine wpAny_Call_Name_kw (ld_glob I hg hm (PySem.W.callWith_K (h₀ := X.base) I.ok.mod.kin kp (thn (ha.run pos pins s σ H _ I h) fun us s1 ⟨vs, H1, I1, r, q⟩ => ⟨I1.kIn, ?_⟩) he hpl) hdb)
  have hl : (us ++ []).length = ps.length := by rw [List.append_nil, ← r.length]; exact F.len _ _ _ _ q
  have bt := b s1 us I1.kIn hl
  rw [List.append_nil] at bt
  refine wpAny_call (codeAny_mono (F.go X.A X.stack s1 H1 ⟨us, []⟩ us vs Q E (hr.mono hk) I1.env0 (cbG_of I1 (cp I1.ok) hfn) bt r q) fun rs s' hq => ?_)
  match rs, hq with
  | .error e, hq => exact hx pins σ H1 s1 e s' I1 hq
  | .ok (.ret u), hq => exact I1.after hq
  | .ok .next, hq => exact False.elim hq
  | .ok .brk, hq => exact False.elim hq
  | .ok .cont, hq => exact False.elim hq
/-- in that def: the call of the handed function -/
def tCb (F : NF) (i : Nat) (sp : Sp) (E : XK) (t : TA) : TE := fun σ H Q => ∃ f, σ[i]? = some (some (.ref f)) ∧ H f = some (FnO f F) ∧ t σ H fun vs H1 => H1 f = some (FnO f F) ∧ H1 F.c = some (CodeO F.c F.qual) ∧ sp vs H1 Q E
theorem pe_cb {CX : CXT} {F : NF} {ps fr : List Str} {ws : List (Option V)} {sp : List (Option V) → Sp} {i : Nat} (Fn : ∀ f, NOk X.prog X.w X.K X.mg X.base CX k f F ps fr sp) (g : CbG F.cl fr ws X.outer X.s_0.heap X.H_0) (hex : X.ex = []) (hr : Room j X.A) (hk : k ≤ j) (hx : Passes CX X E) (hN : X.N[i]? = some x) (hv : Vis X.env.scope x) (ha : PA X (e :: es) t)
    (hd : (x == ("__debug__" : Str)) = false := by decide) (hcd : (x == ("__classdict__" : Str)) = false := by decide)
    (he : starEach (e :: es) X.env = (false, eval e X.env) :: starEach es X.env := by rfl) (hpl : (backTo pos (starEach es X.env)).any (·.1) = false := by rfl) : PE X (.Call (.Name x p) (e :: es) [] pos) (tCb F i (sp ws) E t) := by
  refine ⟨fun pins s σ H Q I ⟨f, hs, hf, ht⟩ => wpAny_Call_Name_kw (thn ((pe_var (pos := p) hN hv hd hcd).run pins s σ H (fun v H1 => v = .ref f ∧ H1 = H) I ⟨.ref f, hs, rfl, rfl⟩) fun u s1 ⟨v, H1, I1, r1, ev, eH⟩ => ?_)⟩
  subst ev eH
  obtain rfl : u = Value.ref f := r1
  refine PySem.W.callWith_F (first := []) (fnAt_of I1 hf) (thn (ha.run pos pins s1 σ H1 _ I1 ht) fun us s2 ⟨vs, H2, I2, r, h1, h2, q⟩ => ⟨fnAt_of I2 h1, ?_⟩) he hpl
  have C := g.cells.later g.nf (fun _ _ _ => by rw [hex]; exact List.not_mem_nil) I2
  refine wpAny_call (codeAny_mono ((Fn f).run X.A X.stack s2 H2 us vs ws Q E (hr.mono hk) I2.env0 h1 h2 C r q) fun rs s' hq => ?_)
  match rs, hq with
  | .error e, hq => exact hx pins σ H2 s2 e s' I2 hq
  | .ok (.ret u), hq => exact I2.after hq
  | .ok .next, hq => exact False.elim hq
  | .ok .brk, hq => exact False.elim hq
  | .ok .cont, hq => exact False.elim hq
end
/-- all but tables of code objects stays -/
structure ExtT (H H' : Hp) : Prop where
  keep : ExtN H H'
  free : ∀ b, H' b = none → H b = none
theorem ExtT.of {H H' : Hp} (s : Same H H') : ExtT H H' := ⟨fun b o e _ => s b o e, fun b e => s.free e⟩
theorem ExtT.trans {H H1 H2 : Hp} (a : ExtT H H1) (b : ExtT H1 H2) : ExtT H H2 := ⟨fun x o e n => b.keep x o (a.keep x o e n) n, fun x e => a.free x (b.free x e)⟩
theorem ExtT.lst {H H' : Hp} (s : ExtT H H') {a : Addr} {xs : List V} (e : H a = some (.lst xs)) : H' a = some (.lst xs) := s.keep a _ e (fun _ h => by cases h)
theorem ExtT.tup {H H' : Hp} (s : ExtT H H') {a : Addr} {xs : List V} (e : H a = some (.tup xs)) : H' a = some (.tup xs) := s.keep a _ e (fun _ h => by cases h)
end Dw
namespace Dw
open PySem PySem.Spec PyProof.Rows L2 SX NdefX LamX
section
variable {P : Program} {w : World} {K : PySem.W.Frag} {mg : Str → Option Value} {base : Heap}
/-- a def whose code object's address is known -/
theorem calXK {x : Str} {st : Stmt} {f c : Addr} {oc dV kV doc pm ct : Value} {od an : Option Addr} {osl : Array (Option Value)} {N ps : List Str} {k : Nat} {sp : Sp} (lk : K.lookup f = some ⟨oc, od, .func (PySem.W.fnOf x x (C8.fnArgs st) (C8.fnBody st) (C8.fnScope st) dV kV doc pm an (.ref c) ct), osl⟩) (hcd : PySem.W.codeIn K (.ref c) x = true) (hm : mg x = some (.ref f)) (kp : PySem.W.keepIn K (.ref f) = true)
    (b : Binds K (PySem.W.fnOf x x (C8.fnArgs st) (C8.fnBody st) (C8.fnScope st) dV kV doc pm an (.ref c) ct) ps []) (S : FnScope N ps (C8.fnScope st)) (len : ∀ vs H Q E, sp vs H Q E → vs.length = ps.length)
    (body : ∀ (A : Around) (outer : List Env) (s : Shared) (H : Hp) (vs : List V) (Q : VK) (E : XK), Room k (A.deeper (envOfC x (C8.fnScope st) s.heap.objs.size f (.ref c))) → sp vs H Q E →
      ∃ t, PSs (cxOf (L2.CX P w) P w K mg base N x (C8.fnScope st) f (.ref c) A outer s H E) (C8.fnBody st) t ∧ t { nx := fun _ H' => Q .non H', rt := Q } (start N vs) H) : CalX P w K mg base (k + 1) x sp :=
  ⟨f, _, ps, fn_of lk hcd S len fun A outer s H vs Q E hr h => body A outer s H vs Q E hr h, hm, kp, b⟩
end
/-- whether a text is a key of a written table -/
def KAt (K : PySem.W.Frag) (w : World) (a : Addr) (z : Str) (b : Bool) : Prop := ∃ es n r, K.lookup a = some ⟨.type "dict", none, .dict es n, #[]⟩ ∧ PySem.W.KeysLit w.params es.toList ∧ (a == sysModules) = false ∧ PySem.W.nsIn K a z = some r ∧ r.isSome = b
def rKNo (K : PySem.W.Frag) (w : World) : R2 := fun x y H Q => ∃ (a : Addr) (z : Str) (b : Bool), y = .ref a ∧ x = .str z ∧ KAt K w a z b ∧ Q (.bl (!b)) H
theorem op_kNo {X : Cx} : OpR X (compareOp .NotIn) (rKNo X.K X.w) := by
  intro pins s σ H x y v u Q I rx ry h
  obtain ⟨a, z, b, rfl, rfl, ⟨es, n, r, hl, hk, low, h1, h2⟩, q⟩ := h
  obtain ⟨t, rfl⟩ := (show ∃ t, v = Value.str z t from rx)
  obtain rfl : u = Value.ref a := ry
  refine wpAny_notIn_of (strKind_is X.prog X.w z t) low (PySem.W.mapOf_K (prog := X.prog) (w := X.w) I.kIn hl hk) ?_
  rw [PySem.W.find_K hl h1, h2]
  exact ⟨.bl (!b), H, I.tok _, rfl, q⟩
end Dw
namespace Dw
open PySem PySem.Spec PyProof.Rows L2 SX
/-! a display with one pair, its key a tuple; and dicts that number a list of tuples -/
def tDisp1T (tk tv : TE) : TE := fun σ H Q => ∀ p, H p = none → tk σ (upd H p (.dT [])) fun x H1 => tv σ H1 fun y H2 => H2 p = some (.dT []) ∧ ∃ (b : Addr) (ks : List L2.Key), x = .ref b ∧ H2 b = some (.tup (ks.map kV)) ∧ Q (.ref p) (upd H2 p (.dT [(ks, y)]))
theorem pe_disp1T {X : Cx} {k v : Expr} {pos : Pos} {tk tv : TE} (hu : X.A.units + 1 < cLine) (hk : PE X k tk) (hv : PE X v tv) : PE X (.Dict [some k] [v] pos) (tDisp1T tk tv) := by
  refine ⟨fun pins s σ H Q I q => ?_⟩
  have I1 := I.laid (t' := s.toks) (fun _ _ q => Heap.get?_push_of_some _ q) (Nat.le_refl _) (dt_empty (H := upd H s.heap.objs.size (.dT [])) s.heap I.big)
  rw [arm_eval_Dict, zip_pairTrees [some k] [v] X.env pos rfl rfl, dictDisplay_pairs (pairTrees [some k] [v] X.env pos) (List.cons_ne_nil _ _) (by show (1 : Nat) < 17; decide)]
  refine wpAny_bind (wpAny_standAt (wpAny_bind (wpAny_subDictH (knd := tupleKind (mixKind X.prog X.w)) (Q := fun d s' => wpAny (model X.prog X.w) X.A (pure (Value.ref d)) (EP X pins σ Q) X.xe s') (show X.A.units < cLine by omega) (by show (1 : Nat) ≤ 15; decide) ?_)))
  refine pairTrees_cons_walk (thn (hk.run pins _ σ _ _ I1 (q _ (I.hok.fresh (Nat.le_refl _)))) fun u s1 ⟨x, H1, I2, rx, q1⟩ => thn (hv.run pins s1 σ H1 _ I2 q1) fun w2 s2 ⟨y, H2, I3, ry, e, b, ks, ex, eb, q2⟩ => pairTrees_nil_walk ?_)
  subst ex
  cases (show u = Value.ref b from rx)
  obtain ⟨_, hd, xs, rel, dd⟩ := dt_of I3.hok e
  cases rel
  refine ⟨[(ks, b, w2)], ⟨rfl, rfl, key_of I3.hok eb, trivial⟩, dd, fun h' tk dd' hs => wpAny_pure ⟨.ref s.heap.objs.size, _, ?_, rfl, q2⟩⟩
  obtain ⟨o, es, ep, h1, h2, h3, h4, _, h5⟩ := dd'
  refine d_write I3 (by rw [e]; exact True.intro) hs ⟨o, h1⟩ ⟨by rw [sizeLine_eq]; exact (by decide : (1 : Nat) ≤ 16777216), hd, [(ks, b, w2)], .cons ⟨rfl, ?_, ry⟩ .nil, o, es, ep, h1, h2, h3, h4, h5⟩
  show upd H2 s.heap.objs.size _ b = _
  rw [upd_ne (ne_of eb e (fun z => nomatch z))]
  exact eb
end Dw
namespace Dw
open PySem PySem.Spec PyProof.Rows L2 SX
abbrev kyT (l : List Int) : List L2.Key := l.map Sum.inl
theorem kyT_inj {a b : List Int} (e : kyT a = kyT b) : a = b := by
  exact (List.map_inj_right fun _ _ h => Sum.inl.inj h).mp e
theorem kyT_V (l : List Int) : (kyT l).map kV = l.map V.int := by
  unfold kyT
  rw [List.map_map]
  rfl
/-- the labels, numbered from k on -/
def numT : Nat → List (List Int) → List (List L2.Key × V)
  | _, [] => []
  | k, l :: ls => (kyT l, nv k) :: numT (k + 1) ls
theorem numT_len : ∀ (k : Nat) (ls : List (List Int)), (numT k ls).length = ls.length
  | _, [] => rfl
  | k, l :: ls => by
    unfold numT
    rw [List.length_cons, List.length_cons, numT_len (k + 1) ls]
theorem numT_snoc : ∀ (k : Nat) (ls : List (List Int)) (l : List Int), numT k (ls ++ [l]) = numT k ls ++ [(kyT l, nv (k + ls.length))]
  | k, [], l => rfl
  | k, x :: ls, l => by
    rw [List.cons_append]
    unfold numT
    rw [numT_snoc (k + 1) ls l, List.cons_append, List.length_cons, show k + 1 + ls.length = k + (ls.length + 1) by omega]
theorem numT_no : ∀ (k : Nat) (ls : List (List Int)) (l : List Int), l ∉ ls → valV (numT k ls) (kyT l) = none
  | _, [], _, _ => rfl
  | k, x :: ls, l, h => by
    unfold numT
    rw [valV_neg (fun e => h (by rw [kyT_inj e]; exact List.mem_cons_self))]
    exact numT_no (k + 1) ls l fun z => h (List.mem_cons_of_mem _ z)
theorem numT_at : ∀ (k : Nat) (ls : List (List Int)) (l : List Int), l ∈ ls → ∃ i, ls[i]? = some l ∧ valV (numT k ls) (kyT l) = some (nv (k + i))
  | _, [], _, h => nomatch h
  | k, x :: ls, l, h => by
    unfold numT
    by_cases e : x = l
    · exact ⟨0, by rw [e]; rfl, by rw [valV_pos (by rw [e])]; rfl⟩
    · obtain ⟨i, h1, h2⟩ := numT_at (k + 1) ls l ((List.mem_cons.mp h).resolve_left fun z => e z.symm)
      exact ⟨i + 1, h1, by rw [valV_neg (fun z => e (kyT_inj z)), h2, show k + 1 + i = k + (i + 1) by omega]⟩
theorem numT_in {H : Hp} {d b : Addr} {ls : List (List Int)} {l : List Int} (e : H d = some (.dT (numT 0 ls))) (eb : H b = some (.tup (l.map V.int))) : DGet H d (.ref b) (valV (numT 0 ls) (kyT l)) := DGet.t e (by rw [kyT_V]; exact eb)
theorem numT_put {H : Hp} {d b : Addr} {ls : List (List Int)} {l : List Int} (e : H d = some (.dT (numT 0 ls))) (eb : H b = some (.tup (l.map V.int))) (n : l ∉ ls) (hl : ls.length < 1000) : DPut H d (.ref b) (nv ls.length) (upd H d (.dT (numT 0 (ls ++ [l])))) := by
  have := DPut.t (v := nv ls.length) e (b := b) (k := kyT l) (by rw [kyT_V]; exact eb) (by rw [numT_len, sizeLine_eq]; omega)
  rwa [putK_new _ (numT_no 0 ls l n), show numT 0 ls ++ [(kyT l, nv ls.length)] = numT 0 (ls ++ [l]) by rw [numT_snoc, Nat.zero_add]] at this
end Dw
namespace Dw
open PySem PySem.Spec PyProof.Rows L2 SX
theorem hu1 {A : Around} {k : Nat} (hr : Room k A) : A.units + 1 < cLine := by have := hr.units; omega
end Dw
namespace Dw
/-! a search breadth first, as relations on the lists that stand: the labels found, the rows of their numbers -/
/-- the numbers of a row in the order in which they are found: c are known ahead of it -/
def scanR : Nat → List Nat → Option Nat
  | c, [] => some c
  | c, x :: r => if x < c then scanR c r else if x = c then scanR (c + 1) r else none
def scanT : Nat → List (List Nat) → Option Nat
  | c, [] => some c
  | c, r :: rs => (scanR c r).bind fun d => scanT d rs
theorem scanR_snoc : ∀ (c : Nat) (r : List Nat) (x : Nat), scanR c (r ++ [x]) = (scanR c r).bind fun d => scanR d [x]
  | _, [], _ => rfl
  | c, y :: r, x => by
    rw [List.cons_append]
    unfold scanR
    split
    · exact scanR_snoc c r x
    · split
      · exact scanR_snoc (c + 1) r x
      · rfl
theorem scanT_snoc : ∀ (c : Nat) (rs : List (List Nat)) (r : List Nat), scanT c (rs ++ [r]) = (scanT c rs).bind fun d => scanR d r
  | c, [], r => by
    show (scanR c r).bind (fun d => scanT d []) = scanR c r
    cases scanR c r <;> rfl
  | c, y :: rs, r => by
    rw [List.cons_append]
    unfold scanT
    cases h : scanR c y with
    | none => rfl
    | some d => exact scanT_snoc d rs r
section
variable {L : Type} [DecidableEq L] {g : L → Nat → L} {U : List L}
/-- the place of a label -/
def ixL1 (y : L) : List L → Nat
  | [] => 0
  | x :: f => if x = y then 0 else ixL1 y f + 1
theorem ix_at {y : L} : ∀ {f : List L} {x : Nat}, f.Nodup → f[x]? = some y → ixL1 y f = x
  | z :: f, 0, _, h => by
    cases h
    exact if_pos rfl
  | z :: f, x + 1, nd, h => by
    have h' : f[x]? = some y := h
    have n : z ≠ y := fun e => (List.nodup_cons.mp nd).1 (e ▸ List.mem_of_getElem? h')
    show (if z = y then 0 else ixL1 y f + 1) = x + 1
    rw [if_neg n, ix_at (List.nodup_cons.mp nd).2 h']
def stepL (y : L) (p : List L × List Nat) : List L × List Nat := if y ∈ p.1 then (p.1, p.2 ++ [ixL1 y p.1]) else (p.1 ++ [y], p.2 ++ [p.1.length])
def rowF (h : Nat → L) (f0 : List L) : Nat → List L × List Nat
  | 0 => (f0, [])
  | j + 1 => stepL (h j) (rowF h f0 j)
def bfsN (g : L → Nat → L) (n : Nat) (l0 : L) : Nat → List L × List (List Nat)
  | 0 => ([l0], [])
  | k + 1 => let p := bfsN g n l0 k
    match p.1[k]? with
    | some l => ((rowF (g l) p.1 n).1, p.2 ++ [(rowF (g l) p.1 n).2])
    | none => p
theorem nodup_le {L : Type} : ∀ {a U : List L}, a.Nodup → (∀ y ∈ a, y ∈ U) → a.length ≤ U.length
  | [], _, _, _ => Nat.zero_le _
  | x :: a, U, nd, h => by
    obtain ⟨s, t, rfl⟩ := List.append_of_mem (h x List.mem_cons_self)
    have ih := nodup_le (a := a) (U := s ++ t) (List.nodup_cons.mp nd).2 fun y hy => by
      rcases List.mem_append.mp (h y (List.mem_cons_of_mem _ hy)) with z | z
      · exact List.mem_append_left _ z
      · rcases List.mem_cons.mp z with z | z
        · exact absurd (z ▸ hy) (List.nodup_cons.mp nd).1
        · exact List.mem_append_right _ z
    rw [List.length_append] at ih
    rw [List.length_cons, List.length_append, List.length_cons]
    omega
theorem snoc_nodup {L : Type} {a : List L} {x : L} (nd : a.Nodup) (h : x ∉ a) : (a ++ [x]).Nodup := by
  rw [List.nodup_append]
  exact ⟨nd, List.pairwise_singleton _ _, fun y hy z hz => by rw [List.mem_singleton.mp hz]; exact fun e => h (e ▸ hy)⟩
/-- within a row: the letters below j are done -/
structure RowI (g : L → Nat → L) (U f0 : List L) (l : L) (j : Nat) (f : List L) (row : List Nat) : Prop where
  nd : f.Nodup
  pre : ∃ m, f = f0 ++ m
  len : row.length = j
  at_ : ∀ i x, row[i]? = some x → f[x]? = some (g l i)
  scan : scanR f0.length row = some f.length
  sub : ∀ y ∈ f, y ∈ U
  fn : rowF (g l) f0 j = (f, row)
theorem RowI.zero {f0 : List L} {l : L} (nd : f0.Nodup) (sub : ∀ y ∈ f0, y ∈ U) : RowI g U f0 l 0 f0 [] :=
  ⟨nd, ⟨[], (List.append_nil _).symm⟩, rfl, (fun _ _ h => nomatch h), rfl, sub, rfl⟩
theorem row_at {L : Type} {row : List Nat} {f : List L} {g : Nat → L} {x j : Nat} (hl : row.length = j) (h : ∀ i y, row[i]? = some y → f[y]? = some (g i)) (hx : f[x]? = some (g j)) : ∀ i y, (row ++ [x])[i]? = some y → f[y]? = some (g i) := by
  intro i y e
  by_cases hi : i < row.length
  · rw [List.getElem?_append_left hi] at e
    exact h i y e
  · rw [List.getElem?_append_right (by omega)] at e
    cases hk : i - row.length with
    | zero =>
      rw [hk] at e
      cases e
      rwa [show i = j by omega]
    | succ k =>
      rw [hk] at e
      cases e
theorem RowI.old {f0 f : List L} {l : L} {j x : Nat} {row : List Nat} (h : RowI g U f0 l j f row) (e : f[x]? = some (g l j)) : RowI g U f0 l (j + 1) f (row ++ [x]) := by
  refine ⟨h.nd, h.pre, by rw [List.length_append, h.len]; rfl, row_at h.len h.at_ e, ?_, h.sub, ?_⟩
  · rw [scanR_snoc, h.scan]
    show (if x < f.length then scanR f.length [] else _) = _
    rw [if_pos (List.getElem?_eq_some_iff.mp e).1]
    rfl
  · show stepL (g l j) (rowF (g l) f0 j) = _
    rw [h.fn]
    unfold stepL
    rw [if_pos (List.mem_of_getElem? e), ix_at h.nd e]
theorem RowI.new {f0 f : List L} {l : L} {j : Nat} {row : List Nat} (h : RowI g U f0 l j f row) (n : g l j ∉ f) (u : g l j ∈ U) : RowI g U f0 l (j + 1) (f ++ [g l j]) (row ++ [f.length]) := by
  obtain ⟨m, hm⟩ := h.pre
  refine ⟨snoc_nodup h.nd n, ⟨m ++ [g l j], by rw [hm, List.append_assoc]⟩, by rw [List.length_append, h.len]; rfl, row_at h.len (fun i y e => ?_) ?_, ?_, fun y hy => ?_, by show stepL (g l j) (rowF (g l) f0 j) = _; rw [h.fn]; exact if_neg n⟩
  · have := h.at_ i y e
    rw [List.getElem?_append_left (List.getElem?_eq_some_iff.mp this).1]
    exact this
  · rw [List.getElem?_append_right (Nat.le_refl _), Nat.sub_self]
    rfl
  · rw [scanR_snoc, h.scan]
    show (if f.length < f.length then _ else if f.length = f.length then scanR (f.length + 1) [] else none) = _
    rw [if_neg (Nat.lt_irrefl _), if_pos rfl, List.length_append]
    rfl
  · rcases List.mem_append.mp hy with z | z
    · exact h.sub y z
    · rw [List.mem_singleton.mp z]; exact u
/-- the whole search -/
structure BfsI (g : L → Nat → L) (U : List L) (n : Nat) (l0 : L) (f : List L) (T : List (List Nat)) : Prop where
  nd : f.Nodup
  hd : f[0]? = some l0
  le : T.length ≤ f.length
  rows : ∀ (i : Nat) (r : List Nat), T[i]? = some r → r.length = n ∧ ∃ l, f[i]? = some l ∧ ∀ j x, r[j]? = some x → f[x]? = some (g l j)
  scan : scanT 1 T = some f.length
  order : ∀ k, k < T.length → ∃ c, scanT 1 (T.take k) = some c ∧ k < c
  sub : ∀ y ∈ f, y ∈ U
  fn : bfsN g n l0 T.length = (f, T)
theorem BfsI.zero {n : Nat} {l0 : L} (u : l0 ∈ U) : BfsI g U n l0 [l0] [] :=
  ⟨List.pairwise_singleton _ _, rfl, Nat.zero_le _, (fun _ _ h => nomatch h), rfl, (fun _ h => nomatch h), (fun y hy => by rw [List.mem_singleton.mp hy]; exact u), rfl⟩
theorem BfsI.step {n : Nat} {l0 l : L} {f f' : List L} {T : List (List Nat)} {row : List Nat} (h : BfsI g U n l0 f T) (hl : f[T.length]? = some l) (r : RowI g U f l n f' row) : BfsI g U n l0 f' (T ++ [row]) := by
  obtain ⟨m, hm⟩ := r.pre
  have up : ∀ {i : Nat} {y : L}, f[i]? = some y → f'[i]? = some y := fun {i y} e => by
    rw [hm, List.getElem?_append_left (List.getElem?_eq_some_iff.mp e).1]
    exact e
  have hlt := (List.getElem?_eq_some_iff.mp hl).1
  have hlen : f.length ≤ f'.length := by rw [hm, List.length_append]; omega
  have tl : (T ++ [row]).length = T.length + 1 := by rw [List.length_append]; rfl
  refine ⟨r.nd, up h.hd, by omega, fun i q e => ?_, by rw [scanT_snoc, h.scan]; exact r.scan, fun k hk => ?_, r.sub, ?_⟩
  rotate_right 1
  · rw [tl]
    show (match (bfsN g n l0 T.length).1[T.length]? with | some l => ((rowF (g l) (bfsN g n l0 T.length).1 n).1, (bfsN g n l0 T.length).2 ++ [(rowF (g l) (bfsN g n l0 T.length).1 n).2]) | none => bfsN g n l0 T.length) = _
    rw [h.fn, hl]
    show ((rowF (g l) f n).1, T ++ [(rowF (g l) f n).2]) = _
    rw [r.fn]
  · by_cases hi : i < T.length
    · rw [List.getElem?_append_left hi] at e
      obtain ⟨e1, l1, e2, e3⟩ := h.rows i q e
      exact ⟨e1, l1, up e2, fun j x ex => up (e3 j x ex)⟩
    · rw [List.getElem?_append_right (by omega)] at e
      cases hk : i - T.length with
      | zero =>
        rw [hk] at e
        cases e
        rw [show i = T.length by omega]
        exact ⟨r.len, l, up hl, r.at_⟩
      | succ k =>
        rw [hk] at e
        cases e
  · by_cases hk2 : k < T.length
    · rw [List.take_append_of_le_length (by omega)]
      exact h.order k hk2
    · rw [show k = T.length by omega, List.take_append_of_le_length (Nat.le_refl _), List.take_length]
      exact ⟨_, h.scan, hlt⟩
theorem bfsN_stop {n : Nat} {l0 : L} {k : Nat} (h : (bfsN g n l0 k).1[k]? = none) : ∀ d, bfsN g n l0 (k + d) = bfsN g n l0 k
  | 0 => rfl
  | d + 1 => by
    have ih := bfsN_stop h d
    show (match (bfsN g n l0 (k + d)).1[k + d]? with | some l => _ | none => bfsN g n l0 (k + d)) = _
    rw [ih]
    have hn : (bfsN g n l0 k).1[k + d]? = none := List.getElem?_eq_none (Nat.le_trans (List.getElem?_eq_none_iff.mp h) (Nat.le_add_right _ _))
    rw [hn]
/-- a search that is over is the one alone -/
theorem BfsI.one {U' : List L} {n : Nat} {l0 : L} {f f' : List L} {T T' : List (List Nat)} (h : BfsI g U n l0 f T) (h' : BfsI g U' n l0 f' T') (e : T.length = f.length) (e' : T'.length = f'.length) : f = f' ∧ T = T' := by
  have main : ∀ {U U' : List L} {f f' : List L} {T T' : List (List Nat)}, BfsI g U n l0 f T → BfsI g U' n l0 f' T' → T.length = f.length → T.length ≤ T'.length → (f, T) = (f', T') := fun {U U' f f' T T'} h h' e le => by
    have s := bfsN_stop (g := g) (n := n) (l0 := l0) (k := T.length) (by rw [h.fn]; exact List.getElem?_eq_none (Nat.le_of_eq e.symm)) (T'.length - T.length)
    rw [show T.length + (T'.length - T.length) = T'.length by omega, h'.fn, h.fn] at s
    exact s.symm
  rcases Nat.le_total T.length T'.length with z | z
  · exact Prod.mk.inj (main h h' e z)
  · have := Prod.mk.inj (main h' h e' z)
    exact ⟨this.1.symm, this.2.symm⟩
theorem BfsI.bound {n : Nat} {l0 : L} {f : List L} {T : List (List Nat)} (h : BfsI g U n l0 f T) : f.length ≤ U.length := nodup_le h.nd h.sub
theorem RowI.bound {f0 f : List L} {l : L} {j : Nat} {row : List Nat} (h : RowI g U f0 l j f row) : f.length ≤ U.length := nodup_le h.nd h.sub
theorem RowI.bound1 {f0 f : List L} {l : L} {j : Nat} {row : List Nat} (h : RowI g U f0 l j f row) (n : g l j ∉ f) (u : g l j ∈ U) : f.length < U.length := by
  have := (h.new n u).bound
  rw [List.length_append] at this
  exact this
end
end Dw
namespace Dw
open PySem PySem.Spec PyProof.Rows L2 SX
/-! a search over tuples of ints, as it stands in the heap -/
theorem TupsAt.upd {H : Hp} {ts : List Addr} {T : List (List Int)} {x : Addr} {o o' : HO} (h : TupsAt H ts T) (e : H x = some o) (n : ∀ xs, HO.tup xs ≠ o) : TupsAt (L2.upd H x o') ts T := ⟨h.len, fun i a r h1 h2 => by
  have ea := h.at_ i a r h1 h2
  rw [upd_ne (ne_of ea e (n _))]
  exact ea⟩
theorem TupsAt.get {H : Hp} {ts : List Addr} {T : List (List Int)} {i : Nat} {r : List Int} (h : TupsAt H ts T) (e : T[i]? = some r) : ∃ a, ts[i]? = some a ∧ H a = some (.tup (r.map V.int)) := by
  have hi : i < ts.length := by rw [h.len]; exact (List.getElem?_eq_some_iff.mp e).1
  exact ⟨ts[i], List.getElem?_eq_getElem hi, h.at_ i _ _ (List.getElem?_eq_getElem hi) e⟩
theorem numT_last {ls : List (List Int)} {l : List Int} (h : l ∉ ls) : valV (numT 0 (ls ++ [l])) (kyT l) = some (nv ls.length) := by
  rw [numT_snoc, valV_snoc _ _ _ _ (numT_no 0 ls l h), if_pos rfl, Nat.zero_add]
def natT (T : List (List Nat)) : List (List Int) := T.map fun r => r.map fun (x : Nat) => (x : Int)
structure RS (H H1 : Hp) (g : List Int → Nat → List Int) (U : List (List Int)) (n : Nat) (l0 : List Int) (pF pN pT : Addr) (fs rs : List Addr) (ls : List (List Int)) (T : List (List Nat)) : Prop where
  same : Same H H1
  hF : H1 pF = some (.lst (fs.map V.ref))
  tF : TupsAt H1 fs ls
  hN : H1 pN = some (.dT (numT 0 ls))
  hT : H1 pT = some (.lst (rs.map V.ref))
  rows : RowsAt H1 rs (natT T)
  nr : ∀ y ∈ rs, H y = none ∧ y ≠ pF ∧ y ≠ pN ∧ y ≠ pT
  bfs : BfsI g U n l0 ls T
def FolOk (g : List Int → Nat → List Int) (U : List (List Int)) (n : Nat) (spF : Sp) (H : Hp) : Prop := ∀ H1 b l j Q1 E1, Same H H1 → H1 b = some (.tup (l.map V.int)) → l ∈ U → j < n → (∀ c H2, Same H1 H2 → H2 c = some (.tup ((g l j).map V.int)) → Q1 (.ref c) H2) → spF [.ref b, nv j] H1 Q1 E1
/-- what reached returns -/
structure RchAt (H H' : Hp) (g : List Int → Nat → List Int) (U : List (List Int)) (n : Nat) (l0 : List Int) (p : Addr) (ls : List (List Int)) (T : List (List Nat)) : Prop where
  ex : ∃ f t fs rs, H' p = some (.tup [.ref f, .ref t]) ∧ H' f = some (.lst (fs.map V.ref)) ∧ TupsAt H' fs ls ∧ H' t = some (.lst (rs.map V.ref)) ∧ RowsAt H' rs (natT T) ∧ H f = none ∧ H t = none ∧ t ≠ f ∧ (∀ y ∈ rs, H y = none ∧ y ≠ f ∧ y ≠ t)
  bfs : BfsI g U n l0 ls T
  all : T.length = ls.length
theorem RowsAt.ext {H H' : Hp} {rs : List Addr} {T : List (List Int)} (h : RowsAt H rs T) (e : ExtT H H') : RowsAt H' rs T := ⟨h.len, fun i a r h1 h2 => e.lst (h.at_ i a r h1 h2)⟩
theorem MachAt.ext {C : Addr} {H H' : Hp} {m : Addr} {w : Nat} {T : List (List Int)} {acc : List Bool} (h : MachAt C H m w T acc) (e : ExtT H H') : MachAt C H' m w T acc := by
  obtain ⟨dx, t, b, rs, h1, h2, h3, h4⟩ := h.ex
  exact ⟨dx, t, b, rs, e.keep _ _ h1 (fun _ z => nomatch z), e.lst h2, h3.ext e, e.lst h4⟩
theorem TupsAt.ext {H H' : Hp} {ts : List Addr} {T : List (List Int)} (h : TupsAt H ts T) (e : ExtT H H') : TupsAt H' ts T := ⟨h.len, fun i a r h1 h2 => e.tup (h.at_ i a r h1 h2)⟩
theorem TabN.same {H H' : Hp} {P : Addr} {nm : Nat → Nat → Str} (h : NdefX.TabN H P nm) (s : Same H H') : NdefX.TabN H' P nm := h.ext s
/-- pairs of states -/
def pairsU (n1 n2 : Nat) : List (List Int) := (List.range n1).flatMap fun a => (List.range n2).map fun b => [((a : Nat) : Int), ((b : Nat) : Int)]
theorem mem_pairsU {n1 n2 : Nat} {l : List Int} : l ∈ pairsU n1 n2 ↔ ∃ x y : Nat, x < n1 ∧ y < n2 ∧ l = [(x : Int), (y : Int)] := by
  unfold pairsU
  rw [List.mem_flatMap]
  constructor
  · rintro ⟨x, hx, h⟩
    obtain ⟨y, hy, rfl⟩ := List.mem_map.mp h
    exact ⟨x, y, List.mem_range.mp hx, List.mem_range.mp hy, rfl⟩
  · rintro ⟨x, y, hx, hy, rfl⟩
    exact ⟨x, List.mem_range.mpr hx, List.mem_map.mpr ⟨y, List.mem_range.mpr hy, rfl⟩⟩
theorem flat_const {α : Type} {f : Nat → List α} {k : Nat} (h : ∀ a, (f a).length = k) : ∀ n : Nat, ((List.range n).flatMap f).length = n * k
  | 0 => by rw [Nat.zero_mul]; rfl
  | n + 1 => by rw [List.range_succ, List.flatMap_append, List.length_append, flat_const h n, List.flatMap_singleton, h n, Nat.succ_mul]
theorem pairsU_len (n1 n2 : Nat) : (pairsU n1 n2).length = n1 * n2 := flat_const (fun a => by rw [List.length_map, List.length_range]) n1
end Dw
namespace Dw
open PySem PySem.Spec PyProof.Rows L2 SX
theorem Draw.ext {K : PySem.W.Frag} {H H' : Hp} {p q : Addr} {ns : List Int} (d : Draw K H p q ns) (x : ExtT H H') : Draw K H' p q ns := by
  refine ⟨fun H2 b2 => ?_, ?_⟩
  · by_cases e : q = p
    · subst e
      rcases d.1 (L2.upd H q (.tup [])) But.upd with (h | ⟨_, h⟩) | h
      · rw [upd_same] at h; cases h
      · rw [upd_same] at h; cases h
      · exact .inr h
    · rcases d.1 H (But.refl _ _) with (h | ⟨o, h⟩) | h
      · exact .inl (.inl (b2 _ _ e (x.lst h)))
      · exact .inl (.inr ⟨o, b2 _ _ e (x.keep _ _ h (fun _ z => nomatch z))⟩)
      · exact .inr h
  · obtain ⟨a, v, y, hp, h0, h1⟩ := d.2
    exact ⟨a, v, y, x.lst hp, h0, h1⟩
theorem MachP.ext {C : Addr} {H H' : Hp} {L : List Addr} {m : Addr} {w : Nat} {T : List (List Int)} {acc : List Bool} (h : MachP C H L m w T acc) (e : ExtT H H') : MachP C H' L m w T acc := by
  obtain ⟨dx, t, b, rs, h0, h1, h2, h3, h4⟩ := h
  exact ⟨dx, t, b, rs, h0, e.keep _ _ h1 (fun _ z => nomatch z), e.lst h2, h3.ext e, e.lst h4⟩
theorem TupsAt.but {H H' : Hp} {ts : List Addr} {T : List (List Int)} {p : Addr} {xs : List V} (h : TupsAt H ts T) (b : But p H H') (hp : H p = some (.lst xs)) : TupsAt H' ts T := ⟨h.len, fun i a r h1 h2 => by
  have ea := h.at_ i a r h1 h2
  exact b _ _ (ne_of ea hp (fun z => nomatch z)) ea⟩
end Dw
namespace Dw
open PySem PySem.Spec PyProof.Rows L2 SX
/-! a search over ints, as it stands in the heap -/
/-- the labels, numbered from k on -/
def numI : Nat → List Int → List (L2.Key × V)
  | _, [] => []
  | k, l :: ls => (.inl l, nv k) :: numI (k + 1) ls
theorem numI_len : ∀ (k : Nat) (ls : List Int), (numI k ls).length = ls.length
  | _, [] => rfl
  | k, l :: ls => by
    unfold numI
    rw [List.length_cons, List.length_cons, numI_len (k + 1) ls]
theorem numI_snoc : ∀ (k : Nat) (ls : List Int) (l : Int), numI k (ls ++ [l]) = numI k ls ++ [(.inl l, nv (k + ls.length))]
  | k, [], l => rfl
  | k, x :: ls, l => by
    rw [List.cons_append]
    unfold numI
    rw [numI_snoc (k + 1) ls l, List.cons_append, List.length_cons, show k + 1 + ls.length = k + (ls.length + 1) by omega]
theorem numI_no : ∀ (k : Nat) (ls : List Int) (l : Int), l ∉ ls → valV (numI k ls) (.inl l) = none
  | _, [], _, _ => rfl
  | k, x :: ls, l, h => by
    unfold numI
    rw [valV_neg (fun e => h (by rw [Sum.inl.inj e]; exact List.mem_cons_self))]
    exact numI_no (k + 1) ls l fun z => h (List.mem_cons_of_mem _ z)
theorem numI_at : ∀ (k : Nat) (ls : List Int) (l : Int), l ∈ ls → ∃ i, ls[i]? = some l ∧ valV (numI k ls) (.inl l) = some (nv (k + i))
  | _, [], _, h => nomatch h
  | k, x :: ls, l, h => by
    unfold numI
    by_cases e : x = l
    · exact ⟨0, by rw [e]; rfl, by rw [valV_pos (by rw [e])]; rfl⟩
    · obtain ⟨i, h1, h2⟩ := numI_at (k + 1) ls l ((List.mem_cons.mp h).resolve_left fun z => e z.symm)
      exact ⟨i + 1, h1, by rw [valV_neg (fun z => e (Sum.inl.inj z)), h2, show k + 1 + i = k + (i + 1) by omega]⟩
theorem numI_in {H : Hp} {d : Addr} {ls : List Int} {l : Int} (e : H d = some (.dK (numI 0 ls))) : DGet H d (.int l) (valV (numI 0 ls) (.inl l)) := DGet.k (k := .inl l) e
theorem numI_put {H : Hp} {d : Addr} {ls : List Int} {l : Int} (e : H d = some (.dK (numI 0 ls))) (n : l ∉ ls) (hl : ls.length < 1000) : DPut H d (.int l) (nv ls.length) (upd H d (.dK (numI 0 (ls ++ [l])))) := by
  have := DPut.k (v := nv ls.length) (k := .inl l) e (by rw [numI_len, sizeLine_eq]; omega)
  rwa [putK_new _ (numI_no 0 ls l n), show numI 0 ls ++ [(.inl l, nv ls.length)] = numI 0 (ls ++ [l]) by rw [numI_snoc, Nat.zero_add]] at this
theorem numI_last {ls : List Int} {l : Int} (h : l ∉ ls) : valV (numI 0 (ls ++ [l])) (.inl l) = some (nv ls.length) := by
  rw [numI_snoc, valV_snoc _ _ _ _ (numI_no 0 ls l h), if_pos rfl, Nat.zero_add]
structure RSI (H H1 : Hp) (g : Int → Nat → Int) (U : List Int) (n : Nat) (l0 : Int) (pF pN pT : Addr) (rs : List Addr) (ls : List Int) (T : List (List Nat)) : Prop where
  same : Same H H1
  hF : H1 pF = some (.lst (ls.map V.int))
  hN : H1 pN = some (.dK (numI 0 ls))
  hT : H1 pT = some (.lst (rs.map V.ref))
  rows : RowsAt H1 rs (natT T)
  nr : ∀ y ∈ rs, H y = none ∧ y ≠ pF ∧ y ≠ pN ∧ y ≠ pT
  bfs : BfsI g U n l0 ls T
def FolOkI (g : Int → Nat → Int) (U : List Int) (n : Nat) (spF : Sp) (H : Hp) : Prop := ∀ H1 l j Q1 E1, Same H H1 → l ∈ U → j < n → (∀ H2, Same H1 H2 → Q1 (.int (g l j)) H2) → spF [.int l, nv j] H1 Q1 E1
/-- what reached returns -/
structure RchAtI (H H' : Hp) (g : Int → Nat → Int) (U : List Int) (n : Nat) (l0 : Int) (p : Addr) (ls : List Int) (T : List (List Nat)) : Prop where
  ex : ∃ f t rs, H' p = some (.tup [.ref f, .ref t]) ∧ H' f = some (.lst (ls.map V.int)) ∧ H' t = some (.lst (rs.map V.ref)) ∧ RowsAt H' rs (natT T) ∧ H f = none ∧ H t = none ∧ t ≠ f ∧ (∀ y ∈ rs, H y = none ∧ y ≠ f ∧ y ≠ t)
  bfs : BfsI g U n l0 ls T
  all : T.length = ls.length
/-- the ints below n -/
def intsU (n : Nat) : List Int := (List.range n).map fun x => ((x : Nat) : Int)
theorem mem_intsU {n : Nat} {l : Int} : l ∈ intsU n ↔ ∃ x : Nat, x < n ∧ l = (x : Int) := by
  unfold intsU
  rw [List.mem_map]
  constructor
  · rintro ⟨x, hx, rfl⟩; exact ⟨x, List.mem_range.mp hx, rfl⟩
  · rintro ⟨x, hx, rfl⟩; exact ⟨x, List.mem_range.mpr hx, rfl⟩
theorem intsU_len (n : Nat) : (intsU n).length = n := by unfold intsU; rw [List.length_map, List.length_range]
/-! a list or a tuple, walked -/
def AnyS (K : PySem.W.Frag) (H : Hp) (a : Addr) (xs : List V) : Prop := SqL K H a xs ∨ SqT K H a xs
theorem AnyS.same {K : PySem.W.Frag} {H H' : Hp} {a : Addr} {xs : List V} (h : AnyS K H a xs) (s : Same H H') : AnyS K H' a xs := h.imp (fun h => s.seq h) (sameT s)
def iAny (K : PySem.W.Frag) (tl : TE) : TI := fun σ H R => tl σ H fun x H1 => ∃ a, x = .ref a ∧ (((∃ xs, SqL K H1 a xs) ∧ R (Itl K a) H1) ∨ ((∃ xs, SqT K H1 a xs) ∧ R (Itt K a) H1))
theorem piA {X : Cx} (K : PySem.W.Frag) {tg l : Expr} {tl : TE} (hl : PE X l tl) (h : X.K = K := by rfl) : PI X tg l (iAny K tl) := by
  subst h
  refine ⟨fun pins s σ H R I h => ?_⟩
  refine thn (hl.run pins s σ H _ I h) fun v s1 ⟨x, H1, I1, r1, q1⟩ => ?_
  obtain ⟨a, e, q⟩ := q1
  subst e
  cases r1
  rcases q with ⟨⟨xs, hq⟩, q⟩ | ⟨⟨xs, hq⟩, q⟩
  · obtain ⟨its, rv, p, hz⟩ := I1.list hq
    refine wpAny_pyIter_list p.isList ?_
    refine ⟨s1.heap.objs.size, [s1.heap.objs.size], _, _, H1, rfl, I1.kept (t' := s1.toks) fun b o e => Heap.get?_push_of_some _ e, turn_list a _, ⟨_, Heap.get?_push_size _ rfl, rfl, rfl⟩, fun b hb => ?_, q⟩
    have e : b = s1.heap.objs.size := by simpa using hb
    subst e
    exact I1.fpOk (Nat.le_refl _) (I1.hok.fresh (Nat.le_refl _))
  · obtain ⟨its, rv, p, hz⟩ := I1.tuple hq
    refine wpAny_pyIter_tuple (show s1.heap.IsTuple a its.toArray from p) ?_
    refine ⟨s1.heap.objs.size, [s1.heap.objs.size], _, _, H1, rfl, I1.kept (t' := s1.toks) fun b o e => Heap.get?_push_of_some _ e, turn_tuple a _, ⟨_, Heap.get?_push_size _ rfl, rfl, rfl⟩, fun b hb => ?_, q⟩
    have e : b = s1.heap.objs.size := by simpa using hb
    subst e
    exact I1.fpOk (Nat.le_refl _) (I1.hok.fresh (Nat.le_refl _))
/-- a comprehension over either, without a test: a new list of what each turn gives -/
theorem lc_any {K : PySem.W.Frag} {tl : TE} {a : Addr} {xs : List V} {g : TG} {te : TE} {vs : List Nat} {σ : L2.St} {H1 : Hp} {Qd : Addr → Hp → Prop} (ha : AnyS K H1 a xs) (htl : ∀ Q : VK, Q (.ref a) H1 → tl σ H1 Q) (out : Nat → V) (hn : xs.length ≤ 10000)
    (hs : ∀ D i x H (N : VK), H1 D = none → i < xs.length → Same H1 H → xs[i]? = some x → (∀ H2, Same H H2 → N (out i) H2) → g x (wipe σ vs) H fun σ2 H2 => wipe σ2 vs = wipe σ vs ∧ te σ2 H2 N)
    (hd : ∀ D H, H1 D = none → Same H1 H → H D = some (.lst ((List.range xs.length).map out)) → Qd D H) :
    iAny K tl σ H1 fun J H2 => ∀ D, H2 D = none → LcJ J g tYes te vs D σ H2 (Qd D) := by
  refine htl _ ⟨a, rfl, ?_⟩
  rcases ha with h | h
  · exact .inl ⟨⟨_, h⟩, fun D hD => lc_map walk_list out hn hD (fun H s => s.seq h) (fun i x H H' N hi s ⟨e, z⟩ ok => by subst e; exact hs D i x _ N hD hi s z ok) (hd D · hD)⟩
  · exact .inr ⟨⟨_, h⟩, fun D hD => lc_map walk_tup out hn hD (fun H s => sameT s h) (fun i x H H' N hi s ⟨e, z⟩ ok => by subst e; exact hs D i x _ N hD hi s z ok) (hd D · hD)⟩
theorem getD_at {a : List Bool} {x : Nat} (h : x < a.length) : a[x]? = some (a.getD x false) := by
  rw [List.getD_eq_getElem?_getD, List.getElem?_eq_getElem h]
  rfl
theorem natT_at {T : List (List Nat)} {i : Nat} {r : List Nat} (h : T[i]? = some r) : (natT T)[i]? = some (r.map fun (x : Nat) => (x : Int)) := by
  unfold natT
  rw [List.getElem?_map, h]
  rfl
theorem natT_nxt {T : List (List Nat)} {i j x : Nat} {r : List Nat} (h : T[i]? = some r) (hx : r[j]? = some x) : nxt (natT T) i j = x := by
  have e : (natT T).getD i [] = r.map fun (x : Nat) => (x : Int) := by
    rw [List.getD_eq_getElem?_getD, natT_at h]
    rfl
  unfold nxt
  rw [e, List.getD_eq_getElem?_getD, List.getElem?_map, hx]
  rfl
/-- a search that is over makes a machine -/
theorem mok_bfs {L : Type} [DecidableEq L] {g : L → Nat → L} {U : List L} {w : Nat} {l0 : L} {ls : List L} {T : List (List Nat)} {f : L → Bool} (hw : w ≤ 6) (bf : BfsI g U (2 ^ w) l0 ls T) (al : T.length = ls.length) (h4 : ls.length ≤ 400) (hf : ∀ l ∈ U, f l = f (g l 0)) : MOk w (natT T) (ls.map f) := by
  have h0 := (List.getElem?_eq_some_iff.mp bf.hd).1
  have ln : (natT T).length = T.length := by unfold natT; rw [List.length_map]
  refine ⟨hw, by omega, by omega, ?_, by rw [List.length_map]; omega, fun i hi => ?_⟩
  · unfold goodT
    rw [List.all_eq_true]
    intro r' hr'
    unfold natT at hr'
    obtain ⟨r, hr, rfl⟩ := List.mem_map.mp hr'
    obtain ⟨i, hi⟩ := List.mem_iff_getElem?.mp hr
    obtain ⟨h1, l, h2, h3⟩ := bf.rows i r hi
    unfold goodRow
    rw [Bool.and_eq_true, List.all_eq_true]
    refine ⟨decide_eq_true (by rw [List.length_map]; exact h1), fun x hx => ?_⟩
    obtain ⟨y, hy, rfl⟩ := List.mem_map.mp hx
    obtain ⟨j, hj⟩ := List.mem_iff_getElem?.mp hy
    have := (List.getElem?_eq_some_iff.mp (h3 j y hj)).1
    rw [Bool.and_eq_true]
    exact ⟨decide_eq_true (by omega), decide_eq_true (by omega)⟩
  · have hiT : T[i]? = some T[i] := List.getElem?_eq_getElem (by omega)
    obtain ⟨h1, l, h2, h3⟩ := bf.rows i _ hiT
    have hp : 0 < (T[i]'(by omega)).length := by rw [h1]; exact Nat.two_pow_pos w
    have hx0 : (T[i]'(by omega))[0]? = some (T[i]'(by omega))[0] := List.getElem?_eq_getElem hp
    rw [natT_nxt hiT hx0, List.getElem?_map, List.getElem?_map, h2, h3 0 _ hx0]
    show some (f l) = some (f (g l 0))
    rw [hf l (bf.sub l (List.mem_of_getElem? h2))]
/-- the row of a state of such a search -/
theorem bfs_row {L : Type} [DecidableEq L] {g : L → Nat → L} {U : List L} {n : Nat} {l0 : L} {ls : List L} {T : List (List Nat)} (bf : BfsI g U n l0 ls T) (al : T.length = ls.length) {i j : Nat} {l : L} (hl : ls[i]? = some l) (hj : j < n) : ∃ r x, T[i]? = some r ∧ r.length = n ∧ r[j]? = some x ∧ ls[x]? = some (g l j) ∧ nxt (natT T) i j = x := by
  have hi := (List.getElem?_eq_some_iff.mp hl).1
  have hiT : T[i]? = some (T[i]'(by omega)) := List.getElem?_eq_getElem (by omega)
  obtain ⟨h1, l', h2, h3⟩ := bf.rows i _ hiT
  rw [hl] at h2
  cases h2
  have hx : (T[i]'(by omega))[j]? = some ((T[i]'(by omega))[j]'(by omega)) := List.getElem?_eq_getElem (by omega)
  exact ⟨_, _, hiT, h1, hx, h3 j _ hx, natT_nxt hiT hx⟩
/-- the state behind a word has the label behind it -/
theorem bfs_run {L : Type} [DecidableEq L] {g : L → Nat → L} {U : List L} {n : Nat} {l0 : L} {ls : List L} {T : List (List Nat)} (bf : BfsI g U n l0 ls T) (al : T.length = ls.length) : ∀ (word : List Nat), (∀ l ∈ word, l < n) → ∀ (s : Nat) (l : L), ls[s]? = some l → ls[runT (natT T) s word]? = some (word.foldl g l)
  | [], _, _, _, h => h
  | x :: r, hw, s, l, h => by
    obtain ⟨_, y, _, _, _, h2, e⟩ := bfs_row bf al h (hw x List.mem_cons_self)
    show ls[runT (natT T) (nxt (natT T) s x) r]? = some (r.foldl g (g l x))
    rw [e]
    exact bfs_run bf al r (fun m hm => hw m (List.mem_cons_of_mem _ hm)) _ _ h2
theorem nc_K {CX : CXT} {P : Program} {w : World} {K : PySem.W.Frag} {mg : Str → Option Value} {base : Heap} {N : List Str} {F : NdefX.NF} {f : Addr} {A : Around} {outer : List Env} {s : Shared} {H : Hp} {E : XK} : (NdefX.ncx CX P w K mg base N F f A outer s H E).K = K := rfl
theorem nc_w {CX : CXT} {P : Program} {w : World} {K : PySem.W.Frag} {mg : Str → Option Value} {base : Heap} {N : List Str} {F : NdefX.NF} {f : Addr} {A : Around} {outer : List Env} {s : Shared} {H : Hp} {E : XK} : (NdefX.ncx CX P w K mg base N F f A outer s H E).w = w := rfl
theorem nc_prog {CX : CXT} {P : Program} {w : World} {K : PySem.W.Frag} {mg : Str → Option Value} {base : Heap} {N : List Str} {F : NdefX.NF} {f : Addr} {A : Around} {outer : List Env} {s : Shared} {H : Hp} {E : XK} : (NdefX.ncx CX P w K mg base N F f A outer s H E).prog = P := rfl
theorem same2 {H4 : Hp} {x dx : Addr} {o1 o2 : HO} (hx : H4 x = none) (hdx : H4 dx = none) : Same H4 (upd (upd H4 dx o1) x o2) := Dw.Same.new (same_upd hdx) hx
theorem same_mk {H H4 H' : Hp} {x dx : Addr} {o1 o2 : HO} (s : Same H H4) (hx : H4 x = none) (hdx : H4 dx = none) (b : But x (upd (upd H4 dx o1) x o2) H') : Same H H' := fun y o e => b y o (ne_of_none (s _ _ e) hx) (same2 hx hdx y o (s _ _ e))
theorem slL {X : Cx} (K : PySem.W.Frag) (h : X.K = K := by rfl) : SlR X (rSlL K) := h ▸ sl_list
end Dw
namespace Dw
open PySem PySem.Spec PyProof.Rows L2 SX
theorem inV_i (k : Int) : ∀ L : List Int, inV (.int k) (L.map V.int) = decide (k ∈ L)
  | [] => by simp [inV]
  | a :: L => by
    have ih := inV_i k L
    unfold inV at ih ⊢
    rw [List.map_cons, List.any_cons, ih]
    show (decide (a = k) || _) = _
    by_cases h : a = k
    · subst h; simp
    · have h' : ¬ k = a := fun e => h e.symm
      simp [h, h']
theorem flat_i (L : List Int) : (L.map V.int).all flatV = true := List.all_eq_true.mpr fun z hz => by
  obtain ⟨_, _, rfl⟩ := List.mem_map.mp hz
  rfl
/-- the word of some numbers, written with n letters -/
theorem wd_pad {ns : List Nat} {n : Nat} (h : bls ns ≤ n) : (List.range n).map (fun k => lo (bitAt ns k)) = wd ns ++ List.replicate (n - bls ns) 0 := by
  refine List.ext_getElem (by rw [List.length_map, List.length_range, List.length_append, wd_len, List.length_replicate]; omega) fun i p q => ?_
  rw [List.getElem_map, List.getElem_range]
  by_cases hi : i < bls ns
  · rw [List.getElem_append_left (by rw [wd_len]; exact hi)]
    unfold wd
    rw [List.getElem_map, List.getElem_range]
  · rw [List.getElem_append_right (by rw [wd_len]; omega), List.getElem_replicate]
    exact lo_bitAt_ge (by omega)
theorem takes_pad {w : Nat} {T : List (List Int)} {acc : List Bool} (k : MOk w T acc) {ns : List Nat} (hn : ns.length = w) {n : Nat} (h : bls ns ≤ n) : acc.getD (runT T 0 ((List.range n).map fun k => lo (bitAt ns k))) false = acc.getD (runT T 0 (wd ns)) false := by
  rw [wd_pad h, runT_app, List.getD_eq_getElem?_getD, List.getD_eq_getElem?_getD, k.zeros]
  exact runT_lt k.good _ _ (fun l hl => by have := wd_lt hl; rwa [hn] at this) k.pos
theorem bls_sub {a b : List Nat} (h : ∀ x ∈ a, x ∈ b) : bls a ≤ bls b := by
  by_cases ha : a = []
  · subst ha; exact Nat.zero_le _
  · obtain ⟨n, hn, e⟩ := bls_mem ha
    rw [← e]
    exact le_bls (h n hn)
end Dw
namespace Dw
open PySem PySem.Spec PyProof.Rows L2 SX
/-- the letters that have the digits of r on track t, and 0 on the others -/
def rwd (t n r : Nat) : List Nat := (List.range n).map fun j => wt 0 t (r / 2 ^ j % 2)
theorem rwd_succ (t n r : Nat) : rwd t (n + 1) r = wt 0 t (r % 2) :: rwd t n (r / 2) := by
  unfold rwd
  rw [List.range_succ_eq_map, List.map_cons, List.map_map, Nat.pow_zero, Nat.div_one]
  congr 1
  refine List.map_congr_left fun j _ => ?_
  show wt 0 t (r / 2 ^ (j + 1) % 2) = _
  rw [Nat.pow_succ, Nat.mul_comm, ← Nat.div_div_eq_div_mul]
theorem wt00 (t : Nat) : wt 0 t 0 = 0 := by unfold wt; simp
theorem rwd_lt {t n r w : Nat} (h : t < w) : ∀ l ∈ rwd t n r, l < 2 ^ w := fun l hl => by
  obtain ⟨j, _, rfl⟩ := List.mem_map.mp hl
  have e : wt 0 t (r / 2 ^ j % 2) = 2 ^ t * (r / 2 ^ j % 2) := by unfold wt; simp
  rw [e]
  have h1 : 2 ^ t < 2 ^ w := Nat.pow_lt_pow_right (by decide) h
  rcases Nat.mod_two_eq_zero_or_one (r / 2 ^ j) with z | z
  · rw [z, Nat.mul_zero]; exact Nat.two_pow_pos _
  · rw [z, Nat.mul_one]; exact h1
theorem rwd_more {t n r m : Nat} (h : r < 2 ^ n) : rwd t (n + m) r = rwd t n r ++ List.replicate m 0 := by
  refine List.ext_getElem (by simp [rwd]) fun i p q => ?_
  by_cases hi : i < n
  · rw [List.getElem_append_left (by simp [rwd]; exact hi)]
    simp [rwd]
  · rw [List.getElem_append_right (by simp [rwd]; omega), List.getElem_replicate]
    have : r / 2 ^ i = 0 := Nat.div_eq_of_lt (Nat.lt_of_lt_of_le h (Nat.pow_le_pow_right (by decide) (by omega)))
    simp [rwd, this, wt00]
section
variable {w : Nat} {T : List (List Int)} {acc : List Bool}
theorem rwd_acc (k : MOk w T acc) {t n r m q : Nat} (ht : t < w) (hq : q < T.length) (h : r < 2 ^ n) : acc.getD (runT T q (rwd t (n + m) r)) false = acc.getD (runT T q (rwd t n r)) false := by
  rw [rwd_more h, runT_app, List.getD_eq_getElem?_getD, List.getD_eq_getElem?_getD, k.zeros]
  exact runT_lt k.good _ _ (rwd_lt ht) hq
/-- the mark of a pair of a state and what is left of the number -/
def fL (T : List (List Int)) (acc : List Bool) (t : Nat) (l : List Int) : Bool := acc.getD (runT T (l.getD 0 0).toNat (rwd t 64 (l.getD 1 0).toNat)) false
def gF (T : List (List Int)) (t : Nat) (l : List Int) (j : Nat) : List Int := [((nxt T (l.getD 0 0).toNat (wt j t ((l.getD 1 0).toNat % 2)) : Nat) : Int), (((l.getD 1 0).toNat / 2 : Nat) : Int)]
theorem gF_at (T : List (List Int)) (t q r j : Nat) : gF T t [(q : Int), (r : Int)] j = [((nxt T q (wt j t (r % 2)) : Nat) : Int), ((r / 2 : Nat) : Int)] := rfl
theorem fL_at (T : List (List Int)) (acc : List Bool) (t q r : Nat) : fL T acc t [(q : Int), (r : Int)] = acc.getD (runT T q (rwd t 64 r)) false := rfl
def fixU (n num : Nat) : List (List Int) := (List.range n).flatMap fun a => (List.range 65).map fun k => [((a : Nat) : Int), ((num / 2 ^ k : Nat) : Int)]
theorem mem_fixU {n num : Nat} {l : List Int} : l ∈ fixU n num ↔ ∃ x k : Nat, x < n ∧ k < 65 ∧ l = [(x : Int), ((num / 2 ^ k : Nat) : Int)] := by
  unfold fixU
  rw [List.mem_flatMap]
  constructor
  · rintro ⟨x, hx, h⟩
    obtain ⟨y, hy, rfl⟩ := List.mem_map.mp h
    exact ⟨x, y, List.mem_range.mp hx, List.mem_range.mp hy, rfl⟩
  · rintro ⟨x, y, hx, hy, rfl⟩
    exact ⟨x, List.mem_range.mpr hx, List.mem_map.mpr ⟨y, List.mem_range.mpr hy, rfl⟩⟩
theorem fixU_len (n num : Nat) : (fixU n num).length = n * 65 := flat_const (fun a => by rw [List.length_map, List.length_range]) n
theorem wt_lt {j t v w : Nat} (hj : j < 2 ^ (w - 1)) (ht : t < w) (hv : v < 2) : wt j t v < 2 ^ w := by
  have hb : Bits ((bitsL j (w - 1)).take t ++ [v] ++ (bitsL j (w - 1)).drop t) := fun d hd => by
    rcases List.mem_append.mp hd with hd | hd
    · rcases List.mem_append.mp hd with hd | hd
      · exact bitsL_bits j (w - 1) d (List.mem_of_mem_take hd)
      · rw [List.mem_singleton.mp hd]; exact hv
    · exact bitsL_bits j (w - 1) d (List.mem_of_mem_drop hd)
  have := lo_lt hb
  rw [wt_lo hj (by omega)] at this
  refine Nat.lt_of_lt_of_le this (Nat.pow_le_pow_right (by decide) ?_)
  simp only [List.length_append, List.length_take, List.length_drop, bitsL_len, List.length_cons, List.length_nil]
  omega
theorem gF_in (k : MOk w T acc) {t num : Nat} (ht : t < w) (hn : num < 2 ^ 64) {l : List Int} (hl : l ∈ fixU T.length num) {j : Nat} (hj : j < 2 ^ (w - 1)) : gF T t l j ∈ fixU T.length num := by
  obtain ⟨x, i, hx, hi, rfl⟩ := mem_fixU.mp hl
  rw [gF_at]
  obtain ⟨_, _, _, h1⟩ := goodT_at k.good hx (wt_lt hj ht (Nat.mod_lt (num / 2 ^ i) (by decide)))
  refine mem_fixU.mpr ⟨_, min (i + 1) 64, h1, by omega, ?_⟩
  have e : num / 2 ^ i / 2 = num / 2 ^ (min (i + 1) 64) := by
    by_cases h : i < 64
    · rw [Nat.min_eq_left (by omega), Nat.pow_succ, Nat.div_div_eq_div_mul]
    · have : i = 64 := by omega
      subst this
      rw [Nat.div_eq_of_lt hn, Nat.min_eq_right (by omega), Nat.div_eq_of_lt hn]
  rw [e]
theorem fL_set (k : MOk w T acc) {t num : Nat} (ht : t < w) (hn : num < 2 ^ 64) {l : List Int} (hl : l ∈ fixU T.length num) : fL T acc t l = fL T acc t (gF T t l 0) := by
  obtain ⟨x, i, hx, hi, rfl⟩ := mem_fixU.mp hl
  obtain ⟨r, hr⟩ : ∃ r, r = num / 2 ^ i := ⟨_, rfl⟩
  have hr64 : r < 2 ^ 64 := by rw [hr]; exact Nat.lt_of_le_of_lt (Nat.div_le_self _ _) hn
  rw [← hr, gF_at, fL_at, fL_at, ← rwd_acc k (m := 1) ht hx hr64, rwd_succ]
  rfl
/-- the letters with the digits of the number put in -/
def zipw (t : Nat) (ls : List Nat) (r : Nat) : List Nat := (List.range ls.length).map fun j => wt (ls.getD j 0) t (r / 2 ^ j % 2)
theorem zipw_cons (t l : Nat) (ls : List Nat) (r : Nat) : zipw t (l :: ls) r = wt l t (r % 2) :: zipw t ls (r / 2) := by
  unfold zipw
  rw [List.length_cons, List.range_succ_eq_map, List.map_cons, List.map_map, Nat.pow_zero, Nat.div_one]
  congr 1
  refine List.map_congr_left fun j _ => ?_
  show wt (ls.getD j 0) t (r / 2 ^ (j + 1) % 2) = _
  rw [Nat.pow_succ, Nat.mul_comm, ← Nat.div_div_eq_div_mul]
theorem fold_gF (T : List (List Int)) (t : Nat) : ∀ (ls : List Nat) (q r : Nat), ls.foldl (gF T t) [(q : Int), (r : Int)] = [((runT T q (zipw t ls r) : Nat) : Int), ((r / 2 ^ ls.length : Nat) : Int)]
  | [], q, r => by
    show [(q : Int), (r : Int)] = [((q : Nat) : Int), ((r / 1 : Nat) : Int)]
    rw [Nat.div_one]
  | l :: ls, q, r => by
    rw [List.foldl_cons, gF_at, fold_gF T t ls, zipw_cons, List.length_cons, Nat.pow_succ, Nat.mul_comm, ← Nat.div_div_eq_div_mul]
    rfl
theorem lo_put {ns : List Nat} {t num : Nat} (ht : t ≤ ns.length) (k : Nat) : lo (bitAt (ns.take t ++ [num] ++ ns.drop t) k) = wt (lo (bitAt ns k)) t (num / 2 ^ k % 2) := by
  have hb := bitAt_bits ns k
  have h := lo_lt hb
  rw [bitAt_len] at h
  have e := bitsL_lo hb
  rw [bitAt_len] at e
  rw [← wt_lo h ht, e]
  unfold bitAt
  rw [List.map_append, List.map_append, List.map_take, List.map_drop]
  rfl
/-- what is taken with the number put in -/
theorem fix_run (k : MOk w T acc) {t num : Nat} (ht : t < w) (hn : num < 2 ^ 64) {ns : List Nat} (hl : ns.length + 1 = w) : fL T acc t ((wd ns).foldl (gF T t) [0, (num : Int)]) = acc.getD (runT T 0 (wd (ns.take t ++ [num] ++ ns.drop t))) false := by
  have e0 := fold_gF T t (wd ns) 0 num
  rw [show ((0 : Nat) : Int) = 0 from rfl] at e0
  rw [e0, fL_at, ← runT_app]
  have ew : zipw t (wd ns) num ++ rwd t 64 (num / 2 ^ (wd ns).length) = (List.range (bls ns + 64)).map fun j => lo (bitAt (ns.take t ++ [num] ++ ns.drop t) j) := by
    refine List.ext_getElem (by simp [zipw, rwd, wd_len]) fun i p q => ?_
    rw [List.getElem_map, List.getElem_range, lo_put (by omega)]
    by_cases hi : i < bls ns
    · rw [List.getElem_append_left (by simp [zipw, wd_len]; exact hi)]
      unfold zipw
      rw [List.getElem_map, List.getElem_range, List.getD_eq_getElem?_getD, wd_get hi]
      rfl
    · rw [List.getElem_append_right (by simp [zipw, wd_len]; omega)]
      simp only [rwd, zipw, List.getElem_map, List.getElem_range, List.length_map, List.length_range, wd_len]
      rw [Nat.div_div_eq_div_mul, ← Nat.pow_add, show bls ns + (i - bls ns) = i by omega, lo_bitAt_ge (by omega)]
  rw [ew]
  refine takes_pad k ?_ (bls_le fun x hx => ?_)
  · simp only [List.length_append, List.length_take, List.length_drop, List.length_cons, List.length_nil]
    omega
  · have h2 : ∀ y ∈ ns, y < 2 ^ (bls ns + 64) := fun y hy => Nat.lt_of_lt_of_le (lt_blen y) (Nat.pow_le_pow_right (by decide) (Nat.le_trans (le_bls hy) (Nat.le_add_right _ _)))
    rcases List.mem_append.mp hx with hx | hx
    · rcases List.mem_append.mp hx with hx | hx
      · exact h2 x (List.mem_of_mem_take hx)
      · rw [List.mem_singleton.mp hx]
        exact Nat.lt_of_lt_of_le hn (Nat.pow_le_pow_right (by decide) (Nat.le_add_left _ _))
    · exact h2 x (List.mem_of_mem_drop hx)
end
/-! what is raised behind a def that was made -/
def RzX (TBL : List NdefX.NTab) (C : Addr) (f : Str) (v : V) (H : Hp) (E : XK) : Prop := ∀ d H', ExtT H H' → NdefX.TabsN TBL H' → H d = none → H' d = some (.xd [(f, v)]) → E (.ref C) (some d) H'
theorem RzX.rz {TBL : List NdefX.NTab} {C : Addr} {f : Str} {v : V} {H H1 : Hp} {E : XK} (h : RzX TBL C f v H E) (x : ExtT H H1) (t : NdefX.TabsN TBL H1) : Rz C f v H1 E := fun d H' s n z => h d H' (x.trans (ExtT.of s)) (t.ext s) (x.free _ n) z
theorem RzX.ext {TBL : List NdefX.NTab} {C : Addr} {f : Str} {v : V} {H H1 : Hp} {E : XK} (h : RzX TBL C f v H E) (x : ExtT H H1) : RzX TBL C f v H1 E := fun d H' s t n z => h d H' (x.trans s) t (x.free _ n) z
theorem tabsN_but {TBL : List NdefX.NTab} {H H' : Hp} {p : Addr} {xs : List V} (h : NdefX.TabsN TBL H) (b : But p H H') (hp : H p = some (.lst xs)) : NdefX.TabsN TBL H' := fun q hq => by
  obtain ⟨ps, h1, h2, h3⟩ := h q hq
  refine ⟨ps, b _ _ (ne_of h1 hp (fun z => nomatch z)) h1, h2, fun pos cv hc => ?_⟩
  obtain ⟨c, e1, e2⟩ := h3 pos cv hc
  exact ⟨c, e1, b _ _ (ne_of e2 hp (fun z => nomatch z)) e2⟩
end Dw
namespace Dw
open PySem PySem.Spec PyProof.Rows L2 SX
/-! {e for x in xs for y in ys}: a set of ints made by two clauses -/
abbrev Sc2 (el ta ia tb ib : Expr) (fa fb : List Expr) (sc : Scope) (ps : Pos) : Expr := .SetComp el [⟨ta, ia, fa, 0⟩, ⟨tb, ib, fb, 0⟩] sc ps
/-- the tests of a clause -/
abbrev tsF (fs : List Expr) (en : Env) : Sem Bool := forIn fs true fun c b => if b = true then do let k ← isTrue c en (eval c en); pure (ForInStep.yield k) else pure (ForInStep.yield b)
abbrev nbF (P : Program) (w : World) (A : Around) (en : Env) (R : Result → Shared → Prop) := notedBy (model P w) A en fun x u => R (.error x) u
section
variable {P : Program} {w : World} {A : Around} {R : Result → Shared → Prop} {u : Shared} {el ta ia tb ib : Expr} {fa fb : List Expr} {sc : Scope} {ps : Pos} {it sv : Value} {en : Env}
theorem turnS0 (el ta ia tb ib : Expr) (fa fb : List Expr) (sc : Scope) (ps : Pos) (it sv : Value) (en : Env) : compTurn (Sc2 el ta ia tb ib fa fb sc ps) 0 it sv en = (do
      standAt ia.pos
      match ← pyNext it with
      | none => pure (.done .next)
      | some x =>
        letOwnedTupleGo ta it x
        assign ta en x
        let mut ok := true
        for c in fa do
          if ok then ok ← isTrue c en (eval c en)
        if ok then
          let ys ← eval ib en
          standAt ib.pos
          let ys ← foldedSetIterable ib en ys
          let _ ← runOwn (.compStart (Sc2 el ta ia tb ib fa fb sc ps) 1 (← holding [ys] (pyIter ys)) sv en) en
        again (.compLoop (Sc2 el ta ia tb ib fa fb sc ps) 0 it sv en)) := by rfl
theorem turnS1 (el ta ia tb ib : Expr) (fa fb : List Expr) (sc : Scope) (ps : Pos) (it sv : Value) (en : Env) : compTurn (Sc2 el ta ia tb ib fa fb sc ps) 1 it sv en = (do
      standAt ib.pos
      match ← pyNext it with
      | none => pure (.done .next)
      | some x =>
        letOwnedTupleGo tb it x
        assign tb en x
        let mut ok := true
        for c in fb do
          if ok then ok ← isTrue c en (eval c en)
        if ok then
          (do let y ← eval el en; standAt el.pos; let _ ← call (.builtin "set.add") [sv, y])
        again (.compLoop (Sc2 el ta ia tb ib fa fb sc ps) 1 it sv en)) := by rfl
/-- one turn of a clause: its next item stored, its tests asked; go is what a turn does then -/
def TurnS (P : Program) (w : World) (A : Around) (R : Result → Shared → Prop) (tg : Expr) (fs : List Expr) (it : Value) (en : Env) (nx go : Shared → Prop) (u : Shared) : Prop :=
  wpAny (model P w) A (pyNext it) (fun r u1 => match r with
    | none => R (.ok .next) u1
    | some x => wpAny (model P w) A (letOwnedTupleGo tg it x) (fun _ u2 => wpAny (model P w) A (assign tg en x) (fun _ u3 =>
        wpAny (model P w) A (tsF fs en) (fun b u4 => if b = true then go u4 else nx u4) (nbF P w A en R) u3) (nbF P w A en R) u2) (nbF P w A en R) u1) (nbF P w A en R) u
theorem loopS0 (hf : ∀ y, foldedSetIterable ib en y = pure y) (J : Nat → Shared → Prop)
    (turn : ∀ k u, J k u → TurnS P w A R ta fa it en (fun u' => ∃ j, j < k ∧ J j u') (fun u4 => wpAny (model P w) A (eval ib en) (fun y u5 => wpAny (model P w) A (pyIter y) (fun jt u6 =>
        codeAny (model P w) A (.compStart (Sc2 el ta ia tb ib fa fb sc ps) 1 jt sv en) (fun r u' => match r with
          | .ok _ => ∃ j, j < k ∧ J j u'
          | .error _ => False) u6) (nbF P w A en R) u5) (nbF P w A en R) u4) u)
    (k : Nat) (h : J k u) : codeAny (model P w) A (.compLoop (Sc2 el ta ia tb ib fa fb sc ps) 0 it sv en) R u := by
  refine codeAny_loop rfl J (fun k u hJ => ?_) k h
  show wpAny _ A ((compTurn (Sc2 el ta ia tb ib fa fb sc ps) 0 it sv en).onRaise (fun x => do noteFrame x en; theTreesLotGoes x)) _ _ u
  refine wpAny_noted ?_
  rw [turnS0]
  refine wpAny_bind (wpAny_standAt (wpAny_bind (wpAny_mono (turn k u hJ) (fun r u1 h1 => ?_) fun _ _ z => z)))
  match r, h1 with
  | none, h1 => exact wpAny_pure h1
  | some v, h1 =>
    refine wpAny_bind (wpAny_mono h1 (fun _ u2 h2 => wpAny_bind (wpAny_mono h2 (fun _ u3 h3 => wpAny_bind (wpAny_mono h3 (fun b u4 h4 => ?_) fun _ _ z => z)) fun _ _ z => z)) fun _ _ z => z)
    match b, h4 with
    | false, h4 => exact wpAny_pure ⟨rfl, h4⟩
    | true, h4 =>
      refine wpAny_bind (wpAny_mono h4 (fun y u5 h5 => ?_) fun _ _ z => z)
      refine wpAny_bind (wpAny_standAt (wpAny_bind (wpAny_of_eq (hf y) (wpAny_bind (wpAny_holding (wpAny_mono h5 (fun jt u6 h6 => wpAny_bind (wpAny_runOwn ?_)) fun _ _ z => z))))))
      rw [Around.mark_none]
      refine codeAny_mono h6 fun rs u' q => ?_
      match rs, q with
      | .error _, q => exact False.elim q
      | .ok _, q => first | exact wpAny_pure ⟨rfl, q⟩ | exact wpAny_bind (wpAny_pure (wpAny_pure ⟨rfl, q⟩))
theorem loopS1 (J : Nat → Shared → Prop)
    (turn : ∀ k u, J k u → TurnS P w A R tb fb it en (fun u' => ∃ j, j < k ∧ J j u') (fun u4 => wpAny (model P w) A (eval el en) (fun y u5 =>
        wpAny (model P w) A (call (.builtin "set.add") [sv, y]) (fun _ u' => ∃ j, j < k ∧ J j u') (nbF P w A en R) u5) (nbF P w A en R) u4) u)
    (k : Nat) (h : J k u) : codeAny (model P w) A (.compLoop (Sc2 el ta ia tb ib fa fb sc ps) 1 it sv en) R u := by
  refine codeAny_loop rfl J (fun k u hJ => ?_) k h
  show wpAny _ A ((compTurn (Sc2 el ta ia tb ib fa fb sc ps) 1 it sv en).onRaise (fun x => do noteFrame x en; theTreesLotGoes x)) _ _ u
  refine wpAny_noted ?_
  rw [turnS1]
  refine wpAny_bind (wpAny_standAt (wpAny_bind (wpAny_mono (turn k u hJ) (fun r u1 h1 => ?_) fun _ _ z => z)))
  match r, h1 with
  | none, h1 => exact wpAny_pure h1
  | some v, h1 =>
    refine wpAny_bind (wpAny_mono h1 (fun _ u2 h2 => wpAny_bind (wpAny_mono h2 (fun _ u3 h3 => wpAny_bind (wpAny_mono h3 (fun b u4 h4 => ?_) fun _ _ z => z)) fun _ _ z => z)) fun _ _ z => z)
    match b, h4 with
    | false, h4 => exact wpAny_pure ⟨rfl, h4⟩
    | true, h4 => exact wpAny_bind (wpAny_bind (wpAny_mono h4 (fun y u5 h5 => wpAny_bind (wpAny_standAt (wpAny_bind (wpAny_mono h5 (fun _ u6 h6 => wpAny_pure (wpAny_pure ⟨rfl, h6⟩)) fun _ _ z => z)))) fun _ _ z => z))
/-- the inner clause's start -/
theorem startS1 (h0 : codeAny (model P w) A (.compLoop (Sc2 el ta ia tb ib fa fb sc ps) 1 it sv en) R u)
    (h : wpAny (model P w) A (pyIter it) (fun jt u' => codeAny (model P w) A (.compLoop (Sc2 el ta ia tb ib fa fb sc ps) 1 jt sv en) R u') (nbF P w A en R) u) :
    codeAny (model P w) A (.compStart (Sc2 el ta ia tb ib fa fb sc ps) 1 it sv en) R u := by
  refine codeAny_of_tree ?_
  show wpAny _ _ ((compStart (Sc2 el ta ia tb ib fa fb sc ps) 1 it sv en).onRaise (fun x => do noteFrame x en; standAt theWindowsPlace)) _ _ u
  refine wpAny_notedAt ?_
  unfold compStart
  show wpAny _ _ (ask >>= _) _ _ u
  refine wpAny_bind (wpAny_askSetting (wpAny_ite ?_))
  split
  · first
      | exact wpAny_pure ⟨rfl, h0⟩
      | exact wpAny_bind (wpAny_pure (wpAny_pure ⟨rfl, h0⟩))
  · have q := wpAny_mono h (fun (jt : Value) u' (x : codeAny (model P w) A (.compLoop (Sc2 el ta ia tb ib fa fb sc ps) 1 jt sv en) R u') => x) fun _ _ z => z
    first
      | exact wpAny_bind (wpAny_rule (wpAny_bind (wpAny_standAt (wpAny_bind (wpAny_mono q (fun jt u' x => wpAny_pure (And.intro rfl x)) fun _ _ z => z)))))
      | (refine wpAny_bind (wpAny_rule ?_)
         show wpAny _ _ (standAt ib.pos >>= _) _ _ u
         exact wpAny_bind (wpAny_standAt (wpAny_bind (wpAny_mono q (fun jt u' x => wpAny_pure (And.intro rfl x)) fun _ _ z => z))))
end
/-- a loop by what holds at its turns -/
def LoopJ (J : It) (done : Hp → Prop) (step : V → Hp → (Hp → Prop) → Prop) (H0 : Hp) : Prop := ∃ W : Nat → Nat → Hp → Prop, (∃ m, W 0 m H0) ∧ ∀ i m H, W i m H →
  (J.stop i H ∧ done H) ∨ (J.go i H ∧ ∃ N : Hp → Prop, (∀ H', N H' → ∃ m', m' < m ∧ W (i + 1) m' H') ∧ ∀ x H', J.yld i H x H' → step x H' N)
/-- one more int in the set at D -/
def PutI (w : World) (D : Addr) (y : V) (H : Hp) (N : Hp → Prop) : Prop := ∃ (k : Int) (S : Int → Bool) (n : Nat), y = .int k ∧ H D = some (SetO w D S n) ∧ n + 1 < scanBound ∧ N (upd H D (SetO w D (fun j => S j || decide (j = k)) (if S k = true then n else n + 1)))
/-- the inner clause -/
def innerS (w : World) (wb : TI) (gb : TG) (ub : TT) (te : TE) (vb : List Nat) (D : Addr) (σ : L2.St) (H : Hp) (N : Hp → Prop) : Prop := wb σ H fun J H1 => LoopJ J N (fun x H2 N1 => gb x (wipe σ vb) H2 fun σ3 H3 => wipe σ3 vb = wipe σ vb ∧ ub σ3 H3 fun b H4 => if b = true then te σ3 H4 fun y H5 => PutI w D y H5 N1 else N1 H4) H1
/-- the whole loop, the new set at D -/
def ScJ (w : World) (J : It) (ga : TG) (ua : TT) (wb : TI) (gb : TG) (ub : TT) (te : TE) (va vb : List Nat) (D : Addr) (σ : L2.St) (H1 : Hp) (Qd : Hp → Prop) : Prop :=
  LoopJ J Qd (fun x H2 N => ga x (wipe σ va) H2 fun σ2 H3 => wipe σ2 va = wipe σ va ∧ ua σ2 H3 fun b H4 => if b = true then innerS w wb gb ub te vb D σ2 H4 N else N H4) (upd H1 D (SetO w D (fun _ => false) 0))
def tSc2 (w : World) (wa : TI) (ga : TG) (ua : TT) (wb : TI) (gb : TG) (ub : TT) (te : TE) (va vb : List Nat) : TE := fun σ H Q => wa σ H fun J H1 => ∀ D, H1 D = none → ScJ w J ga ua wb gb ub te va vb D σ H1 (Q (.ref D))
theorem tSc2_eq (w : World) (wa : TI) (ga : TG) (ua : TT) (wb : TI) (gb : TG) (ub : TT) (te : TE) (va vb : List Nat) (σ : L2.St) (H : Hp) (Q : VK) : tSc2 w wa ga ua wb gb ub te va vb σ H Q = wa σ H fun J H1 => ∀ D, H1 D = none → ScJ w J ga ua wb gb ub te va vb D σ H1 (Q (.ref D)) := rfl
section
variable {X : Cx}
theorem putI_ok {pins : List (Addr × Obj)} {σ : L2.St} {H : Hp} {u : Shared} {E : Value → Shared → Prop} {D : Addr} {y : V} {v : Value} {N : Hp → Prop} {Q : Shared → Prop} (iv : Inv X pins σ H u) (r : RelV y v) (h : PutI X.w D y H N) (hQ : ∀ u' H', Inv X pins σ H' u' → N H' → Q u') :
    wpAny (model X.prog X.w) X.A (call (.builtin "set.add") [.ref D, v]) (fun _ u' => Q u') E u := by
  obtain ⟨k, S, n, rfl, hD, hn, q⟩ := h
  obtain ⟨tk, rfl⟩ := (show ∃ tk, v = Value.int k tk from r)
  refine setR_add (setO_get iv hD) hn fun h' sb new => hQ _ _ ?_ q
  have alive : ∃ o, h'.get? D = some o := new.imp fun o z => z.choose_spec.choose_spec.choose_spec.1
  exact iv.write (e := D) (t' := u.toks + 1) (by rw [hD]; trivial) (.inl rfl) (fun b o nb ho => (sb.2 b nb).trans ho) alive (setO_new new)
/-- the block's own context -/
abbrev blkX (X : Cx) (sc : Scope) (u : Shared) (H : Hp) (C : Addr) (cl : List (Str × Addr)) (fp : List Addr) : Cx := X.blk u H sc (compEnvC sc cl C X.env) fp
variable {el ta ia tb ib : Expr} {fa fb : List Expr} {sc : Scope} {own : List (Str × Nat)} {vb : List Nat} {pos : Pos} {wa wb : TI} {ga gb : TG} {ua ub : TT} {te : TE}
theorem pe_sc2 (hc : X.calm = true) (hN : X.N.Nodup) (hi : PI X ta ia wa) (ok : BlkOk X.N X.env.scope sc own) (hv : ∀ i ∈ vb, i ∈ own.map (·.2))
    (hga : ∀ u H C cl fp, PG (blkX X sc u H C cl fp) ta ga) (hua : ∀ u H C cl fp, PTs (blkX X sc u H C cl fp) fa ua) (hib : ∀ u H C cl fp, PI (blkX X sc u H C cl fp) tb ib wb)
    (hgb : ∀ u H C cl fp, PG (blkX X sc u H C cl fp) tb gb) (hub : ∀ u H C cl fp, PTs (blkX X sc u H C cl fp) fb ub) (he : ∀ u H C cl fp, PE (blkX X sc u H C cl fp) el te)
    (hf : ∀ y, foldedSetIterable ia X.env y = pure y := by intro _; rfl) (hf1 : ∀ en y, foldedSetIterable ib en y = pure y := by intro _ _; rfl) :
    PE X (.SetComp el [⟨ta, ia, fa, 0⟩, ⟨tb, ib, fb, 0⟩] sc pos) (tSc2 X.w wa ga ua wb gb ub te (own.map (·.2)) vb) := by
  refine ⟨fun pins u σ H Q iv h => ?_⟩
  rw [PpSet.eval_SetComp]
  have caught : ∀ y ∈ sc.names, y.2 = .free → ∃ c, X.env.cells.lookup y.1 = some c := fun y hy e => (ok.free y hy e).elim (fun k => iv.ok.has _ (.inl k)) fun k => iv.ok.has _ (.inr k)
  refine wpAny_comprehension_free (use := none) rfl hf (closure_ok caught) ok.kind (fun y hy e => by rw [ok.uniq y hy, e])
    (thn (hi.run pins u σ H _ iv h) fun xv u1 hx => thn hx fun iw u2 hw => ?_)
  obtain ⟨it, fp, tn, J, G, rfl, iv2, T, lv2, fpk, q⟩ := hw
  refine PpSet.newSet_ok (newEnv_comp ?_)
  obtain ⟨D, hD⟩ : ∃ D, u2.heap.objs.size = D := ⟨_, rfl⟩
  rw [hD]
  have freeD : G D = none := iv2.hok.fresh (Nat.le_of_eq hD)
  obtain ⟨W, ⟨m0, w0⟩, turn⟩ := q D freeD
  -- the set stands
  obtain ⟨u3, hu3⟩ : ∃ u3, u3 = ({ u2 with heap := u2.heap.push { cls := .type "set", dict := none, data := .set #[] 0 (.fresh 0 0 (!X.w.params.followText "set-order")) } } : Shared) := ⟨_, rfl⟩
  have hp3 : u3.heap = u2.heap.push { cls := .type "set", dict := none, data := .set #[] 0 (.fresh 0 0 (!X.w.params.followText "set-order")) } := by rw [hu3]
  have grow : ∀ b o, u2.heap.get? b = some o → u3.heap.get? b = some o := fun b o e => by rw [hp3]; exact Heap.get?_push_of_some _ e
  obtain ⟨G3, hG3⟩ : ∃ G3, G3 = upd G D (SetO X.w D (fun _ => false) 0) := ⟨_, rfl⟩
  have iv3 : Inv X pins σ G3 u3 := by
    rw [hu3, hG3]
    refine iv2.laid (t' := u2.toks) (fun b o e => Heap.get?_push_of_some _ e) (Nat.le_of_eq hD) ?_
    rw [← hD]
    exact setO_new (setR_fresh X.w)
  have old : ∀ b ∈ fp, b < u2.heap.objs.size := fun b hb => (T.obj _ _ lv2 b hb).elim fun o z => Heap.lt_size z.1
  have fpk3 : ∀ b ∈ fp, FpOk X pins G3 b ∧ b < u3.heap.objs.size := fun b hb => by
    refine ⟨⟨?_, (fpk b hb).2⟩, by rw [hp3, Heap.size_push]; exact Nat.lt_succ_of_lt (old b hb)⟩
    rw [hG3, upd_ne (by rw [← hD]; exact Nat.ne_of_lt (old b hb))]
    exact (fpk b hb).1
  have lv3 : tn 0 u3.heap := T.keep _ _ _ lv2 fun b _ => grow b
  have iv4 := block_start iv3 ok hN fpk3
  rw [← hG3] at w0
  have none3 : ∀ b ∈ fp, G3 b = none := fun b hb => (fpk3 b hb).1.1
  rw [← hu3]
  obtain ⟨C, hC⟩ : ∃ C, u3.heap.objs.size = C := ⟨_, rfl⟩
  obtain ⟨cl, hcl⟩ : ∃ cl, cellsFrom (C + 1) sc.names (cloFrom X.env.cells sc.names []) = cl := ⟨_, rfl⟩
  rw [hC, hcl] at iv4
  show codeAny _ _ (.compStart (Sc2 el ta ia tb ib fa fb sc pos) 0 (.ref it) (.ref D) (compEnvC sc (cellsFrom (u3.heap.objs.size + 1) sc.names (cloFrom X.env.cells sc.names [])) u3.heap.objs.size X.env)) (compPost (model X.prog X.w) X.A X.xe none (EP X pins σ Q) (.ref D) u3.heap.objs.size) { u3 with heap := pushCells (u3.heap.push { cls := .type "dict", data := .dict #[] }) sc.names }
  rw [hC, hcl]
  obtain ⟨u4, hu4⟩ : ∃ u4, u4 = ({ u3 with heap := pushCells (u3.heap.push { cls := .type "dict", data := .dict #[] }) sc.names } : Shared) := ⟨_, rfl⟩
  rw [← hu4] at iv4 ⊢
  have lv4 : tn 0 u4.heap := T.keep _ _ _ lv3 fun b _ o e => by rw [hu4]; exact pushCells_keeps _ _ _ _ (Heap.get?_push_of_some _ e)
  have pga := hga u3 G3 C cl fp
  have pua := hua u3 G3 C cl fp
  have pib := hib u3 G3 C cl fp
  have pgb := hgb u3 G3 C cl fp
  have pub := hub u3 G3 C cl fp
  have pel := he u3 G3 C cl fp
  obtain ⟨ce, hce⟩ : ∃ ce, ce = compEnvC sc cl C X.env := ⟨_, rfl⟩
  have eB : blkX X sc u3 G3 C cl fp = X.blk u3 G3 sc ce fp := by rw [hce]
  rw [eB] at pga pua pib pgb pub pel
  rw [← hce] at iv4 ⊢
  have cloc : ce.locals = C := by rw [hce]; rfl
  obtain ⟨B, hB⟩ : ∃ B, B = X.blk u3 G3 sc ce fp := ⟨_, rfl⟩
  have stay : ∀ {σ' : L2.St} {H' : Hp} {u' : Shared}, Inv (X.blk u3 G3 sc ce fp) [] σ' H' u' → (∀ b ∈ fp, H' b = none) → ∀ b ∈ fp, FpOk (X.blk u3 G3 sc ce fp) [] H' b := fun {σ' H' u'} jv hn b hb =>
    ⟨hn b hb, (jv.ok.exf b hb).1, jv.ok.exfs b hb, .inl hb, fun x c e => (jv.ok.exf b hb).2 x c e, fun p hp => absurd (show p ∈ ([] : List (Addr × Obj)) ++ [] from hp) (by simp)⟩
  obtain ⟨St, hSt⟩ : ∃ St : Nat → Shared → Prop, St = fun n u' => ∃ i H', Inv (X.blk u3 G3 sc ce fp) [] (wipe σ (own.map (·.2))) H' u' ∧ tn i u'.heap ∧ (∀ b ∈ fp, H' b = none) ∧ W i n H' := ⟨_, rfl⟩
  have whole : codeAny (model X.prog X.w) X.A (.compLoop (Sc2 el ta ia tb ib fa fb sc pos) 0 (.ref it) (.ref D) ce) (compPost (model X.prog X.w) X.A X.xe none (EP X pins σ Q) (.ref D) C) u4 := by
    refine loopS0 (hf1 ce) St ?_ m0 (by rw [hSt]; exact ⟨0, G3, iv4, lv4, none3, w0⟩)
    intro n u5 h5
    rw [hSt] at h5
    obtain ⟨i, H5, iv5, lv5, n5, w5⟩ := h5
    unfold TurnS
    rcases turn i n H5 w5 with ⟨stop, over⟩ | ⟨go, Nx, hNx, step⟩
    · refine thnF (T.done (X.blk u3 G3 sc ce fp) rfl rfl rfl hc i [] u5 _ H5 (fun _ _ => False) iv5 (stay iv5 n5) lv5 stop) fun r u6 z => ?_
      obtain ⟨rfl, iv6⟩ := z
      have back : Inv X pins σ H5 u6 := iv3.call' (ch := fp) iv6.os iv6.base iv6.hok iv6.bare fun b hb => ⟨(fpk3 b hb).1.2.2.2.1, (fpk3 b hb).1.2.1, (fpk3 b hb).1.2.2.2.2.1, (fpk3 b hb).1.2.2.2.2.2⟩
      have noC : H5 C = none := by
        have z : H5 ce.locals = none := iv6.free
        rwa [cloc] at z
      obtain ⟨m, ns, _⟩ := iv6.loc
      have ns : u6.heap.Ns ce.locals m := ns
      rw [cloc] at ns
      refine ⟨m, ns, fun h'' sb => ?_⟩
      obtain ⟨f0, f1, f2, f3, f4, f5⟩ := iv3.fpOk (Nat.le_of_eq hC) noC
      exact ⟨.ref D, H5, back.turned (t' := u6.toks) (fun b o hb e => (sb.2 b hb).trans e) f0 f1 f3 f4 f5, rfl, over⟩
    · refine thnF (T.item (X.blk u3 G3 sc ce fp) rfl rfl rfl hc i [] u5 _ H5 (fun _ _ => False) iv5 (stay iv5 n5) lv5 go) fun r u6 z => ?_
      obtain ⟨xv6, rfl, h6⟩ := z
      refine thnF h6 fun _ u7 z => ?_
      obtain ⟨x, H7, iv7, r7, y7, lv7, n7⟩ := z
      have iv7' := iv7.pinned (stay iv7 n7) (T.obj _ _ lv7)
      refine thnF (pga.run _ u7 _ H7 x xv6 _ iv7' r7 (step x H7 y7)) fun _ u8 z => ?_
      obtain ⟨σ8, H8, iv8, sl8, q8⟩ := z
      refine thnF (pua.run _ u8 σ8 H8 _ iv8 q8) fun b u9 z => ?_
      obtain ⟨H9, iv9, q9⟩ := z
      have len8 : (wipe σ (own.map (·.2))).length = σ8.length := by rw [← sl8, wipe_length]
      have kn8 : ∀ (j : Nat) v, (wipe σ (own.map (·.2)))[j]? = some (some v) → σ8[j]? = some (some v) := fun j v e => by
        rw [← sl8] at e
        exact (wipe_some e).1
      have kn9 : ∀ (j : Nat) v, (wipe σ (own.map (·.2)))[j]? = some (some v) → (wipe σ8 vb)[j]? = some (some v) := fun j v e => by
        rw [← sl8] at e
        obtain ⟨e1, e2⟩ := wipe_some e
        rw [wipe_out fun z => e2 (hv j z)]
        exact e1
      -- back at the outer clause
      have again : ∀ {σ' : L2.St} {u' : Shared} {H' : Hp}, Inv (X.blk u3 G3 sc ce fp) ([] ++ pinsAt fp u7.heap) σ' H' u' → (wipe σ (own.map (·.2))).length = σ'.length → (∀ (j : Nat) v, (wipe σ (own.map (·.2)))[j]? = some (some v) → σ'[j]? = some (some v)) → Nx H' → ∃ j, j < n ∧ St j u' := fun {σ' u' H'} jv hl hk nx => by
        obtain ⟨m', hm, w'⟩ := hNx H' nx
        have held : ∀ b ∈ fp, ∀ o, u7.heap.get? b = some o → u'.heap.get? b = some o ∧ H' b = none := fun b hb o e => by
          have z := jv.pin (b, o) (List.mem_append_right _ (List.mem_append_right _ (mem_pinsAt hb e)))
          exact ⟨z.1, z.2.1⟩
        refine ⟨m', hm, ?_⟩
        rw [hSt]
        refine ⟨i + 1, H', (jv.unpinned (pins := [])).weak hl hk, T.keep _ _ _ lv7 fun b hb o e => (held b hb o e).1, fun b hb => ?_, w'⟩
        obtain ⟨o, e, _⟩ := T.obj _ _ lv7 b hb
        exact (held b hb o e).2
      match b, q9 with
      | false, q9 => exact again iv9 len8 kn8 q9
      | true, q9 =>
        refine thnF (pib.run _ u9 σ8 H9 _ iv9 q9) fun yv u10 hy => thnF hy fun jv u11 h11 => ?_
        obtain ⟨it1, fp1, tn1, J1, H11, rfl, iv11, T1, lv11, fpk11, W1, ⟨m1, w1⟩, turn1⟩ := h11
        have stay1 : ∀ {H' : Hp}, (∀ b ∈ fp1, H' b = none) → ∀ b ∈ fp1, FpOk (X.blk u3 G3 sc ce fp) ([] ++ pinsAt fp u7.heap) H' b := fun hn b hb => ⟨hn b hb, (fpk11 b hb).2⟩
        have inner : codeAny (model X.prog X.w) X.A (.compLoop (Sc2 el ta ia tb ib fa fb sc pos) 1 (.ref it1) (.ref D) ce) (fun r u' => match r with
            | .ok _ => ∃ j, j < n ∧ St j u'
            | .error _ => False) u11 := by
          refine loopS1 (fun k u' => ∃ j H', Inv (X.blk u3 G3 sc ce fp) ([] ++ pinsAt fp u7.heap) (wipe σ8 vb) H' u' ∧ tn1 j u'.heap ∧ (∀ b ∈ fp1, H' b = none) ∧ W1 j k H') ?_ m1 ⟨0, H11, iv11.weak (wipe_length _ _) (fun j v e => (wipe_some e).1), lv11, fun b hb => (fpk11 b hb).1, w1⟩
          rintro k u12 ⟨j, H12, iv12, lv12, n12, w12⟩
          unfold TurnS
          rcases turn1 j k H12 w12 with ⟨stop1, nx1⟩ | ⟨go1, Nx1, hNx1, step1⟩
          · refine thnF (T1.done (X.blk u3 G3 sc ce fp) rfl rfl rfl hc j _ u12 (wipe σ8 vb) H12 (fun _ _ => False) iv12 (stay1 n12) lv12 stop1) fun r u13 z => ?_
            obtain ⟨rfl, iv13⟩ := z
            exact again iv13 (len8.trans (wipe_length σ8 vb).symm) kn9 nx1
          · refine thnF (T1.item (X.blk u3 G3 sc ce fp) rfl rfl rfl hc j _ u12 (wipe σ8 vb) H12 (fun _ _ => False) iv12 (stay1 n12) lv12 go1) fun r u13 z => ?_
            obtain ⟨xv13, rfl, h13⟩ := z
            refine thnF h13 fun _ u14 z => ?_
            obtain ⟨x1, H14, iv14, r14, y14, lv14, n14⟩ := z
            have iv14' := iv14.pinned (stay1 n14) (T1.obj _ _ lv14)
            refine thnF (pgb.run _ u14 (wipe σ8 vb) H14 x1 xv13 _ iv14' r14 (step1 x1 H14 y14)) fun _ u15 z => ?_
            obtain ⟨σ15, H15, iv15, sl15, q15⟩ := z
            refine thnF (pub.run _ u15 σ15 H15 _ iv15 q15) fun b1 u16 z => ?_
            obtain ⟨H16, iv16, q16⟩ := z
            have again1 : ∀ {u' : Shared} {H' : Hp}, Inv (X.blk u3 G3 sc ce fp) (([] ++ pinsAt fp u7.heap) ++ pinsAt fp1 u14.heap) σ15 H' u' → Nx1 H' → ∃ m, m < k ∧ ∃ j H', Inv (X.blk u3 G3 sc ce fp) ([] ++ pinsAt fp u7.heap) (wipe σ8 vb) H' u' ∧ tn1 j u'.heap ∧ (∀ b ∈ fp1, H' b = none) ∧ W1 j m H' := fun {u' H'} jv nx => by
              obtain ⟨m', hm, w'⟩ := hNx1 H' nx
              have held : ∀ b ∈ fp1, ∀ o, u14.heap.get? b = some o → u'.heap.get? b = some o ∧ H' b = none := fun b hb o e => by
                have z := jv.pin (b, o) (List.mem_append_right _ (List.mem_append_right _ (mem_pinsAt hb e)))
                exact ⟨z.1, z.2.1⟩
              refine ⟨m', hm, j + 1, H', jv.unpinned.weak (by rw [← sl15, wipe_length]) (fun j v e => by rw [← sl15] at e; exact (wipe_some e).1), T1.keep _ _ _ lv14 fun b hb o e => (held b hb o e).1, fun b hb => ?_, w'⟩
              obtain ⟨o, e, _⟩ := T1.obj _ _ lv14 b hb
              exact (held b hb o e).2
            match b1, q16 with
            | false, q16 => exact again1 iv16 q16
            | true, q16 =>
              refine thnF (pel.run _ u16 σ15 H16 _ iv16 q16) fun z u17 hz => ?_
              obtain ⟨yv, H17, iv17, r17, put⟩ := hz
              exact putI_ok (X := X.blk u3 G3 sc ce fp) iv17 r17 put fun u' H' jv nx => again1 jv nx
        exact startS1 inner (T1.self X.A 0 _ _ _ lv11 inner)
  exact PpSet.codeAny_compStart_set whole (T.self X.A 0 _ _ _ lv4 whole)
end
/-- the set at D holds these so far -/
def HoldsI (w : World) (D : Addr) (out : Nat → Nat → Int) (m i j : Nat) (H : Hp) : Prop := ∃ (S : Int → Bool) (n : Nat), H D = some (SetO w D S n) ∧ (∃ ks : List Int, ks.Nodup ∧ ks.length = n ∧ ∀ k, k ∈ ks ↔ S k = true) ∧ n ≤ i * m + j ∧ ∀ k, S k = true ↔ ∃ a b, b < m ∧ (a < i ∨ (a = i ∧ b < j)) ∧ out a b = k
theorem HoldsI.put {w : World} {D : Addr} {out : Nat → Nat → Int} {m i j : Nat} {S : Int → Bool} {n : Nat} {H : Hp} (hj : j < m) (hks : ∃ ks : List Int, ks.Nodup ∧ ks.length = n ∧ ∀ k, k ∈ ks ↔ S k = true) (hn : n ≤ i * m + j) (hS : ∀ k, S k = true ↔ ∃ a b, b < m ∧ (a < i ∨ (a = i ∧ b < j)) ∧ out a b = k) : HoldsI w D out m i (j + 1) (upd H D (SetO w D (fun k => S k || decide (k = out i j)) (if S (out i j) = true then n else n + 1))) := by
  refine ⟨_, _, upd_same, ?_, by split <;> omega, fun k => ?_⟩
  · obtain ⟨ks, h1, h2, h3⟩ := hks
    by_cases hs : S (out i j) = true
    · refine ⟨ks, h1, by rw [if_pos hs]; exact h2, fun k => ?_⟩
      rw [h3, Bool.or_eq_true, decide_eq_true_eq]
      exact ⟨.inl, fun h => h.elim id fun e => by rw [e]; exact hs⟩
    · refine ⟨out i j :: ks, List.nodup_cons.mpr ⟨fun z => hs ((h3 _).mp z), h1⟩, by rw [if_neg hs, List.length_cons, h2], fun k => ?_⟩
      rw [List.mem_cons, h3, Bool.or_eq_true, decide_eq_true_eq, Or.comm]
  rw [Bool.or_eq_true, hS, decide_eq_true_eq]
  constructor
  · rintro (⟨a, b, h1, h2, h3⟩ | h)
    · exact ⟨a, b, h1, h2.imp id fun h => ⟨h.1, by omega⟩, h3⟩
    · exact ⟨i, j, hj, .inr ⟨rfl, by omega⟩, h.symm⟩
  · rintro ⟨a, b, h1, h2, h3⟩
    rcases h2 with h2 | ⟨rfl, h2⟩
    · exact .inl ⟨a, b, h1, .inl h2, h3⟩
    · by_cases e : b = j
      · subst e; exact .inr h3.symm
      · exact .inl ⟨a, b, h1, .inr ⟨rfl, by omega⟩, h3⟩
theorem HoldsI.row {w : World} {D : Addr} {out : Nat → Nat → Int} {m i : Nat} {H : Hp} (h : HoldsI w D out m i m H) : HoldsI w D out m (i + 1) 0 H := by
  obtain ⟨S, n, h1, h0, h2, h3⟩ := h
  refine ⟨S, n, h1, h0, by rw [Nat.succ_mul]; omega, fun k => ?_⟩
  rw [h3]
  constructor
  · rintro ⟨a, b, q1, q2, q3⟩; exact ⟨a, b, q1, .inl (by omega), q3⟩
  · rintro ⟨a, b, q1, q2, q3⟩
    refine ⟨a, b, q1, ?_, q3⟩
    by_cases e : a < i
    · exact .inl e
    · exact .inr ⟨by omega, q1⟩
/-- over two walks that leave what stood before -/
theorem sc2_ints {w : World} {J : It} {n m : Nat} {Ga : Hp → Prop} {Ya : Nat → Hp → V → Hp → Prop} (wk : Walk J n Ga Ya) {ga gb : TG} {wb : TI} {te : TE} {va vb : List Nat} {σ : L2.St} {H1 : Hp} {D : Addr} {Qd : Hp → Prop} (hD : H1 D = none) (hG : ∀ H, Same H1 H → Ga H) (hnm : n * m ≤ 4000) (out : Nat → Nat → Int)
    (step : ∀ i x Ha Hb (L : L2.St → It → Hp → Prop), i < n → Same H1 Ha → Ya i Ha x Hb → (∀ σ2 Jb Gb Yb H5, Same Ha H5 → Walk Jb m Gb Yb → (∀ H, Same H1 H → Gb H) →
        (∀ j y Hc Hd (N : VK), j < m → Same H1 Hc → Yb j Hc y Hd → (∀ H7, Same Hc H7 → N (.int (out i j)) H7) → gb y (wipe σ2 vb) Hd fun σ3 H6 => wipe σ3 vb = wipe σ2 vb ∧ te σ3 H6 N) → L σ2 Jb H5) →
      ga x (wipe σ va) Hb fun σ2 H3 => wipe σ2 va = wipe σ va ∧ wb σ2 H3 fun Jb H5 => L σ2 Jb H5)
    (hd : ∀ (H : Hp) (S : Int → Bool) (k : Nat) (ks : List Int), Same H1 H → H D = some (SetO w D S k) → ks.Nodup → ks.length = k → (∀ z : Int, z ∈ ks ↔ S z = true) → k ≤ n * m → (∀ z, S z = true ↔ ∃ a b, a < n ∧ b < m ∧ out a b = z) → Qd H) :
    ScJ w J ga tYes wb gb tYes te va vb D σ H1 Qd := by
  refine ⟨fun i k H => k = n - i ∧ i ≤ n ∧ Same H1 H ∧ HoldsI w D out m i 0 H, ⟨n, by omega, Nat.zero_le _, same_upd hD, _, 0, upd_same, ⟨[], List.nodup_nil, rfl, fun k => ⟨fun h => (nomatch h), fun h => (nomatch h)⟩⟩, Nat.zero_le _, fun z => ⟨fun h => (nomatch h), fun ⟨a, b, _, h, _⟩ => by omega⟩⟩, ?_⟩
  rintro i k H ⟨rfl, hi, sH, hH⟩
  by_cases hlt : i < n
  · refine .inr ⟨wk.goes i H hlt (hG H sH), fun H' => Same H1 H' ∧ HoldsI w D out m (i + 1) 0 H', fun H' h' => ⟨n - (i + 1), by omega, rfl, by omega, h'.1, h'.2⟩, fun x H' hy => ?_⟩
    have st := step i x H H' (fun σ2 Jb H5 => LoopJ Jb (fun H' => Same H1 H' ∧ HoldsI w D out m (i + 1) 0 H') (fun y Hc N1 => gb y (wipe σ2 vb) Hc fun σ3 H6 => wipe σ3 vb = wipe σ2 vb ∧ te σ3 H6 fun z H7 => PutI w D z H7 N1) H5) hlt sH (wk.yields i H x H' hlt (hG H sH) hy) ?_
    · exact st
    intro σ2 Jb Gb Yb H5 s5 wkb hGb hstep
    have hH5 : HoldsI w D out m i 0 H5 := by
      obtain ⟨S, q, e, r⟩ := hH
      exact ⟨S, q, s5 _ _ e, r⟩
    refine ⟨fun j k H => k = m - j ∧ j ≤ m ∧ Same H1 H ∧ HoldsI w D out m i j H, ⟨m, by omega, Nat.zero_le _, sH.trans s5, hH5⟩, ?_⟩
    rintro j k Hc ⟨rfl, hj, sc, hc⟩
    by_cases hjm : j < m
    · refine .inr ⟨wkb.goes j Hc hjm (hGb Hc sc), fun H' => Same H1 H' ∧ HoldsI w D out m i (j + 1) H', fun H' h' => ⟨m - (j + 1), by omega, rfl, by omega, h'.1, h'.2⟩, fun y Hd hy => ?_⟩
      refine hstep j y Hc Hd _ hjm sc (wkb.yields j Hc y Hd hjm (hGb Hc sc) hy) fun H7 s7 => ?_
      obtain ⟨S, q, e, hks, hq, hS⟩ := hc
      have hb : i * m + j < n * m := Nat.lt_of_lt_of_le (by rw [Nat.succ_mul]; omega : i * m + j < (i + 1) * m) (Nat.mul_le_mul_right m hlt)
      exact ⟨_, S, q, rfl, s7 _ _ e, Nat.lt_of_le_of_lt (by omega : q + 1 ≤ 4000) (by decide), Dw.Same.new (sc.trans s7) hD, HoldsI.put hjm hks hq hS⟩
    · have : j = m := by omega
      subst this
      exact .inl ⟨wkb.stops Hc (hGb Hc sc), sc, hc.row⟩
  · have : i = n := by omega
    subst this
    obtain ⟨S, q, e, ⟨ks, k1, k2, k3⟩, hq, hS⟩ := hH
    refine .inl ⟨wk.stops H (hG H sH), hd H S q ks sH e k1 k2 k3 (by omega) fun z => ?_⟩
    rw [hS]
    exact ⟨fun ⟨a, b, h1, h2, h3⟩ => ⟨a, b, by omega, h1, h3⟩, fun ⟨a, b, h1, h2, h3⟩ => ⟨a, b, h2, .inl h1, h3⟩⟩
end Dw
namespace Dw
open PySem PySem.Spec PyProof.Rows L2 SX
/-! any of a list of truth values -/
theorem anyQ {X : Cx} {K : PySem.W.Frag} (hc : X.calm = true := by rfl) (h : X.K = K := by rfl) : CallR X (.builtin "any") (rAny K) := h ▸ cr_any hc
/-! ascending lists -/
theorem asc_one : ∀ {a b : List Int}, a.Pairwise (· < ·) → b.Pairwise (· < ·) → (∀ k, k ∈ a ↔ k ∈ b) → a = b
  | [], [], _, _, _ => rfl
  | [], y :: b, _, _, h => nomatch (h y).mpr List.mem_cons_self
  | x :: a, [], _, _, h => nomatch (h x).mp List.mem_cons_self
  | x :: a, y :: b, ha, hb, h => by
    obtain ⟨ha1, ha2⟩ := List.pairwise_cons.mp ha
    obtain ⟨hb1, hb2⟩ := List.pairwise_cons.mp hb
    have exy : x = y := by
      rcases List.mem_cons.mp ((h x).mp List.mem_cons_self) with e | hx
      · exact e
      · rcases List.mem_cons.mp ((h y).mpr List.mem_cons_self) with e | hy
        · exact e.symm
        · have := ha1 y hy
          have := hb1 x hx
          omega
    subst exy
    refine congrArg (x :: ·) (asc_one ha2 hb2 fun k => ?_)
    constructor
    · intro hk
      rcases List.mem_cons.mp ((h k).mp (List.mem_cons_of_mem _ hk)) with e | q
      · have := ha1 k hk; omega
      · exact q
    · intro hk
      rcases List.mem_cons.mp ((h k).mpr (List.mem_cons_of_mem _ hk)) with e | q
      · have := hb1 k hk; omega
      · exact q
/-! sets of states -/
/-- the states below n with p, ascending -/
def setI (n : Nat) (p : Nat → Bool) : List Int := ((List.range n).filter p).map fun x => ((x : Nat) : Int)
theorem mem_setI {n : Nat} {p : Nat → Bool} {k : Int} : k ∈ setI n p ↔ ∃ x : Nat, x < n ∧ p x = true ∧ k = (x : Int) := by
  unfold setI
  rw [List.mem_map]
  constructor
  · rintro ⟨x, hx, rfl⟩
    obtain ⟨h1, h2⟩ := List.mem_filter.mp hx
    exact ⟨x, List.mem_range.mp h1, h2, rfl⟩
  · rintro ⟨x, h1, h2, rfl⟩
    exact ⟨x, List.mem_filter.mpr ⟨List.mem_range.mpr h1, h2⟩, rfl⟩
theorem memN_setI {n : Nat} {p : Nat → Bool} {x : Nat} : ((x : Nat) : Int) ∈ setI n p ↔ x < n ∧ p x = true := by
  rw [mem_setI]
  constructor
  · rintro ⟨y, h1, h2, e⟩
    have : x = y := by omega
    subst this
    exact ⟨h1, h2⟩
  · rintro ⟨h1, h2⟩; exact ⟨x, h1, h2, rfl⟩
theorem setI_asc (n : Nat) (p : Nat → Bool) : (setI n p).Pairwise (· < ·) := by
  unfold setI
  refine List.Pairwise.map _ (fun a b (h : a < b) => Int.ofNat_lt.mpr h) (List.Pairwise.filter _ List.pairwise_lt_range)
theorem setI_len (n : Nat) (p : Nat → Bool) : (setI n p).length ≤ n := by
  unfold setI
  rw [List.length_map]
  exact Nat.le_trans (List.length_filter_le _ _) (Nat.le_of_eq List.length_range)
theorem setI_congr {n : Nat} {p q : Nat → Bool} (h : ∀ x, x < n → p x = q x) : setI n p = setI n q := by
  unfold setI
  rw [List.filter_congr fun x hx => h x (List.mem_range.mp hx)]
/-- all sets of states below n -/
def subU : Nat → List (List Int)
  | 0 => [[]]
  | n + 1 => subU n ++ (subU n).map (· ++ [((n : Nat) : Int)])
theorem subU_len : ∀ n : Nat, (subU n).length = 2 ^ n
  | 0 => rfl
  | n + 1 => by
    unfold subU
    rw [List.length_append, List.length_map, subU_len n, Nat.pow_succ]
    omega
theorem setI_succ (n : Nat) (p : Nat → Bool) : setI (n + 1) p = setI n p ++ if p n = true then [((n : Nat) : Int)] else [] := by
  unfold setI
  rw [List.range_succ, List.filter_append, List.map_append]
  congr 1
  by_cases h : p n = true
  · rw [if_pos h, List.filter_cons_of_pos h]
    rfl
  · rw [if_neg h, List.filter_cons_of_neg h]
    rfl
theorem setI_subU : ∀ (n : Nat) (p : Nat → Bool), setI n p ∈ subU n
  | 0, _ => List.mem_singleton.mpr rfl
  | n + 1, p => by
    rw [setI_succ]
    unfold subU
    by_cases h : p n = true
    · rw [if_pos h]
      exact List.mem_append_right _ (List.mem_map.mpr ⟨_, setI_subU n p, rfl⟩)
    · rw [if_neg h, List.append_nil]
      exact List.mem_append_left _ (setI_subU n p)
theorem mem_subU : ∀ {n : Nat} {l : List Int}, l ∈ subU n → ∃ p, l = setI n p
  | 0, l, h => ⟨fun _ => false, by rw [List.mem_singleton.mp h]; rfl⟩
  | n + 1, l, h => by
    unfold subU at h
    rcases List.mem_append.mp h with h | h
    · obtain ⟨p, rfl⟩ := mem_subU h
      refine ⟨fun x => p x && decide (x ≠ n), ?_⟩
      rw [setI_succ, if_neg (by simp), List.append_nil]
      exact setI_congr fun x hx => by simp; omega
    · obtain ⟨l', h', rfl⟩ := List.mem_map.mp h
      obtain ⟨p, rfl⟩ := mem_subU h'
      refine ⟨fun x => p x || decide (x = n), ?_⟩
      rw [setI_succ, if_pos (by simp)]
      refine congrArg (· ++ _) (setI_congr fun x hx => ?_)
      rw [decide_eq_false (by omega), Bool.or_false]
theorem subU_lt {n : Nat} {l : List Int} (h : l ∈ subU n) {s : Int} (hs : s ∈ l) : ∃ x : Nat, x < n ∧ s = (x : Int) := by
  obtain ⟨p, rfl⟩ := mem_subU h
  obtain ⟨x, h1, _, e⟩ := mem_setI.mp hs
  exact ⟨x, h1, e⟩
theorem subU_le {n : Nat} {l : List Int} (h : l ∈ subU n) : l.length ≤ n := by
  obtain ⟨p, rfl⟩ := mem_subU h
  exact setI_len n p
theorem start_subU {n : Nat} (h : 0 < n) : [(0 : Int)] ∈ subU n := by
  have e : setI n (fun x => decide (x = 0)) = [(0 : Int)] := by
    refine asc_one (setI_asc _ _) (List.pairwise_singleton _ _) fun k => ?_
    rw [mem_setI, List.mem_singleton]
    constructor
    · rintro ⟨x, _, h2, rfl⟩
      have := of_decide_eq_true h2
      omega
    · rintro rfl
      exact ⟨0, h, rfl, rfl⟩
  rw [← e]
  exact setI_subU n _
/-- what a set leads to by a letter, with either digit on the track -/
def gW (T : List (List Int)) (t : Nat) (l : List Int) (j : Nat) : List Int := setI T.length fun g => l.any fun s => decide (nxt T s.toNat (wt j t 0) = g) || decide (nxt T s.toNat (wt j t 1) = g)
theorem mem_gW {T : List (List Int)} {t j : Nat} {l : List Int} {k : Int} : k ∈ gW T t l j ↔ ∃ s ∈ l, ∃ v, v < 2 ∧ nxt T s.toNat (wt j t v) < T.length ∧ ((nxt T s.toNat (wt j t v) : Nat) : Int) = k := by
  unfold gW
  rw [mem_setI]
  constructor
  · rintro ⟨x, hx, h, rfl⟩
    obtain ⟨s, hs, h⟩ := List.any_eq_true.mp h
    rw [Bool.or_eq_true, decide_eq_true_eq, decide_eq_true_eq] at h
    rcases h with h | h
    · exact ⟨s, hs, 0, by decide, by rw [h]; exact hx, by rw [h]⟩
    · exact ⟨s, hs, 1, by decide, by rw [h]; exact hx, by rw [h]⟩
  · rintro ⟨s, hs, v, hv, hx, rfl⟩
    refine ⟨_, hx, List.any_eq_true.mpr ⟨s, hs, ?_⟩, rfl⟩
    rw [Bool.or_eq_true, decide_eq_true_eq, decide_eq_true_eq]
    rcases (by omega : v = 0 ∨ v = 1) with rfl | rfl
    · exact .inl rfl
    · exact .inr rfl
theorem gW_in (T : List (List Int)) (t : Nat) (l : List Int) (j : Nat) : gW T t l j ∈ subU T.length := setI_subU _ _
end Dw
namespace Dw
open PySem PySem.Spec PyProof.Rows L2 SX
/-! dicts that number tuples of ints and bools: {}, len, setdefault -/
def bI : V → Option Int
  | .int i => some i
  | .bl b => some (if b = true then 1 else 0)
  | _ => none
/-- these values are these ints, True being 1 -/
def IntL (vs : List V) (k : List Int) : Prop := vs.map bI = k.map some
def nk (k : List Int) : NestedKey := .tup (k.map NestedKey.num)
theorem nk_inj {a b : List Int} (h : nk a = nk b) : a = b := by
  have : a.map NestedKey.num = b.map NestedKey.num := NestedKey.tup.inj h
  exact List.map_inj_right (fun x y e => NestedKey.num.inj e) |>.mp this
theorem nk_depth : ∀ k : List Int, NestedKey.depthAll (k.map NestedKey.num) = 0
  | [] => by simp [NestedKey.depthAll]
  | a :: k => by rw [List.map_cons, NestedKey.depthAll, nk_depth k]; simp [NestedKey.depth]
theorem nested_all {h : Heap} : ∀ {vs : List V} {its : List Value} {k : List Int}, Vals vs its → IntL vs k → NestedAll h (k.map NestedKey.num) its
  | [], _, [], r, _ => by cases r; exact .nil
  | [], _, _ :: _, _, e => nomatch e
  | v :: vs, _, [], _, e => nomatch e
  | v :: vs, _, i :: k, r, e => by
    cases r with
    | cons hv ht =>
      obtain ⟨e1, e2⟩ := List.cons.inj (show bI v :: vs.map bI = some i :: k.map some from e)
      refine .cons ?_ (nested_all ht e2)
      cases v with
      | int j =>
        obtain rfl : j = i := Option.some.inj e1
        obtain ⟨t, rfl⟩ := (show ∃ t, _ = Value.int j t from hv)
        exact .int j t
      | bl b =>
        have e1 : (if b = true then (1 : Int) else 0) = i := Option.some.inj e1
        obtain rfl := (show _ = Value.bool b from hv)
        exact .bool e1.symm
      | _ => cases e1
/-- the entries number the keys from k on -/
def RelS : Nat → List (List Int × Addr) → List (NestedKey × Addr × Value) → Prop
  | _, [], [] => True
  | k, l :: ls, v :: vs => (v.1 = nk l.1 ∧ v.2.1 = l.2) ∧ (∃ t, v.2.2 = .int ((k : Nat) : Int) t) ∧ RelS (k + 1) ls vs
  | _, _, _ => False
theorem RelS.len : ∀ {k : Nat} {ls : List (List Int × Addr)} {vs : List (NestedKey × Addr × Value)}, RelS k ls vs → vs.length = ls.length
  | _, [], [], _ => rfl
  | _, l :: ls, v :: vs, h => congrArg (· + 1) (RelS.len h.2.2)
  | _, [], _ :: _, h => h.elim
  | _, _ :: _, [], h => h.elim
theorem RelS.snoc : ∀ {k : Nat} {ls : List (List Int × Addr)} {vs : List (NestedKey × Addr × Value)} {l : List Int × Addr} {t : Tok}, RelS k ls vs → RelS k (ls ++ [l]) (vs ++ [(nk l.1, l.2, .int ((k + ls.length : Nat) : Int) t)])
  | _, [], [], l, t, _ => ⟨⟨rfl, rfl⟩, ⟨t, rfl⟩, True.intro⟩
  | k, x :: ls, v :: vs, l, t, h => by
    refine ⟨h.1, h.2.1, ?_⟩
    have q := RelS.snoc (l := l) (t := t) h.2.2
    rw [List.length_cons, show k + (ls.length + 1) = k + 1 + ls.length by omega]
    exact q
  | _, [], _ :: _, _, _, h => h.elim
  | _, _ :: _, [], _, _, h => h.elim
theorem RelS.mem : ∀ {k : Nat} {ls : List (List Int × Addr)} {vs : List (NestedKey × Addr × Value)}, RelS k ls vs → ∀ x ∈ vs, ∃ l ∈ ls, x.1 = nk l.1 ∧ x.2.1 = l.2
  | _, [], [], _, x, hx => nomatch hx
  | _, l :: ls, v :: vs, h, x, hx => by
    rcases List.mem_cons.mp hx with rfl | hx
    · exact ⟨l, List.mem_cons_self, h.1⟩
    · obtain ⟨l2, h2, h3⟩ := RelS.mem h.2.2 x hx
      exact ⟨l2, List.mem_cons_of_mem _ h2, h3⟩
  | _, [], _ :: _, h, _, _ => h.elim
  | _, _ :: _, [], h, _, _ => h.elim
theorem atKey_cons {v : NestedKey × Addr × Value} {vs : List (NestedKey × Addr × Value)} {q : NestedKey} : atKey (v :: vs) q = if v.1 = q then some v.2 else atKey vs q := by
  unfold atKey
  rw [List.find?_cons]
  by_cases h : v.1 = q
  · rw [if_pos h, decide_eq_true h]; rfl
  · rw [if_neg h, decide_eq_false h]
theorem RelS.at_ : ∀ {k : Nat} {ls : List (List Int × Addr)} {vs : List (NestedKey × Addr × Value)} {l : List Int} {p : Addr × Value}, RelS k ls vs → atKey vs (nk l) = some p → ∃ (i : Nat) (t : Tok), (ls.map (·.1))[i]? = some l ∧ p.2 = .int ((k + i : Nat) : Int) t
  | _, [], [], _, _, _, m => nomatch m
  | k, x :: ls, v :: vs, l, p, h, m => by
    rw [atKey_cons] at m
    by_cases e : v.1 = nk l
    · rw [if_pos e] at m
      obtain ⟨t, ht⟩ := h.2.1
      have e2 : x.1 = l := nk_inj (h.1.1.symm.trans e)
      exact ⟨0, t, by rw [List.map_cons, e2]; rfl, by rw [← Option.some.inj m, ht]; rfl⟩
    · rw [if_neg e] at m
      obtain ⟨i, t, h1, h2⟩ := RelS.at_ h.2.2 m
      exact ⟨i + 1, t, h1, by rw [h2, show k + 1 + i = k + (i + 1) by omega]⟩
  | _, [], _ :: _, _, _, h, _ => h.elim
  | _, _ :: _, [], _, _, h, _ => h.elim
theorem RelS.no : ∀ {k : Nat} {ls : List (List Int × Addr)} {vs : List (NestedKey × Addr × Value)} {l : List Int}, RelS k ls vs → atKey vs (nk l) = none → l ∉ ls.map (·.1)
  | _, [], [], _, _, _ => fun h => nomatch h
  | k, x :: ls, v :: vs, l, h, m => by
    rw [atKey_cons] at m
    by_cases e : v.1 = nk l
    · rw [if_pos e] at m; cases m
    · rw [if_neg e] at m
      intro hm
      rcases List.mem_cons.mp (show l ∈ x.1 :: ls.map (·.1) from hm) with h2 | h2
      · exact e (by rw [h.1.1, h2])
      · exact RelS.no h.2.2 m h2
  | _, [], _ :: _, _, h, _ => h.elim
  | _, _ :: _, [], _, h, _ => h.elim
/-- at a: the dict that numbers these keys; its own object alone -/
def NumSAt (P : Program) (w : World) (a : Addr) (ks : List (List Int × Addr)) (h : Heap) : Prop := (a == sysModules) = false ∧ ks.length ≤ 1000 ∧ ∃ xs o es ep, RelS 0 ks xs ∧ h.get? a = some o ∧ o.ExactDict ∧ o.data = .dict es ep ∧ es.toList = xs.map (entryOfKey (nestedKind P w)) ∧ (xs.map (·.1)).Nodup
def NumS (P : Program) (w : World) (a : Addr) (ks : List (List Int × Addr)) : HO := .ext fun h => NumSAt P w a ks h
/-- the keys are there -/
def KeysT (H : Hp) (ks : List (List Int × Addr)) : Prop := ∀ k ∈ ks, ∃ vs, H k.2 = some (.tup vs) ∧ IntL vs k.1
section
variable {P : Program} {w : World} {H : Hp} {h : Heap} {a : Addr} {ks : List (List Int × Addr)}
theorem numS_new (R : NumSAt P w a ks h) : ObjOk P w H h a (NumS P w a ks) := by
  obtain ⟨h1, h2, xs, o, es, ep, r, ho, q⟩ := id R
  refine ⟨R, ⟨o, ho⟩, fun g1 g2 p k => ?_⟩
  obtain ⟨h1, h2, xs, o, es, ep, r, ho, q⟩ := p
  exact ⟨h1, h2, xs, o, es, ep, r, k _ ho, q⟩
theorem key_int {vs : List V} {k : List Int} {b : Addr} (ok : HOk P w H h) (e : H b = some (.tup vs)) (i : IntL vs k) : (nestedKind P w).is h (nk k) b := by
  obtain ⟨_, its, r, o, h1, h2, n, h3⟩ := (show ObjOk P w H h b (.tup vs) from ok b _ e)
  refine ⟨NestedIs.tup h1 h2 h3 (by simpa using nested_all r i), ?_⟩
  show NestedKey.depthAll (k.map NestedKey.num) + 1 ≤ 8
  rw [nk_depth]
  decide
end
section
variable {X : Cx} {pins : List (Addr × Obj)} {σ : L2.St} {H : Hp} {s : Shared} {a : Addr} {ks : List (List Int × Addr)}
theorem numS_get (I : Inv X pins σ H s) (e : H a = some (NumS X.prog X.w a ks)) (hk : KeysT H ks) : (a == sysModules) = false ∧ ks.length ≤ 1000 ∧ ∃ xs, RelS 0 ks xs ∧ s.heap.DictOfH (nestedKind X.prog X.w) a xs := by
  obtain ⟨h1, h2, xs, o, es, ep, r, ho, hx, hd, he, hn⟩ := (I.hok a _ e).1
  refine ⟨h1, h2, xs, r, o, es, ep, ho, hx, hd, he, fun x hx => ?_, hn⟩
  obtain ⟨l, hl, e1, e2⟩ := r.mem x hx
  obtain ⟨vs, hv, hi⟩ := hk l hl
  rw [e1, e2]
  exact key_int I.hok hv hi
/-- {}, to number tuples -/
def tDNewS (P : Program) (w : World) : TE := fun _ H Q => ∀ p, H p = none → Q (.ref p) (upd H p (NumS P w p []))
theorem pe_dnewS {pos : Pos} : PE X (.Dict [] [] pos) (tDNewS X.prog X.w) := ⟨fun pins s σ H Q I h =>
  wpAny_Dict_empty ⟨.ref s.heap.objs.size, _, I.laid (a := s.heap.objs.size) (o := NumS X.prog X.w s.heap.objs.size []) (t' := s.toks) (fun _ _ q => Heap.get?_push_of_some _ q) (Nat.le_refl _)
    (numS_new ⟨beq_eq_false_iff_ne.mpr (Ne.symm (Nat.ne_of_lt I.big)), Nat.zero_le _, [], _, #[], 0, True.intro, Heap.get?_push_size _ rfl, ⟨rfl, rfl, rfl⟩, rfl, rfl, List.nodup_nil⟩), rfl, h _ (I.hok.fresh (Nat.le_refl _))⟩⟩
theorem len_body_raw {A : Around} {E : Value → Shared → Prop} {s : Shared} {d : Addr} {es : Array DictEntry} {ep : Nat} {P : Program} {w : World} {Q : Value → Shared → Prop} (hd : (d == sysModules) = false) (hm : s.heap.DictRaw d es ep) (hfit : (es.size : Int) < 2 ^ 63)
    (h : Q (.int es.size (s.toks + 1)) { s with toks := s.toks + 1 + 1 }) : wpAny (model P w) A (Builtin.«len» ⟨[.ref d], []⟩) (fun fin s' => ∃ r, fin = .done (.ret r) ∧ Q r s') E s := by
  unfold Builtin.«len»
  refine wpAny_bind (m := oneArg "len" _) (wpAny_pure ?_)
  refine wpAny_bind (m := callSpecial? (.ref d) (Str.ofString "__len__")) (wpAny_callSpecial?_slot (name := Str.ofString "__len__") hm.typeIs F.slot_dict_len
    (call_meetsIn F.slot_dict_len hm.typeIs F.entry_dict_len (F.args_dict_len_1 _) (meets_dict_len_raw d hd) ⟨es, ep, hm, ?_⟩))
  show wpAny _ _ _ _ _ { s with toks := s.toks + 1 }
  refine wpAny_bind (wpAny_holding (wpAny_pure ?_))
  refine wpAny_bind (wpAny_letGo ?_)
  show wpAny _ _ (if ((es.size : Nat) : Int) < 0 then _ else _) _ _ _
  rw [if_neg (by omega)]
  show wpAny _ _ (if ((es.size : Nat) : Int) ≥ 2 ^ 63 then _ else _) _ _ _
  rw [if_neg (by omega)]
  exact wpAny_bind (wpAny_mkInt (wpAny_pure ⟨_, rfl, h⟩))
/-- len of such a dict -/
def rLenNS (P : Program) (w : World) : List V → Hp → VK → Prop := fun xs H Q => ∃ p ks, xs = [.ref p] ∧ H p = some (NumS P w p ks) ∧ Q (.int ks.length) H
theorem lenNS : CallR X (.builtin "len") (rLenNS X.prog X.w) := by
  intro pins s σ H xs us Q I r h
  obtain ⟨p, ks, rfl, hd, q⟩ := h
  obtain ⟨u, rfl, rx⟩ := vals1 r
  cases rx
  obtain ⟨h1, h2, xs, o, es, ep, rl, ho, hx, hdat, he, hn⟩ := (I.hok p _ hd).1
  have e : es.size = ks.length := by rw [← rl.len]; exact size_of_entries he
  exact Calls.call_function_entry kind_len plain_len entry_len (args_len1 _) (len_body_raw h1 ⟨o, ho, hx, hdat⟩ (by omega) ⟨.int ks.length, H, (I.tok _), ⟨_, by rw [e]⟩, q⟩)
theorem d_setdS {A : Around} {E : Value → Shared → Prop} {k : List Int} {b : Addr} {vs : List V} {r : Value} {Q : Value → Shared → Prop} (hu : A.units + 64 < cLine) (I : Inv X pins σ H s) (ha : H a = some (NumS X.prog X.w a ks)) (hk : KeysT H ks) (hb : H b = some (.tup vs)) (hi : IntL vs k) (rr : RelV (nv ks.length) r) (hl : ks.length < 1000)
    (h1 : ∀ i : Nat, (ks.map (·.1))[i]? = some k → ∀ (w' : Value) (s' : Shared), Inv X pins σ H s' → RelV (nv i) w' → Q w' s')
    (h2 : k ∉ ks.map (·.1) → ∀ (w' : Value) (s' : Shared), Inv X pins σ (upd H a (NumS X.prog X.w a (ks ++ [(k, b)]))) s' → RelV (nv ks.length) w' → Q w' s') :
    wpAny (model X.prog X.w) A (call (.builtin "dict.setdefault") [.ref a, .ref b, r]) Q E s := by
  obtain ⟨t, rfl⟩ := (show ∃ t, r = Value.int ((ks.length : Nat) : Int) t from rr)
  obtain ⟨hd, hz, xs', rel, dd⟩ := numS_get I ha hk
  refine call_meetsIn PySem.F.slot_dict_setdefault dd.typeIs PySem.F.entry_dict_setdefault (PySem.F.args_dict_setdefault_3 _ _ _) (meetsH_dict_setdefault (nestedKind X.prog X.w) a b hd (.int ((ks.length : Nat) : Int) t))
    ⟨(show A.in1.units + 8 < cLine from ?_), nk k, xs', key_int I.hok hb hi, dd, by rw [rel.len, sizeLine_eq]; omega, fun p hp => ?_, fun hn h' dd' hs => ?_⟩
  · show A.units + 1 + 8 < cLine
    omega
  · obtain ⟨i, t2, e1, e2⟩ := rel.at_ hp
    rw [Nat.zero_add] at e2
    exact h1 i e1 _ _ (I.tok _) ⟨t2, e2⟩
  · have hno := rel.no hn
    rw [storedH_new hn] at dd'
    have q := rel.snoc (l := (k, b)) (t := t)
    rw [Nat.zero_add] at q
    obtain ⟨o, es, ep, ho, hx, hdat, he, _, hnd⟩ := dd'
    exact h2 hno _ _ (d_write I (by rw [ha]; exact True.intro) hs ⟨o, ho⟩ (numS_new ⟨hd, by rw [List.length_append]; show _ + 1 ≤ 1000; omega, _, o, es, ep, q, ho, hx, hdat, he, hnd⟩)) ⟨t, rfl⟩
/-- d.setdefault(a tuple, len(d)) -/
def tSetdS (P : Program) (w : World) (td ty tx : TE) : TE := fun σ H Q => td σ H fun x H1 => ∃ a ks0, x = .ref a ∧ H1 a = some (NumS P w a ks0) ∧ ty σ H1 fun y H2 => tx σ H2 fun z H3 => ∃ (ks : List (List Int × Addr)) (k : List Int) (b : Addr) (vs : List V), y = .ref b ∧ z = nv ks.length ∧ H3 a = some (NumS P w a ks) ∧ KeysT H3 ks ∧ H3 b = some (.tup vs) ∧ IntL vs k ∧ ks.length < 1000 ∧
  (∀ i : Nat, (ks.map (·.1))[i]? = some k → Q (nv i) H3) ∧ (k ∉ ks.map (·.1) → Q (nv ks.length) (upd H3 a (NumS P w a (ks ++ [(k, b)]))))
end
section
variable {X : Cx} {o e f : Expr} {td ty tx : TE} {apos cpos : Pos}
theorem pe_setdS (P : Program) (w : World) (hu : X.A.units + 64 < cLine) (ho : PE X o td) (he : PE X e ty) (hf : PE X f tx)
    (base : attributeBase o "setdefault" X.env (eval o X.env) = eval o X.env := by rfl)
    (few : ((backTo cpos (starEach [e, f] X.env)).all (fun x => !x.1) && (backToKw cpos (keywordEach [] X.env)).all (fun x => x.1.isSome)
      && decide (([e, f] : List Expr).length + ([] : List Keyword).length + (if ([] : List Keyword).isEmpty then 0 else 1) < 30)) = true := by rfl)
    (line : (apos.endLine == cpos.line) = true := by rfl)
    (trees : backTo cpos (starEach [e, f] X.env) = [(false, eval e X.env), (false, eval f X.env)] := by rfl) (h1 : X.prog = P := by rfl) (h2 : X.w = w := by rfl) :
    PE X (.Call (.Attribute o "setdefault" apos) [e, f] [] cpos) (tSetdS P w td ty tx) := by
  subst h1 h2
  refine ⟨fun pins s σ H Q I h => ?_⟩
  refine wpAny_Call_method base few line PySem.F.plainAttrs_dict PySem.F.slot_dict_setdefault PySem.F.type_dict_setdefault (thn (ho.run pins s σ H _ I h) fun u s1 ⟨x, H1, I1, rx, a, ks0, ex, d, q1⟩ => ?_)
  subst ex
  obtain rfl : u = Value.ref a := rx
  obtain ⟨_, _, _, o', _, _, _, ho', hx', _⟩ := (I1.hok a _ d).1
  refine ⟨⟨o', ho', hx'.1⟩, fun b q => ?_, ?_⟩
  · cases q
    exact ⟨o', ho', hx'.2.1⟩
  rw [trees]
  refine Calls.callWith_builtin rfl (Calls.evalArgs_plain (Calls.spliced_cons (thn (he.run pins s1 σ H1 _ I1 q1) fun iv s2 ⟨y, H2, I2, ry, q2⟩ =>
    Calls.spliced_cons (thn (hf.run pins s2 σ H2 _ I2 q2) fun fv s3 ⟨z, H3, I3, rz, ks, k, b, vs, ey, ez, ea, hk, hb, hi, hl, q3, q4⟩ => Calls.spliced_nil ?_))))
  subst ey ez
  cases ry
  exact d_setdS hu I3 ea hk hb hi rz hl (fun i e w' s4 I4 rw' => ⟨nv i, _, I4, rw', q3 i e⟩) fun hn w' s4 I4 rw' => ⟨nv ks.length, _, I4, rw', q4 hn⟩
theorem lenNSK (P : Program) (w : World) (h1 : X.prog = P := by rfl) (h2 : X.w = w := by rfl) : CallR X (.builtin "len") (rLenNS P w) := by subst h1 h2; exact lenNS
end
/-! the numbers of keys in the order of their first occurrence -/
section
variable {L : Type} [DecidableEq L]
def numF (ks : List L) : List L × List Nat := ks.foldl (fun p y => stepL y p) ([], [])
theorem numF_snoc (ks : List L) (k : L) : numF (ks ++ [k]) = stepL k (numF ks) := by unfold numF; rw [List.foldl_append]; rfl
theorem stepL_len (y : L) (p : List L × List Nat) : (stepL y p).2.length = p.2.length + 1 := by
  unfold stepL
  split <;> (rw [List.length_append]; rfl)
theorem stepL_le (y : L) (p : List L × List Nat) : (stepL y p).1.length ≤ p.1.length + 1 := by
  unfold stepL
  split
  · exact Nat.le_succ _
  · rw [List.length_append]; exact Nat.le_refl _
theorem numF_gen : ∀ (ks : List L) (p : List L × List Nat), (ks.foldl (fun p y => stepL y p) p).2.length = p.2.length + ks.length ∧ (ks.foldl (fun p y => stepL y p) p).1.length ≤ p.1.length + ks.length
  | [], p => ⟨rfl, Nat.le_refl _⟩
  | k :: ks, p => by
    obtain ⟨h1, h2⟩ := numF_gen ks (stepL k p)
    have h3 := stepL_len k p
    have h4 := stepL_le k p
    rw [List.foldl_cons, List.length_cons]
    exact ⟨by omega, by omega⟩
theorem numF_len (ks : List L) : (numF ks).2.length = ks.length := by
  have := (numF_gen ks ([], [])).1
  rw [List.length_nil, Nat.zero_add] at this
  exact this
theorem numF_le (ks : List L) : (numF ks).1.length ≤ ks.length := by
  have := (numF_gen ks ([], [])).2
  rw [List.length_nil, Nat.zero_add] at this
  exact this
end
end Dw
namespace Dw
open PySem PySem.Spec PyProof.Rows L2 SX
/-! numbers of first occurrence: what they say of the keys -/
section
variable {L : Type} [DecidableEq L]
/-- what holds of the keys and the numbers so far -/
structure NumI (ks : List L) (p : List L × List Nat) : Prop where
  nd : p.1.Nodup
  len : p.2.length = ks.length
  at_ : ∀ (i : Nat) (k : L), ks[i]? = some k → ∃ x, p.2[i]? = some x ∧ p.1[x]? = some k
  sur : ∀ x, x < p.1.length → ∃ i, p.2[i]? = some x ∧ i < ks.length
theorem NumI.step {ks : List L} {p : List L × List Nat} (h : NumI ks p) (k : L) : NumI (ks ++ [k]) (stepL k p) := by
  have hl : (stepL k p).2.length = (ks ++ [k]).length := by rw [stepL_len, h.len, List.length_append]; rfl
  by_cases hm : k ∈ p.1
  · obtain ⟨x, hx⟩ := List.mem_iff_getElem?.mp hm
    have est : stepL k p = (p.1, p.2 ++ [x]) := by unfold stepL; rw [if_pos hm, ix_at h.nd hx]
    rw [est] at hl ⊢
    refine ⟨h.nd, hl, fun i k' e => ?_, fun y hy => ?_⟩
    · by_cases hi : i < ks.length
      · rw [List.getElem?_append_left hi] at e
        obtain ⟨z, h1, h2⟩ := h.at_ i k' e
        exact ⟨z, by rw [List.getElem?_append_left (by rw [h.len]; exact hi)]; exact h1, h2⟩
      · rw [List.getElem?_append_right (by omega)] at e
        cases hk : i - ks.length with
        | zero =>
          rw [hk] at e
          cases e
          exact ⟨x, by rw [List.getElem?_append_right (by rw [h.len]; omega), h.len, hk]; rfl, hx⟩
        | succ j => rw [hk] at e; cases e
    · obtain ⟨i, h1, h2⟩ := h.sur y hy
      exact ⟨i, by rw [List.getElem?_append_left (by rw [h.len]; exact h2)]; exact h1, by rw [List.length_append]; omega⟩
  · have est : stepL k p = (p.1 ++ [k], p.2 ++ [p.1.length]) := by unfold stepL; rw [if_neg hm]
    rw [est] at hl ⊢
    refine ⟨snoc_nodup h.nd hm, hl, fun i k' e => ?_, fun y hy => ?_⟩
    · by_cases hi : i < ks.length
      · rw [List.getElem?_append_left hi] at e
        obtain ⟨z, h1, h2⟩ := h.at_ i k' e
        exact ⟨z, by rw [List.getElem?_append_left (by rw [h.len]; exact hi)]; exact h1, by rw [List.getElem?_append_left (List.getElem?_eq_some_iff.mp h2).1]; exact h2⟩
      · rw [List.getElem?_append_right (by omega)] at e
        cases hk : i - ks.length with
        | zero =>
          rw [hk] at e
          cases e
          exact ⟨p.1.length, by rw [List.getElem?_append_right (by rw [h.len]; omega), h.len, hk]; rfl, by rw [List.getElem?_append_right (Nat.le_refl _), Nat.sub_self]; rfl⟩
        | succ j => rw [hk] at e; cases e
    · rw [List.length_append, List.length_singleton] at hy
      by_cases hy2 : y < p.1.length
      · obtain ⟨i, h1, h2⟩ := h.sur y hy2
        exact ⟨i, by rw [List.getElem?_append_left (by rw [h.len]; exact h2)]; exact h1, by rw [List.length_append]; omega⟩
      · have : y = p.1.length := by omega
        subst this
        exact ⟨ks.length, by rw [List.getElem?_append_right (by rw [h.len]; exact Nat.le_refl _), h.len, Nat.sub_self]; rfl, by rw [List.length_append]; show ks.length < ks.length + 1; omega⟩
theorem numI_of (ks : List L) : NumI ks (numF ks) := by
  have : ∀ n, n ≤ ks.length → NumI (ks.take n) (numF (ks.take n)) := by
    intro n
    induction n with
    | zero => intro _; exact ⟨List.nodup_nil, rfl, (fun i k e => by rw [List.take_zero] at e; cases e), fun x hx => absurd hx (Nat.not_lt_zero _)⟩
    | succ n ih =>
      intro hn
      have e : ks.take (n + 1) = ks.take n ++ [ks[n]] := by rw [List.take_add_one, List.getElem?_eq_getElem (by omega)]; rfl
      rw [e, numF_snoc]
      exact (ih (by omega)).step _
  have h := this ks.length (Nat.le_refl _)
  rwa [List.take_length] at h
/-- the number of a place -/
def cN (ks : List L) (i : Nat) : Nat := (numF ks).2.getD i 0
theorem cN_at {ks : List L} {i : Nat} {k : L} (h : ks[i]? = some k) : (numF ks).2[i]? = some (cN ks i) ∧ (numF ks).1[cN ks i]? = some k := by
  obtain ⟨x, h1, h2⟩ := (numI_of ks).at_ i k h
  have e : cN ks i = x := by unfold cN; rw [List.getD_eq_getElem?_getD, h1]; rfl
  rw [e]
  exact ⟨h1, h2⟩
theorem cN_iff {ks : List L} {i j : Nat} {a b : L} (hi : ks[i]? = some a) (hj : ks[j]? = some b) : cN ks i = cN ks j ↔ a = b := by
  obtain ⟨_, h1⟩ := cN_at hi
  obtain ⟨_, h2⟩ := cN_at hj
  constructor
  · intro e; rw [e, h2] at h1; exact (Option.some.inj h1).symm
  · intro e
    subst e
    obtain ⟨p1, q1⟩ := List.getElem?_eq_some_iff.mp h1
    obtain ⟨p2, q2⟩ := List.getElem?_eq_some_iff.mp h2
    exact (List.getElem_inj (numI_of ks).nd).mp (q1.trans q2.symm)
/-- how many classes -/
def nC (ks : List L) : Nat := (numF ks).1.length
theorem cN_lt {ks : List L} {i : Nat} (h : i < ks.length) : cN ks i < nC ks := (List.getElem?_eq_some_iff.mp (cN_at (List.getElem?_eq_getElem h)).2).1
theorem nC_le (ks : List L) : nC ks ≤ ks.length := numF_le ks
end
/-- one partition is finer than another -/
def Finer {L M : Type} (ks' : List M) (ks : List L) : Prop := ks'.length = ks.length ∧ ∀ i j, i < ks.length → j < ks.length → ks'[i]? = ks'[j]? → ks[i]? = ks[j]?
section
variable {L M : Type} [DecidableEq L] [DecidableEq M]
/-- a place of each class -/
theorem rep_of (ks : List L) : ∃ f : Nat → Nat, ∀ x, x < nC ks → f x < ks.length ∧ cN ks (f x) = x := by
  have : ∀ x, ∃ i, x < nC ks → i < ks.length ∧ cN ks i = x := fun x => by
    by_cases h : x < nC ks
    · obtain ⟨i, h1, h2⟩ := (numI_of ks).sur x h
      exact ⟨i, fun _ => ⟨h2, by unfold cN; rw [List.getD_eq_getElem?_getD, h1]; rfl⟩⟩
    · exact ⟨0, fun z => absurd z h⟩
  exact ⟨fun x => (this x).choose, fun x => (this x).choose_spec⟩
theorem finer_le {ks' : List M} {ks : List L} (h : Finer ks' ks) : nC ks ≤ nC ks' := by
  obtain ⟨f, hf⟩ := rep_of ks
  have nd : ((List.range (nC ks)).map fun x => cN ks' (f x)).Nodup := by
    refine List.pairwise_map.mpr ?_
    refine List.Pairwise.imp_of_mem (R := (· < ·)) (fun {a b} ha hb hab e => ?_) List.pairwise_lt_range
    obtain ⟨a1, a2⟩ := hf a (List.mem_range.mp ha)
    obtain ⟨b1, b2⟩ := hf b (List.mem_range.mp hb)
    have e1 := (cN_iff (List.getElem?_eq_getElem (by rw [h.1]; exact a1)) (List.getElem?_eq_getElem (by rw [h.1]; exact b1))).mp e
    have e2 := h.2 (f a) (f b) a1 b1 (by rw [List.getElem?_eq_getElem (by rw [h.1]; exact a1), List.getElem?_eq_getElem (by rw [h.1]; exact b1), e1])
    rw [List.getElem?_eq_getElem a1, List.getElem?_eq_getElem b1] at e2
    have e3 := (cN_iff (List.getElem?_eq_getElem a1) (List.getElem?_eq_getElem b1)).mpr (Option.some.inj e2)
    omega
  have := nodup_le (U := List.range (nC ks')) nd fun y hy => by
    obtain ⟨x, hx, rfl⟩ := List.mem_map.mp hy
    exact List.mem_range.mpr (cN_lt (by rw [h.1]; exact (hf x (List.mem_range.mp hx)).1))
  rwa [List.length_map, List.length_range, List.length_range] at this
/-- as many classes: the same partition -/
theorem finer_eq {ks' : List M} {ks : List L} (h : Finer ks' ks) (hc : nC ks' ≤ nC ks) : Finer ks ks' := by
  obtain ⟨f, hf⟩ := rep_of ks
  have nd : ((List.range (nC ks)).map fun x => cN ks' (f x)).Nodup := by
    refine List.pairwise_map.mpr ?_
    refine List.Pairwise.imp_of_mem (R := (· < ·)) (fun {a b} ha hb hab e => ?_) List.pairwise_lt_range
    obtain ⟨a1, a2⟩ := hf a (List.mem_range.mp ha)
    obtain ⟨b1, b2⟩ := hf b (List.mem_range.mp hb)
    have e1 := (cN_iff (List.getElem?_eq_getElem (by rw [h.1]; exact a1)) (List.getElem?_eq_getElem (by rw [h.1]; exact b1))).mp e
    have e2 := h.2 (f a) (f b) a1 b1 (by rw [List.getElem?_eq_getElem (by rw [h.1]; exact a1), List.getElem?_eq_getElem (by rw [h.1]; exact b1), e1])
    rw [List.getElem?_eq_getElem a1, List.getElem?_eq_getElem b1] at e2
    have e3 := (cN_iff (List.getElem?_eq_getElem a1) (List.getElem?_eq_getElem b1)).mpr (Option.some.inj e2)
    omega
  -- each class of ks' has the place of a class of ks
  have sur : ∀ i, i < ks.length → ∃ x, x < nC ks ∧ cN ks' (f x) = cN ks' i := fun i hi => by
    refine Classical.byContradiction fun hno => ?_
    have nd2 : (((List.range (nC ks)).map fun x => cN ks' (f x)) ++ [cN ks' i]).Nodup := snoc_nodup nd fun hm => by
      obtain ⟨x, hx, e⟩ := List.mem_map.mp hm
      exact hno ⟨x, List.mem_range.mp hx, e⟩
    have := nodup_le (U := List.range (nC ks')) nd2 fun y hy => by
      rcases List.mem_append.mp hy with hy | hy
      · obtain ⟨x, hx, rfl⟩ := List.mem_map.mp hy
        exact List.mem_range.mpr (cN_lt (by rw [h.1]; exact (hf x (List.mem_range.mp hx)).1))
      · rw [List.mem_singleton.mp hy]
        exact List.mem_range.mpr (cN_lt (by rw [h.1]; exact hi))
    rw [List.length_append, List.length_map, List.length_range, List.length_range, List.length_singleton] at this
    omega
  have key : ∀ i, i < ks.length → cN ks' i = cN ks' (f (cN ks i)) := fun i hi => by
    obtain ⟨x, hx, e⟩ := sur i hi
    obtain ⟨a1, a2⟩ := hf x hx
    have e1 := (cN_iff (List.getElem?_eq_getElem (by rw [h.1]; exact a1)) (List.getElem?_eq_getElem (by rw [h.1]; exact hi))).mp e
    have e2 := h.2 (f x) i a1 hi (by rw [List.getElem?_eq_getElem (by rw [h.1]; exact a1), List.getElem?_eq_getElem (by rw [h.1]; exact hi), e1])
    rw [List.getElem?_eq_getElem a1, List.getElem?_eq_getElem hi] at e2
    have e3 := (cN_iff (List.getElem?_eq_getElem a1) (List.getElem?_eq_getElem hi)).mpr (Option.some.inj e2)
    rw [← e3, a2, e]
  refine ⟨h.1.symm, fun i j hi hj e => ?_⟩
  have hi' : i < ks.length := by rw [← h.1]; exact hi
  have hj' : j < ks.length := by rw [← h.1]; exact hj
  rw [List.getElem?_eq_getElem hi', List.getElem?_eq_getElem hj'] at e
  have e1 := (cN_iff (List.getElem?_eq_getElem hi') (List.getElem?_eq_getElem hj')).mpr (Option.some.inj e)
  have e2 : cN ks' i = cN ks' j := by rw [key i hi', key j hj', e1]
  have e3 := (cN_iff (List.getElem?_eq_getElem hi) (List.getElem?_eq_getElem hj)).mp e2
  rw [List.getElem?_eq_getElem hi, List.getElem?_eq_getElem hj, e3]
/-- the same partition has the same numbers -/
theorem same_num {ks' : List M} {ks : List L} (h : Finer ks' ks) (h' : Finer ks ks') : (numF ks').2 = (numF ks).2 := by
  have hl := h.1
  have main : ∀ n, n ≤ ks.length → (numF (ks'.take n)).2 = (numF (ks.take n)).2 ∧ (numF (ks'.take n)).1.length = (numF (ks.take n)).1.length := by
    intro n
    induction n with
    | zero => intro _; exact ⟨rfl, rfl⟩
    | succ n ih =>
      intro hn
      obtain ⟨i1, i2⟩ := ih (by omega)
      have hn' : n < ks'.length := by omega
      have hn2 : n < ks.length := by omega
      have e : ks.take (n + 1) = ks.take n ++ [ks[n]] := by rw [List.take_add_one, List.getElem?_eq_getElem hn2]; rfl
      have e' : ks'.take (n + 1) = ks'.take n ++ [ks'[n]] := by rw [List.take_add_one, List.getElem?_eq_getElem hn']; rfl
      rw [e, e', numF_snoc, numF_snoc]
      have I := numI_of (ks.take n)
      have I' := numI_of (ks'.take n)
      have tl : (ks.take n).length = n := by rw [List.length_take]; omega
      have tl' : (ks'.take n).length = n := by rw [List.length_take]; omega
      have mem_iff : ∀ {A : Type} [DecidableEq A] (as : List A) (hlt : n < as.length), as[n] ∈ (numF (as.take n)).1 ↔ ∃ j, j < n ∧ as[j]? = some as[n] := fun as hlt => by
        have J := numI_of (as.take n)
        have tla : (as.take n).length = n := by rw [List.length_take]; omega
        constructor
        · intro hm
          obtain ⟨x, hx⟩ := List.mem_iff_getElem?.mp hm
          obtain ⟨i, h1, h2⟩ := J.sur x (List.getElem?_eq_some_iff.mp hx).1
          rw [tla] at h2
          obtain ⟨y, hy⟩ : ∃ y, (as.take n)[i]? = some y := ⟨_, List.getElem?_eq_getElem (by omega)⟩
          obtain ⟨z, h3, h4⟩ := J.at_ i y hy
          rw [h1] at h3
          cases h3
          rw [hx] at h4
          cases h4
          rw [List.getElem?_take_of_lt h2] at hy
          exact ⟨i, h2, hy⟩
        · rintro ⟨j, hj, e⟩
          obtain ⟨z, h3, h4⟩ := J.at_ j as[n] (by rw [List.getElem?_take_of_lt hj]; exact e)
          exact List.mem_of_getElem? h4
      have hiff : ks'[n] ∈ (numF (ks'.take n)).1 ↔ ks[n] ∈ (numF (ks.take n)).1 := by
        rw [mem_iff ks' hn', mem_iff ks hn2]
        constructor
        · rintro ⟨j, hj, e⟩
          exact ⟨j, hj, by rw [← List.getElem?_eq_getElem hn2]; exact h.2 j n (by omega) hn2 (by rw [e, List.getElem?_eq_getElem hn'])⟩
        · rintro ⟨j, hj, e⟩
          exact ⟨j, hj, by rw [← List.getElem?_eq_getElem hn']; exact h'.2 j n (by omega) hn' (by rw [e, List.getElem?_eq_getElem hn2])⟩
      by_cases hm : ks[n] ∈ (numF (ks.take n)).1
      · have hm' := hiff.mpr hm
        obtain ⟨j, hj, ej⟩ := (mem_iff ks hn2).mp hm
        have ej' : ks'[j]? = some ks'[n] := by rw [← List.getElem?_eq_getElem hn']; exact h'.2 j n (by omega) hn' (by rw [ej, List.getElem?_eq_getElem hn2])
        obtain ⟨x, h1, h2⟩ := I.at_ j ks[n] (by rw [List.getElem?_take_of_lt hj]; exact ej)
        obtain ⟨x', h1', h2'⟩ := I'.at_ j ks'[n] (by rw [List.getElem?_take_of_lt hj]; exact ej')
        have ex : x' = x := by rw [i1, h1] at h1'; exact (Option.some.inj h1').symm
        have s1 : stepL ks[n] (numF (ks.take n)) = ((numF (ks.take n)).1, (numF (ks.take n)).2 ++ [x]) := by unfold stepL; rw [if_pos hm, ix_at I.nd h2]
        have s2 : stepL ks'[n] (numF (ks'.take n)) = ((numF (ks'.take n)).1, (numF (ks'.take n)).2 ++ [x']) := by unfold stepL; rw [if_pos hm', ix_at I'.nd h2']
        rw [s1, s2, ex]
        exact ⟨by rw [i1], i2⟩
      · have hm' : ¬ ks'[n] ∈ (numF (ks'.take n)).1 := fun z => hm (hiff.mp z)
        have s1 : stepL ks[n] (numF (ks.take n)) = ((numF (ks.take n)).1 ++ [ks[n]], (numF (ks.take n)).2 ++ [(numF (ks.take n)).1.length]) := by unfold stepL; rw [if_neg hm]
        have s2 : stepL ks'[n] (numF (ks'.take n)) = ((numF (ks'.take n)).1 ++ [ks'[n]], (numF (ks'.take n)).2 ++ [(numF (ks'.take n)).1.length]) := by unfold stepL; rw [if_neg hm']
        rw [s1, s2, i1, i2]
        exact ⟨rfl, by rw [List.length_append, List.length_append, i2]; rfl⟩
  have h := (main ks.length (Nat.le_refl _)).1
  rwa [List.take_length, ← hl, List.take_length] at h
end
/-! rounds -/
def sig0 (acc : List Bool) : List (List Int) := acc.map fun b => [if b = true then (1 : Int) else 0]
def sigN (T : List (List Int)) (c : List Nat) : List (List Int) := (List.range T.length).map fun s => ((c.getD s 0 : Nat) : Int) :: (T.getD s []).map fun q => ((c.getD q.toNat 0 : Nat) : Int)
def cls (T : List (List Int)) (acc : List Bool) : Nat → List Nat
  | 0 => (numF (sig0 acc)).2
  | i + 1 => (numF (sigN T (cls T acc i))).2
def sg (T : List (List Int)) (acc : List Bool) : Nat → List (List Int)
  | 0 => sig0 acc
  | i + 1 => sigN T (cls T acc i)
theorem cls_sg (T : List (List Int)) (acc : List Bool) (i : Nat) : cls T acc i = (numF (sg T acc i)).2 := by cases i <;> rfl
section
variable {T : List (List Int)} {acc : List Bool}
theorem sg_len (h : acc.length = T.length) (i : Nat) : (sg T acc i).length = T.length := by
  cases i with
  | zero => show (acc.map _).length = _; rw [List.length_map, h]
  | succ i => show ((List.range T.length).map _).length = _; rw [List.length_map, List.length_range]
theorem cls_len (h : acc.length = T.length) (i : Nat) : (cls T acc i).length = T.length := by rw [cls_sg, numF_len, sg_len h]
theorem cls_getD (T : List (List Int)) (acc : List Bool) (i s : Nat) : (cls T acc i).getD s 0 = cN (sg T acc i) s := by rw [cls_sg]; rfl
theorem sg_succ {i s : Nat} (hs : s < T.length) : (sg T acc (i + 1))[s]? = some (((cN (sg T acc i) s : Nat) : Int) :: (T.getD s []).map fun q => ((cN (sg T acc i) q.toNat : Nat) : Int)) := by
  show ((List.range T.length).map _)[s]? = _
  rw [List.getElem?_map, List.getElem?_range hs]
  simp only [Option.map_some, cls_getD]
theorem sg_finer (h : acc.length = T.length) (i : Nat) : Finer (sg T acc (i + 1)) (sg T acc i) := by
  refine ⟨by rw [sg_len h, sg_len h], fun s t hs ht e => ?_⟩
  rw [sg_len h] at hs ht
  rw [sg_succ hs, sg_succ ht] at e
  have e1 := Int.ofNat.inj (List.cons.inj (Option.some.inj e)).1
  have hs' : s < (sg T acc i).length := by rw [sg_len h]; exact hs
  have ht' : t < (sg T acc i).length := by rw [sg_len h]; exact ht
  rw [List.getElem?_eq_getElem hs', List.getElem?_eq_getElem ht']
  exact congrArg some ((cN_iff (List.getElem?_eq_getElem hs') (List.getElem?_eq_getElem ht')).mp e1)
theorem cls_more (h : acc.length = T.length) {i : Nat} (hne : cls T acc (i + 1) ≠ cls T acc i) : nC (sg T acc i) < nC (sg T acc (i + 1)) := by
  refine Classical.byContradiction fun hno => hne ?_
  have f := sg_finer h i
  rw [cls_sg, cls_sg]
  exact same_num f (finer_eq f (by omega))
theorem cls_bound (h : acc.length = T.length) (i : Nat) : nC (sg T acc i) ≤ T.length := by rw [← sg_len h i]; exact nC_le _
end
theorem pa_starK {X : Cx} {e : Expr} {es : List Expr} {te : TE} {t : TA} {p : Pos} (K : PySem.W.Frag) (he : PE X e te) (hr : PA X es t) (hs : starEach (.Starred e p :: es) X.env = (true, eval e X.env) :: starEach es X.env := by rfl) (h : X.K = K := by rfl) : PA X (.Starred e p :: es) (StX.tStar K te t) := by subst h; exact StX.pa_star he hr hs
/-! a comprehension of new objects -/
theorem lc_new {J : It} {n : Nat} {G : Hp → Prop} {Y : Nat → Hp → V → Hp → Prop} (w : Walk J n G Y) {g : TG} {te : TE} {vs : List Nat} {σ : L2.St} {H1 : Hp} {D : Addr} {Qd : Hp → Prop} (obj : Nat → HO) (hn : n ≤ 10000) (hD : H1 D = none)
    (hG : ∀ H, Same H1 H → G H)
    (hs : ∀ i x H H' (N : VK), i < n → Same H1 H → Y i H x H' → (∀ H2 b, Same H H2 → H b = none → H2 b = some (obj i) → N (.ref b) H2) → g x (wipe σ vs) H' fun σ2 H2 => wipe σ2 vs = wipe σ vs ∧ te σ2 H2 N)
    (hd : ∀ H (bs : List Addr), Same H1 H → bs.length = n → (∀ (i : Nat) b, bs[i]? = some b → H b = some (obj i) ∧ H1 b = none) → H D = some (.lst (bs.map V.ref)) → Qd H) : LcJ J g tYes te vs D σ H1 Qd := by
  refine lc_it w (fun i H => ∃ bs : List Addr, bs.length = i ∧ Same H1 H ∧ H D = some (.lst (bs.map V.ref)) ∧ ∀ (j : Nat) b, bs[j]? = some b → H b = some (obj j) ∧ H1 b = none ∧ b ≠ D) ⟨[], rfl, same_upd hD, upd_same, (fun _ _ h => nomatch h)⟩ (fun i H _ p => hG H p.choose_spec.2.1) (fun i x H H' hi p y => ?_) fun H p => ?_
  · obtain ⟨bs, hl, s1, hDl, hb⟩ := p
    refine hs i x H H' (fun y H4 => ∃ acc, H4 D = some (.lst acc) ∧ acc.length < sizeLine ∧ ∃ bs : List Addr, bs.length = i + 1 ∧ Same H1 (upd H4 D (.lst (acc ++ [y]))) ∧ (upd H4 D (.lst (acc ++ [y]))) D = some (.lst (bs.map V.ref)) ∧ ∀ (j : Nat) b, bs[j]? = some b → (upd H4 D (.lst (acc ++ [y]))) b = some (obj j) ∧ H1 b = none ∧ b ≠ D) hi s1 y fun H2 b s2 hbn hbo => ?_
    refine ⟨_, s2 _ _ hDl, by rw [List.length_map, hl]; exact smallt (by omega), bs ++ [b], by rw [List.length_append, hl]; rfl, Dw.Same.new (s1.trans s2) hD, by rw [upd_same, List.map_append]; rfl, fun j b' e => ?_⟩
    by_cases hj : j < bs.length
    · rw [List.getElem?_append_left hj] at e
      obtain ⟨h1, h2, h3⟩ := hb j b' e
      exact ⟨by rw [upd_ne h3]; exact s2 _ _ h1, h2, h3⟩
    · rw [List.getElem?_append_right (by omega)] at e
      cases hk : j - bs.length with
      | zero =>
        rw [hk] at e
        cases e
        have hbD : b ≠ D := (ne_of_none hDl hbn).symm
        exact ⟨by rw [upd_ne hbD, show j = i by omega]; exact hbo, s1.free hbn, hbD⟩
      | succ k => rw [hk] at e; cases e
  · obtain ⟨bs, hl, s1, hDl, hb⟩ := p
    exact hd H bs s1 hl (fun j b e => ⟨(hb j b e).1, (hb j b e).2.1⟩) hDl
theorem ints_eqvA : ∀ a b : List Int, PyData.eqvAll (a.map intD) (b.map intD) = decide (a = b)
  | [], [] => by simp [PyData.eqvAll]
  | [], _ :: _ => by simp [PyData.eqvAll]
  | _ :: _, [] => by simp [PyData.eqvAll]
  | x :: a, y :: b => by
    rw [List.map_cons, List.map_cons, PyData.eqvAll, ints_eqvA a b]
    have e : PyData.eqv (intD x) (intD y) = decide (x = y) := by
      unfold intD
      simp only [PyData.eqv]
      first | rfl | (by_cases h : x = y <;> simp [h])
    rw [e]
    by_cases h : x = y <;> by_cases h2 : a = b <;> simp [h, h2]
theorem nv_map (l : List Nat) : l.map nv = (l.map fun n => ((n : Nat) : Int)).map V.int := by rw [List.map_map]; rfl
/-- whether two lists of numbers are equal -/
theorem eqD_nats {K : PySem.W.Frag} {H : Hp} {p q : Addr} {a b : List Nat} {Q : VK} (h1 : H p = some (.lst (a.map nv))) (h2 : H q = some (.lst (b.map nv))) (h : Q (.bl (decide (a = b))) H) : rEqD K (.ref p) (.ref q) H Q := by
  rw [nv_map] at h1 h2
  refine ⟨_, _, .lst (SqL.of h1) (ints_dp _), .lst (SqL.of h2) (ints_dp _), ints_shaped _, ints_shaped _, ?_⟩
  have e : PyData.eqv (.list ((a.map fun n => ((n : Nat) : Int)).map intD)) (.list ((b.map fun n => ((n : Nat) : Int)).map intD)) = decide (a = b) := by
    simp only [PyData.eqv]
    rw [ints_eqvA]
    by_cases h : a = b
    · rw [h]; simp
    · rw [decide_eq_false h]
      exact decide_eq_false fun z => h ((List.map_inj_right (fun x y e => Int.ofNat.inj e)).mp z)
  rw [e]
  exact h
/-- the rounds are not more than the states -/
theorem cls_count {T : List (List Int)} {acc : List Bool} (h : acc.length = T.length) : ∀ i, (∀ j, j < i → cls T acc (j + 1) ≠ cls T acc j) → i ≤ nC (sg T acc i)
  | 0, _ => Nat.zero_le _
  | i + 1, hne => by
    have ih := cls_count h i fun j hj => hne j (Nat.lt_succ_of_lt hj)
    have := cls_more h (hne i (Nat.lt_succ_self i))
    omega
end Dw
namespace Dw
open PySem PySem.Spec PyProof.Rows L2 SX NdefX LamX
/-! a def within a def whose own names may be cells (a comprehension in it captures them) -/
structure NScopeC (N ps fr : List Str) (sc : Scope) : Prop where
  kind : sc.kind = .function
  co : sc.isCoroutine = false
  gen : sc.isGenerator = false
  nd : N.Nodup
  pre : N.take (ps.length + fr.length) = ps ++ fr
  par : ∀ x ∈ ps, sc.names.lookup x = some .local ∨ sc.names.lookup x = some .cell
  own : ∀ y ∈ sc.names, y.2 = .cell → y.1 ∉ fr
  free : ∀ y ∈ sc.names, y.2 = .free → y.1 ∈ fr
  frk : ∀ x ∈ fr, sc.names.lookup x = some .free
def nscCB (N ps fr : List Str) (sc : Scope) : Bool :=
  decide (sc.kind = .function) && (!sc.isCoroutine && (!sc.isGenerator && (decide N.Nodup && (decide (N.take (ps.length + fr.length) = ps ++ fr) && (ps.all (fun x => decide (sc.names.lookup x = some .local) || decide (sc.names.lookup x = some .cell)) &&
    (sc.names.all (fun y => !decide (y.2 = .cell) || !decide (y.1 ∈ fr)) && (sc.names.all (fun y => !decide (y.2 = .free) || decide (y.1 ∈ fr)) && fr.all fun x => decide (sc.names.lookup x = some .free))))))))
theorem nscopeC_by {N ps fr : List Str} {sc : Scope} (h : nscCB N ps fr sc = true) : NScopeC N ps fr sc := by
  unfold nscCB at h
  simp only [Bool.and_eq_true, Bool.not_eq_true', decide_eq_true_eq, List.all_eq_true, Bool.or_eq_true, decide_eq_false_iff_not] at h
  obtain ⟨h1, h2, h3, h4, h5, h6, h7, h8, h9⟩ := h
  exact ⟨h1, h2, h3, h4, h5, h6, fun y hy e => (h7 y hy).elim (fun z => absurd e z) id, fun y hy e => (h8 y hy).elim (fun z => absurd e z) id, h9⟩
theorem cells_app : ∀ (ns : List (Str × NameKind)) (n : Nat) (acc : List (Str × Addr)), cellsFrom n ns acc = cellsFrom n ns [] ++ acc
  | [], _, _ => rfl
  | (x, k) :: r, n, acc => by
    unfold cellsFrom
    by_cases hk : (k == NameKind.cell) = true
    · rw [if_pos hk, if_pos hk, cells_app r (n + 1) ((x, n) :: acc), cells_app r (n + 1) [(x, n)], List.append_assoc]
      rfl
    · rw [if_neg hk, if_neg hk]
      exact cells_app r n acc
theorem cells_kind : ∀ (ns : List (Str × NameKind)) (n : Nat) {y : Str} {c : Addr}, (y, c) ∈ cellsFrom n ns [] → (y, NameKind.cell) ∈ ns
  | [], _, _, _, h => nomatch h
  | (x, k) :: r, n, y, c, h => by
    unfold cellsFrom at h
    by_cases hk : (k == NameKind.cell) = true
    · rw [if_pos hk, cells_app] at h
      rcases List.mem_append.mp h with h | h
      · exact List.mem_cons_of_mem _ (cells_kind r _ h)
      · have e := List.mem_singleton.mp h
        cases e
        rw [eq_of_beq hk]
        exact List.mem_cons_self
    · rw [if_neg hk] at h
      exact List.mem_cons_of_mem _ (cells_kind r _ h)
section
variable {M : Model} {A : Around} {E : Value → Shared → Prop} {s₀ s : Shared} {m cm : Str → Option Value} {env : Env} {nw cl : List (Str × Addr)}
/-- the parameters stored: into the frame or into their new cells -/
theorem bindPC (he : env.cells = nw ++ cl) (f : Str × Value → PUnit → Sem (ForInStep PUnit)) (hf : ∀ n v u, f (n, v) u = (do storeName env n v; pure (.yield ⟨⟩))) (hk : env.scope.kind = .function) :
    ∀ (bs : List (Str × Value)) (m cm : Str → Option Value) (s : Shared) (Q : PUnit → Shared → Prop), InCallC s₀ env.locals m nw cm s →
      (∀ x ∈ bs, env.kindOf x.1 = some .local ∨ (env.kindOf x.1 = some .cell ∧ ∃ c, nw.lookup x.1 = some c)) →
      (∀ s', InCallC s₀ env.locals (bindL env.kindOf bs m) nw (bindC env.kindOf bs cm) s' → Q ⟨⟩ s') → wpAny M A (forIn bs ⟨⟩ f) Q E s
  | [], m, cm, s, Q, x, _, h => by rw [List.forIn_nil]; exact wpAny_pure (h s x)
  | (n, v) :: r, m, cm, s, Q, x, hkd, h => by
    rw [List.forIn_cons, hf]
    have hr : ∀ y ∈ r, env.kindOf y.1 = some .local ∨ (env.kindOf y.1 = some .cell ∧ ∃ c, nw.lookup y.1 = some c) := fun y hy => hkd y (List.mem_cons_of_mem _ hy)
    rcases hkd (n, v) List.mem_cons_self with hl | ⟨hl, c, hc⟩
    · refine wpAny_bind (wpAny_bind (wpAny_storeName_local hl x.toInCall.ns (fun h' hn' hs' => wpAny_pure (bindPC he f hf hk r _ _ _ Q (?_ : InCallC s₀ env.locals (fun y => if y = n then some v else m y) nw cm _) hr fun s'' x'' => h s'' ?_)) (by rw [hk]; rfl)))
      · refine ⟨⟨?_, hn', fun b o e => ?_, x.toInCall.fresh⟩, fun k c hc => ?_, x.apart, x.above⟩
        · obtain ⟨h₁, tk, rfl⟩ := x.toInCall.same
          exact ⟨h', _, rfl⟩
        · exact hs'.extBut b o (Nat.ne_of_lt (Nat.lt_of_lt_of_le (Heap.lt_size e) x.toInCall.fresh)) (x.toInCall.keep b o e)
        · exact (x.cell k c hc).sameBut hs' (Nat.ne_of_gt (x.above k c (PySem.mem_of_lookup hc)))
      · unfold bindL bindC; rw [if_pos hl, if_pos hl]; exact x''
    · have hnl : ¬ env.kindOf n = some .local := by rw [hl]; decide
      have hLc := x.above n c (PySem.mem_of_lookup hc)
      have hec : env.cells.lookup n = some c := by rw [he, List.lookup_append, hc]; rfl
      refine wpAny_bind (wpAny_bind (wpAny_storeName_cell hk hl hec (x.cell n c hc) fun h' hc' hs' => wpAny_pure (bindPC he f hf hk r _ _ _ Q (?_ : InCallC s₀ env.locals m nw (fun y => if y = n then some v else cm y) _) hr fun s'' x'' => h s'' ?_)))
      · refine ⟨⟨?_, x.toInCall.ns.sameBut hs' (Nat.ne_of_lt hLc), fun b o e => ?_, x.toInCall.fresh⟩, fun k c' hk' => ?_, x.apart, x.above⟩
        · obtain ⟨h₁, tk, rfl⟩ := x.toInCall.same
          exact ⟨h', _, rfl⟩
        · exact hs'.extBut b o (Nat.ne_of_lt (Nat.lt_trans (Nat.lt_of_lt_of_le (Heap.lt_size e) x.toInCall.fresh) hLc)) (x.toInCall.keep b o e)
        · by_cases hkn : k = n
          · subst hkn
            rw [hc] at hk'
            cases hk'
            simpa using hc'
          · rw [if_neg hkn]
            exact (x.cell k c' hk').sameBut hs' fun e => hkn (name_of_addr x.apart (PySem.mem_of_lookup hk') (e ▸ PySem.mem_of_lookup hc))
      · unfold bindL bindC; rw [if_neg hnl, if_neg hnl]; exact x''
theorem envPC {sc : Scope} {gl : Addr} {cl : List (Str × Addr)} {bs : List (Str × Value)} {ql : Str} {fo : Option Addr} {cd : Value} {bt : Addr} {Q : Env → Shared → Prop} (hk : sc.kind = .function)
    (hkd : ∀ x ∈ bs, sc.names.lookup x.1 = some .local ∨ (sc.names.lookup x.1 = some .cell ∧ ∃ c, (cellsFrom (s.heap.objs.size + 1) sc.names []).lookup x.1 = some c))
    (hQ : ∀ env, env = newEnv sc s.heap.objs.size gl (cellsFrom (s.heap.objs.size + 1) sc.names cl) ql fo cd none bt → ∀ s', InCallC s env.locals (bindL env.kindOf bs fun _ => none) (cellsFrom (s.heap.objs.size + 1) sc.names []) (bindC env.kindOf bs fun _ => none) s' → Q env s') :
    wpAny M A (newFunctionEnv sc gl cl bs ql fo cd none bt) Q E s := by
  simp only [newFunctionEnv, Option.isSome_none, Bool.false_eq_true, if_false]
  refine wpAny_bind (wpAny_alloc (wpAny_bind (wpAny_layCells _ (fun x k cs => by cases hkc : k == NameKind.cell <;> simp [hkc]) _ _ _ _ ?_)))
  have lay := cellsFrom_ok sc.names (s.heap.push { cls := .type "frame", data := .dict #[] }) (s.heap.objs.size + 1) [] ⟨fun _ _ z => (nomatch z), List.Pairwise.nil⟩ (Nat.le_of_eq (Heap.size_push ..).symm)
  rw [Heap.size_push] at lay
  have esz : ({ s with heap := s.heap.push { cls := .type "frame", data := .dict #[] } } : Shared).heap.objs.size = s.heap.objs.size + 1 := Heap.size_push ..
  rw [esz]
  refine wpAny_bind (bindPC (s₀ := s) (env := newEnv sc s.heap.objs.size gl (cellsFrom (s.heap.objs.size + 1) sc.names cl) ql fo cd none bt) (cells_app _ _ _) _ (fun _ _ _ => rfl) hk bs (fun _ => none) (fun _ => none) _ _ ?_ hkd fun s' x => wpAny_pure (hQ _ rfl s' x))
  refine ⟨⟨⟨_, _, rfl⟩, (Heap.Ns.new s.heap (.type "frame")).keeps (pushCells_keeps _ _), fun b o e => pushCells_keeps _ _ b o (Heap.get?_push_of_some _ e), Nat.le_refl _⟩, fun n c hc => (lay.empty n c (PySem.mem_of_lookup hc)).1, lay.apart, fun n c hm => (lay.empty n c hm).2⟩
end
abbrev envFC (F : NF) (f L : Addr) : Env := PySem.W.envX F.qual F.scope L f (.ref F.c) (cellsFrom (L + 1) F.scope.names F.cl)
/-- its own cells -/
def isCellN (sc : Scope) (y : Str) : Bool := match sc.names.lookup y with
  | some .cell => true
  | _ => false
theorem isCellN_of {sc : Scope} {y : Str} (h : isCellN sc y = true) : sc.names.lookup y = some .cell := by
  unfold isCellN at h
  split at h
  · assumption
  · cases h
/-- the context of its body -/
def ncxC (CX : CXT) (P : Program) (w : World) (K : PySem.W.Frag) (mg : Str → Option Value) (base : Heap) (N : List Str) (F : NF) (f : Addr) (A : Around) (outer : List Env) (s : Shared) (H : Hp) (E : XK) : Cx :=
  ⟨P, w, K, mg, base, A.deeper (envFC F f s.heap.objs.size), N, s, H, envFC F f s.heap.objs.size, outer, envFC F f s.heap.objs.size :: outer, [], isCellN F.scope, true, [],
    fun e s' => wpAny (model P w) (A.deeper (envFC F f s.heap.objs.size)) (leaving (envFC F f s.heap.objs.size) e) (fun _ s'' => CX outer H s E e s'') (fun e' s'' => CX outer H s E e' s'') s'⟩
section
variable {CX : CXT} {P : Program} {w : World} {K : PySem.W.Frag} {mg : Str → Option Value} {base : Heap} {N ps fr : List Str} {F : NF} {f : Addr} {A : Around} {outer : List Env} {s : Shared} {H : Hp} {E : XK} {us : List Value} {vs : List V} {ws : List (Option V)} {k : Nat} {sp : List (Option V) → Sp}
theorem ncC_K : (ncxC CX P w K mg base N F f A outer s H E).K = K := rfl
theorem ncC_w : (ncxC CX P w K mg base N F f A outer s H E).w = w := rfl
theorem ncC_prog : (ncxC CX P w K mg base N F f A outer s H E).prog = P := rfl
theorem inv_startC {s1 : Shared} (S : NScopeC N ps fr F.scope) (hd : A.handled = none) (e0 : Env0 P w K mg base A outer s H) (hl : vs.length = ps.length) (r : Vals vs us) (C : CellsAt F.cl fr ws s.heap H)
    (x : InCallC s s.heap.objs.size (bindL (envFC F f s.heap.objs.size).kindOf (ps.zip us) fun _ => none) (cellsFrom (s.heap.objs.size + 1) F.scope.names []) (bindC (envFC F f s.heap.objs.size).kindOf (ps.zip us) fun _ => none) s1) :
    Inv (ncxC CX P w K mg base N F f A outer s H E) [] (startF N vs ws) H s1 := by
  obtain ⟨h1, tk, rfl, hkp⟩ := x.done
  have hpl : ps.length + fr.length ≤ N.length := by
    have q := congrArg List.length S.pre
    rw [List.length_take, List.length_append] at q
    omega
  obtain ⟨nw, hnw⟩ : ∃ nw, nw = cellsFrom (s.heap.objs.size + 1) F.scope.names [] := ⟨_, rfl⟩
  rw [← hnw] at x
  have ecl : (envFC F f s.heap.objs.size).cells = nw ++ F.cl := by rw [hnw]; exact cells_app _ _ _
  have look : ∀ y c, (nw ++ F.cl).lookup y = some c → nw.lookup y = some c ∨ (nw.lookup y = none ∧ F.cl.lookup y = some c) := fun y c e => by
    rw [List.lookup_append] at e
    cases h : nw.lookup y with
    | some c' => rw [h] at e; exact .inl e
    | none => rw [h] at e; exact .inr ⟨rfl, e⟩
  have oldlt : ∀ y c, F.cl.lookup y = some c → c < s.heap.objs.size := fun y c e => (C.all y c e).2.elim fun v z => z.lt
  have newgt : ∀ y c, nw.lookup y = some c → s.heap.objs.size < c := fun y c e => x.above y c (PySem.mem_of_lookup e)
  have cellK : ∀ {c : Addr} {v : Option Value}, s.heap.IsCell c v → h1.IsCell c v := fun {c v} ⟨o, ho, hd⟩ => ⟨o, hkp _ _ ho, hd⟩
  have noA : ∀ b : Addr, b ∉ (ncxC CX P w K mg base N F f A outer s H E).ex := fun b z => absurd (show b ∈ ([] : List Addr) from z) List.not_mem_nil
  have has : ∀ y, ((envFC F f s.heap.objs.size).kindOf y = some .cell ∨ (envFC F f s.heap.objs.size).kindOf y = some .free) → ∃ c, (nw ++ F.cl).lookup y = some c := fun y hy => by
    have hy : F.scope.names.lookup y = some .cell ∨ F.scope.names.lookup y = some .free := hy
    rw [List.lookup_append]
    rcases hy with hy | hy
    · have q := PySem.W.cellsFrom_some F.scope.names (s.heap.objs.size + 1) [] (.inl hy)
      rw [← hnw] at q
      obtain ⟨c, hc⟩ := Option.isSome_iff_exists.mp q
      exact ⟨c, by rw [hc]; rfl⟩
    · obtain ⟨i, hi⟩ := List.mem_iff_getElem?.mp (S.free _ (PySem.mem_of_lookup hy) rfl)
      obtain ⟨c, hc, _⟩ := C.has i y hi
      cases h : nw.lookup y with
      | some c' => exact ⟨c', rfl⟩
      | none => exact ⟨c, by rw [hc]; rfl⟩
  have eN : (ncxC CX P w K mg base N F f A outer s H E).env.cells = nw ++ F.cl := ecl
  refine ⟨⟨e0.mod, S.kind, rfl, rfl, Nat.le_refl _, fun y z c a b => ?_, fun y hy => ?_, fun y c z e => ?_, fun _ => hd, Around.frames_deeper e0.frames, .inr ⟨rfl, rfl⟩, fun b z => absurd z (noA b), e0.bs, e0.bsz, fun b _ _ => noA b, fun b z => absurd z (noA b), e0.funs, e0.frf⟩,
    rfl, e0.bare, Un.kept hkp, ⟨_, x.toInCall.ns, fun i y v e1 e2 e3 => ?_⟩, fun y c e => ?_, e0.hok.fresh (Nat.le_refl _), fun y c e => ?_, fun q hq => absurd (show q ∈ ([] : List (Addr × Obj)) ++ [] from hq) (by simp), e0.hok.kept hkp, ?_⟩
  · rw [eN] at a b
    rcases look y c a with a | ⟨_, a⟩ <;> rcases look z c b with b | ⟨_, b⟩
    · exact name_of_addr x.apart (PySem.mem_of_lookup a) (PySem.mem_of_lookup b)
    · exact absurd (newgt y c a) (Nat.not_lt.mpr (Nat.le_of_lt (oldlt z c b)))
    · exact absurd (newgt z c b) (Nat.not_lt.mpr (Nat.le_of_lt (oldlt y c a)))
    · exact C.inj y z c a b
  · rw [eN]
    exact has y hy
  · rw [eN] at e
    have q := PySem.W.cellsFrom_some F.scope.names (s.heap.objs.size + 1) [] (.inl (isCellN_of z))
    rw [← hnw] at q
    obtain ⟨c', hc⟩ := Option.isSome_iff_exists.mp q
    rw [List.lookup_append, hc] at e
    cases e
    exact Nat.le_of_lt (newgt y c hc)
  · have e1 : N[i]? = some y := e1
    have clen := C.len
    unfold startF at e2
    by_cases h1 : i < ps.length
    · have hq : (ps ++ fr)[i]? = some y := by
        rw [← S.pre, List.getElem?_take_of_lt (by omega)]
        exact e1
      rw [List.getElem?_append_left h1] at hq
      rw [List.getElem?_append_left (by rw [List.length_map]; omega), List.getElem?_map] at e2
      obtain ⟨a, ha, e2⟩ := Option.map_eq_some_iff.mp e2
      cases e2
      obtain ⟨u, hu, rv⟩ := r.get ha
      have ndP : ps.Nodup := by
        have q := S.nd.sublist (List.take_sublist (ps.length + fr.length) N)
        rw [S.pre] at q
        exact (List.nodup_append.mp q).1
      refine ⟨u, rv, ?_⟩
      rcases S.par y (List.mem_of_getElem? hq) with kd | kd
      · exact .inl ⟨kd, bindL_get ndP hq hu kd⟩
      · have q := PySem.W.cellsFrom_some F.scope.names (s.heap.objs.size + 1) [] (.inl kd)
        rw [← hnw] at q
        obtain ⟨c, hc⟩ := Option.isSome_iff_exists.mp q
        refine .inr ⟨.inl kd, c, by rw [eN, List.lookup_append, hc]; rfl, ?_⟩
        have q := x.cell y c hc
        rw [bindC_get ndP hq hu (by show F.scope.names.lookup y ≠ _; rw [kd]; decide)] at q
        exact q
    · rw [List.getElem?_append_right (by rw [List.length_map]; omega), List.length_map] at e2
      by_cases h2 : i < ps.length + fr.length
      · have hq : (ps ++ fr)[i]? = some y := by
          rw [← S.pre, List.getElem?_take_of_lt (by omega)]
          exact e1
        rw [List.getElem?_append_right (by omega)] at hq
        rw [List.getElem?_append_left (by omega), hl] at e2
        obtain ⟨c, hc, hv⟩ := C.has (i - ps.length) y hq
        obtain ⟨u, ru, hu⟩ := hv v e2
        have hno : nw.lookup y = none := by
          cases h : nw.lookup y with
          | none => rfl
          | some c' =>
            rw [hnw] at h
            exact absurd (List.mem_of_getElem? hq) (S.own _ (cells_kind _ _ (PySem.mem_of_lookup h)) rfl)
        exact ⟨u, ru, .inr ⟨.inr (S.frk y (List.mem_of_getElem? hq)), c, by rw [eN, List.lookup_append, hno]; exact hc, cellK hu⟩⟩
      · rw [List.getElem?_append_right (by omega), List.getElem?_replicate] at e2
        split at e2 <;> cases e2
  · rw [eN] at e
    rcases look y c e with e | ⟨_, e⟩
    · exact ⟨_, x.cell y c e⟩
    · obtain ⟨v, z⟩ := (C.all y c e).2
      exact ⟨v, cellK z⟩
  · rw [eN] at e
    rcases look y c e with e | ⟨_, e⟩
    · exact e0.hok.fresh (Nat.le_of_lt (newgt y c e))
    · exact (C.all y c e).1
  · have clen := C.len
    unfold startF
    show _ = N.length
    rw [List.length_append, List.length_append, List.length_map, List.length_replicate]
    omega
/-- such a def by its body -/
theorem nokC_of (S : NScopeC N ps fr F.scope) (hb : ∀ (doc pm ctv : Value) (us : List Value), us.length = ps.length → bindArgs (F.fd doc pm ctv) ⟨us, []⟩ = pure (ps.zip us)) (len : ∀ ws vs H Q E, sp ws vs H Q E → vs.length = ps.length)
    (body : ∀ (A : Around) (outer : List Env) (s : Shared) (H : Hp) (vs : List V) (ws : List (Option V)) (Q : VK) (E : XK), Room k (A.deeper (envFC F f s.heap.objs.size)) → H f = some (FnO f F) → H F.c = some (CodeO F.c F.qual) → ws.length = fr.length → sp ws vs H Q E →
      ∃ t, PSs (ncxC CX P w K mg base N F f A outer s H E) F.body t ∧ t { nx := fun _ H' => Q .non H', rt := Q } (startF N vs ws) H) :
    NOk P w K mg base CX (k + 1) f F ps fr sp := by
  refine ⟨len, fun A outer s H us vs ws Q E hr e0 hf hc C r hsp => ?_⟩
  have hl := len _ _ _ _ _ hsp
  have lim : s.heap.NoLimit := e0.mod.nolimit.keeps fun b o e => (e0.bs b o e).1
  obtain ⟨od, sl, doc, pm, ctv, ho⟩ := fnO_at e0.hok hf
  refine codeAny_call_function hr.depth ho rfl S.co S.gen rfl (codeO_at e0.hok hc) ?_
  rw [hb doc pm ctv us (by rw [← r.length]; exact hl)]
  refine wpAny_pure (envPC S.kind (fun ⟨n, _⟩ hy => (S.par n (List.of_mem_zip hy).1).imp id fun q => ⟨q, Option.isSome_iff_exists.mp (PySem.W.cellsFrom_some _ _ _ (.inl q))⟩) fun env he s1 x => ?_)
  subst he
  refine ⟨lim.keeps x.toInCall.keep, codeAny_func ?_⟩
  obtain ⟨t, ht, hq⟩ := body A outer s H vs ws Q E (hr.deeper _) hf hc C.len hsp
  have I := inv_startC (CX := CX) (E := E) S hr.hd e0 hl r C x
  refine wpAny_mono (ht.run [] s1 (startF N vs ws) H _ I hq) (fun fl s' hs => ?_) fun e s' hs => hs
  match fl, hs with
  | .ret _, ⟨_, _, _, J, rv, q⟩ => exact ⟨_, _, J.os, J.bare, J.base, J.hok, rv, q⟩
  | .next, ⟨_, _, J, q⟩ => exact ⟨V.non, _, J.os, J.bare, J.base, J.hok, rfl, q⟩
  | .brk, ⟨_, _, _, q⟩ => exact False.elim q
  | .cont, ⟨_, _, _, q⟩ => exact False.elim q
end
end Dw
namespace Dw
open PySem PySem.Spec PyProof.Rows L2 SX
/-! dict comprehensions -/
def DcJ (J : It) (g : TG) (tt : TT) (tk tv : TE) (vs : List Nat) (D : Addr) (σ : L2.St) (H1 : Hp) (Qd : Hp → Prop) : Prop := ∃ W : Nat → Nat → Hp → Prop, (∃ m, W 0 m (upd H1 D (.dK []))) ∧ ∀ i m H, W i m H →
  (J.stop i H ∧ Qd H) ∨ (J.go i H ∧ ∃ Nx : Hp → Prop, (∀ H', Nx H' → ∃ m', m' < m ∧ W (i + 1) m' H') ∧ ∀ x H', J.yld i H x H' → g x (wipe σ vs) H' fun σ2 H2 => wipe σ2 vs = wipe σ vs ∧ tt σ2 H2 fun b H3 =>
    if b = true then tk σ2 H3 fun y H4 => tv σ2 H4 fun z H5 => ∃ kvs k, y = kV k ∧ H5 D = some (.dK kvs) ∧ kvs.length < sizeLine ∧ Nx (upd H5 D (.dK (putK kvs k z))) else Nx H3)
theorem tDc_eq (wi : TI) (g : TG) (tt : TT) (tk tv : TE) (vs : List Nat) (σ : L2.St) (H : Hp) (Q : VK) : tDc wi g tt tk tv vs σ H Q = wi σ H fun J H1 => ∀ D, H1 D = none → DcJ J g tt tk tv vs D σ H1 fun H2 => Q (.ref D) H2 := rfl
theorem dc_it {J : It} {n : Nat} {G : Hp → Prop} {Y : Nat → Hp → V → Hp → Prop} (w : Walk J n G Y) {g : TG} {tt : TT} {tk tv : TE} {vs : List Nat} {σ : L2.St} {H1 : Hp} {D : Addr} {Qd : Hp → Prop} (Pv : Nat → Hp → Prop) (h0 : Pv 0 (upd H1 D (.dK []))) (hG : ∀ i H, i ≤ n → Pv i H → G H)
    (hs : ∀ i x H H', i < n → Pv i H → Y i H x H' → g x (wipe σ vs) H' fun σ2 H2 => wipe σ2 vs = wipe σ vs ∧ tt σ2 H2 fun b H3 =>
      if b = true then tk σ2 H3 fun y H4 => tv σ2 H4 fun z H5 => ∃ kvs k, y = kV k ∧ H5 D = some (.dK kvs) ∧ kvs.length < sizeLine ∧ Pv (i + 1) (upd H5 D (.dK (putK kvs k z))) else Pv (i + 1) H3) (hd : ∀ H, Pv n H → Qd H) : DcJ J g tt tk tv vs D σ H1 Qd := by
  refine ⟨fun i m H => m = n - i ∧ i ≤ n ∧ Pv i H, ⟨n, by simp, Nat.zero_le _, h0⟩, ?_⟩
  rintro i m H ⟨rfl, hi, p⟩
  have q := hG i H hi p
  by_cases hlt : i < n
  · refine .inr ⟨w.goes i H hlt q, Pv (i + 1), fun H' p' => ⟨n - (i + 1), by omega, rfl, hlt, p'⟩, fun x H' y => hs i x H H' hlt p (w.yields i H x H' hlt q y)⟩
  · have e : i = n := by omega
    subst e
    exact .inl ⟨w.stops H q, hd H p⟩
/-- {x: the place of x} -/
def dkF (ns : List Int) : Nat × List (L2.Key × V) := ns.foldl (fun p x => (p.1 + 1, putK p.2 (.inl x) (nv p.1))) (0, [])
theorem dkF_snoc (ns : List Int) (x : Int) : dkF (ns ++ [x]) = ((dkF ns).1 + 1, putK (dkF ns).2 (.inl x) (nv (dkF ns).1)) := by unfold dkF; rw [List.foldl_append]; rfl
theorem dkF_take {ns : List Int} {i : Nat} {x : Int} (h : ns[i]? = some x) : dkF (ns.take (i + 1)) = ((dkF (ns.take i)).1 + 1, putK (dkF (ns.take i)).2 (.inl x) (nv (dkF (ns.take i)).1)) := by
  rw [List.take_add_one, h]
  exact dkF_snoc _ _
theorem dkF_ind {P : List Int → Prop} (h0 : P []) (hs : ∀ ns x, P ns → P (ns ++ [x])) (ns : List Int) : P ns := by
  have : ∀ n, n ≤ ns.length → P (ns.take n) := by
    intro n
    induction n with
    | zero => intro _; exact h0
    | succ n ih =>
      intro hn
      rw [List.take_add_one, List.getElem?_eq_getElem (by omega)]
      exact hs _ _ (ih (by omega))
  have h := this ns.length (Nat.le_refl _)
  rwa [List.take_length] at h
theorem dkF_fst (ns : List Int) : (dkF ns).1 = ns.length := dkF_ind (P := fun ns => (dkF ns).1 = ns.length) rfl (fun ns x ih => by rw [dkF_snoc, List.length_append]; show (dkF ns).1 + 1 = _; rw [ih]; rfl) ns
theorem dkF_len (ns : List Int) : (dkF ns).2.length ≤ ns.length := dkF_ind (P := fun ns => (dkF ns).2.length ≤ ns.length) (Nat.le_refl _) (fun ns x ih => by
  rw [dkF_snoc, List.length_append]
  have := length_putK (dkF ns).2 (.inl x) (nv (dkF ns).1)
  show (putK _ _ _).length ≤ ns.length + 1
  omega) ns
/-- what stands at a key is the place of it -/
theorem dkF_at (ns : List Int) : ∀ x ∈ ns, ∃ t : Nat, ns[t]? = some x ∧ valV (dkF ns).2 (.inl x) = some (nv t) := dkF_ind (P := fun ns => ∀ x ∈ ns, ∃ t : Nat, ns[t]? = some x ∧ valV (dkF ns).2 (.inl x) = some (nv t)) (fun _ h => nomatch h) (fun ns y ih x hx => by
  rw [dkF_snoc]
  by_cases e : x = y
  · subst e
    exact ⟨ns.length, by rw [List.getElem?_append_right (Nat.le_refl _), Nat.sub_self]; rfl, by show valV (putK _ _ _) _ = _; rw [valV_put, if_pos rfl, dkF_fst]⟩
  · obtain ⟨t, h1, h2⟩ := ih x ((List.mem_append.mp hx).resolve_right fun z => e (List.mem_singleton.mp z))
    exact ⟨t, by rw [List.getElem?_append_left (List.getElem?_eq_some_iff.mp h1).1]; exact h1, by show valV (putK _ _ _) _ = _; rw [valV_put, if_neg (fun z => e (Sum.inl.inj z)), h2]⟩) ns
theorem dkF_no (ns : List Int) : ∀ x, x ∉ ns → valV (dkF ns).2 (.inl x) = none := dkF_ind (P := fun ns => ∀ x, x ∉ ns → valV (dkF ns).2 (.inl x) = none) (fun _ _ => rfl) (fun ns y ih x hx => by
  rw [dkF_snoc]
  show valV (putK _ _ _) _ = _
  rw [valV_put, if_neg (fun z => hx (List.mem_append_right _ (by rw [Sum.inl.inj z]; exact List.mem_cons_self)))]
  exact ih x fun z => hx (List.mem_append_left _ z)) ns
/-- {x: place for place, x in enumerate(list)} -/
theorem dc_enum {K : PySem.W.Frag} {a : Addr} {ns : List Int} {g : TG} {tk tv : TE} {vs : List Nat} {σ : L2.St} {H1 : Hp} {D : Addr} {Qd : Hp → Prop} (hD : H1 D = none) (hl : ns.length ≤ 10000) (ha : SqL K H1 a (ns.map V.int))
    (hs : ∀ (i : Nat) (x : Int) T H (N : Hp → Prop), ns[i]? = some x → Same H1 H → H T = none → (∀ H2, Same (upd H T (.tup [.int (i : Nat), .int x])) H2 → ∃ kvs k, kV (.inl x) = kV k ∧ H2 D = some (.dK kvs) ∧ kvs.length < sizeLine ∧ N (upd H2 D (.dK (putK kvs k (nv i))))) →
      g (.ref T) (wipe σ vs) (upd H T (.tup [.int (i : Nat), .int x])) fun σ2 H2 => wipe σ2 vs = wipe σ vs ∧ tk σ2 H2 fun y H4 => tv σ2 H4 fun z H5 => ∃ kvs k, y = kV k ∧ H5 D = some (.dK kvs) ∧ kvs.length < sizeLine ∧ N (upd H5 D (.dK (putK kvs k z))))
    (hd : ∀ H, Same H1 H → H D = some (.dK (dkF ns).2) → Qd H) : DcJ (Ite K a) g tYes tk tv vs D σ H1 Qd := by
  refine dc_it (walk_enum (xs := ns.map V.int)) (fun i H => Same H1 H ∧ H D = some (.dK (dkF (ns.take i)).2)) ⟨same_upd hD, by rw [upd_same]; rfl⟩ (fun i H _ p => p.1.seq ha) (fun i x H H' hi p y => ?_) fun H p => ?_
  · obtain ⟨T, v, z, rfl, hT, rfl, e1, e2⟩ := y
    cases e1
    change (ns.map V.int)[i]? = some z at e2
    rw [List.getElem?_map] at e2
    obtain ⟨x, hx, rfl⟩ := Option.map_eq_some_iff.mp e2
    obtain ⟨s1, hDk⟩ := p
    have sT : Same H (upd H T (.tup [.int (i : Nat), .int x])) := same_upd hT
    have h := hs i x T H (fun H' => Same H1 H' ∧ H' D = some (.dK (dkF (ns.take (i + 1))).2)) hx s1 hT fun H2 s2 => ⟨(dkF (ns.take i)).2, .inl x, rfl, s2 _ _ (sT _ _ hDk), smallt (by have := dkF_len (ns.take i); rw [List.length_take] at this; omega), Dw.Same.new ((s1.trans sT).trans s2) hD, by
      rw [upd_same, dkF_take hx]
      show _ = some (HO.dK (putK _ _ (nv (dkF (ns.take i)).1)))
      rw [dkF_fst, List.length_take, Nat.min_eq_left (Nat.le_of_lt (List.getElem?_eq_some_iff.mp hx).1)]⟩
    exact h
  · have h2 := p.2
    rw [List.length_map, List.take_length] at h2
    exact hd H p.1 h2
end Dw
namespace Dw
open PySem PySem.Spec PyProof.Rows L2 SX
/-! what a machine without a track takes -/
/-- free letters lead to an accepting state -/
def canF (T : List (List Int)) (acc : List Bool) (t s : Nat) : Prop := ∃ k, canK (fun s => acc.getD s false) (fun s => nxt T s 0) (fun s => nxt T s (2 ^ t)) k s = true
def hasR (T : List (List Int)) (acc : List Bool) (t s : Nat) : Bool := (List.range T.length).any fun k => canK (fun s => acc.getD s false) (fun s => nxt T s 0) (fun s => nxt T s (2 ^ t)) k s
def fW (T : List (List Int)) (acc : List Bool) (t : Nat) (l : List Int) : Bool := l.any fun s => hasR T acc t s.toNat
section
variable {w : Nat} {T : List (List Int)} {acc : List Bool} {t : Nat}
theorem rank_of {A : Nat → Bool} {f g : Nat → Nat} {s k : Nat} (h : canK A f g k s = true) : ∃ r, IsRank A f g s (some r) := by
  cases e : rkUp A f g k s with
  | some d => exact ⟨d, (rkUp_some.mp e).2⟩
  | none =>
    have := rkUp_none.mp e k (Nat.le_refl _)
    rw [h] at this
    cases this
theorem hasR_iff (k : MOk w T acc) (ht : t < w) {s : Nat} (hs : s < T.length) : hasR T acc t s = true ↔ canF T acc t s := by
  unfold hasR canF
  rw [List.any_eq_true]
  constructor
  · rintro ⟨j, _, h⟩; exact ⟨j, h⟩
  · rintro ⟨j, h⟩
    obtain ⟨r, hr⟩ := rank_of h
    have hpt : 2 ^ t < 2 ^ w := Nat.pow_lt_pow_right (by decide) ht
    have := rank_lt (n := T.length) (fun x hx => (goodT_at k.good hx (Nat.two_pow_pos w)).choose_spec.2.2) (fun x hx => (goodT_at k.good hx hpt).choose_spec.2.2) hs hr
    exact ⟨r, List.mem_range.mpr this, hr.1⟩
theorem isRank_has (k : MOk w T acc) (ht : t < w) {s : Nat} (hs : s < T.length) {o : Option Nat} (h : IsRank (fun s => acc.getD s false) (fun s => nxt T s 0) (fun s => nxt T s (2 ^ t)) s o) : hasR T acc t s = o.isSome := by
  cases o with
  | some r => exact (hasR_iff k ht hs).mpr ⟨r, h.1⟩
  | none =>
    refine Bool.eq_false_iff.mpr fun z => ?_
    obtain ⟨j, hj⟩ := (hasR_iff k ht hs).mp z
    rw [h j] at hj
    cases hj
theorem accD_set (k : MOk w T acc) {s : Nat} (hs : s < T.length) : acc.getD s false = acc.getD (nxt T s 0) false := by
  rw [List.getD_eq_getElem?_getD, List.getD_eq_getElem?_getD, k.set s hs]
theorem canF_step (k : MOk w T acc) {s : Nat} (hs : s < T.length) : canF T acc t s ↔ canF T acc t (nxt T s 0) ∨ canF T acc t (nxt T s (2 ^ t)) := by
  constructor
  · rintro ⟨j, hj⟩
    cases j with
    | zero =>
      refine .inl ⟨0, ?_⟩
      have hj : acc.getD s false = true := hj
      rw [accD_set k hs] at hj
      exact hj
    | succ j =>
      have hj : (canK _ _ _ j (nxt T s 0) || canK _ _ _ j (nxt T s (2 ^ t))) = true := hj
      rw [Bool.or_eq_true] at hj
      exact hj.imp (fun h => ⟨j, h⟩) fun h => ⟨j, h⟩
  · rintro (⟨j, hj⟩ | ⟨j, hj⟩)
    · exact ⟨j + 1, by show (canK _ _ _ j (nxt T s 0) || canK _ _ _ j (nxt T s (2 ^ t))) = true; rw [hj, Bool.true_or]⟩
    · exact ⟨j + 1, by show (canK _ _ _ j (nxt T s 0) || canK _ _ _ j (nxt T s (2 ^ t))) = true; rw [hj, Bool.or_true]⟩
theorem fW_iff (k : MOk w T acc) (ht : t < w) {l : List Int} (hl : l ∈ subU T.length) : fW T acc t l = true ↔ ∃ s ∈ l, canF T acc t s.toNat := by
  unfold fW
  rw [List.any_eq_true]
  have q : ∀ s ∈ l, s.toNat < T.length := fun s hs => by
    obtain ⟨x, hx, e⟩ := subU_lt hl hs
    rw [e, Int.toNat_natCast]
    exact hx
  exact ⟨fun ⟨s, hs, h⟩ => ⟨s, hs, (hasR_iff k ht (q s hs)).mp h⟩, fun ⟨s, hs, h⟩ => ⟨s, hs, (hasR_iff k ht (q s hs)).mpr h⟩⟩
theorem mem_gWF (k : MOk w T acc) (ht : t < w) {l : List Int} (hl : l ∈ subU T.length) {j : Nat} (hj : j < 2 ^ (w - 1)) {z : Int} : z ∈ gW T t l j ↔ ∃ s ∈ l, ∃ v, v < 2 ∧ ((nxt T s.toNat (wt j t v) : Nat) : Int) = z := by
  rw [mem_gW]
  constructor
  · rintro ⟨s, hs, v, hv, _, e⟩; exact ⟨s, hs, v, hv, e⟩
  · rintro ⟨s, hs, v, hv, e⟩
    obtain ⟨x, hx, ex⟩ := subU_lt hl hs
    refine ⟨s, hs, v, hv, ?_, e⟩
    rw [ex, Int.toNat_natCast]
    exact (goodT_at k.good hx (wt_lt hj ht hv)).choose_spec.2.2
theorem fW_set (k : MOk w T acc) (ht : t < w) {l : List Int} (hl : l ∈ subU T.length) : fW T acc t l = fW T acc t (gW T t l 0) := by
  rw [Bool.eq_iff_iff, fW_iff k ht hl, fW_iff k ht (gW_in _ _ _ _)]
  have w1 : wt 0 t 1 = 2 ^ t := by rw [wt0, Nat.mul_one]
  constructor
  · rintro ⟨s, hs, h⟩
    obtain ⟨x, hx, ex⟩ := subU_lt hl hs
    rw [ex, Int.toNat_natCast] at h
    rcases (canF_step k hx).mp h with h | h
    · exact ⟨_, (mem_gWF k ht hl (Nat.two_pow_pos _)).mpr ⟨s, hs, 0, by decide, rfl⟩, by rw [Int.toNat_natCast, wt00, ex, Int.toNat_natCast]; exact h⟩
    · exact ⟨_, (mem_gWF k ht hl (Nat.two_pow_pos _)).mpr ⟨s, hs, 1, by decide, rfl⟩, by rw [Int.toNat_natCast, w1, ex, Int.toNat_natCast]; exact h⟩
  · rintro ⟨z, hz, h⟩
    obtain ⟨s, hs, v, hv, e⟩ := (mem_gWF k ht hl (Nat.two_pow_pos _)).mp hz
    obtain ⟨x, hx, ex⟩ := subU_lt hl hs
    rw [← e, Int.toNat_natCast, ex, Int.toNat_natCast] at h
    refine ⟨s, hs, ?_⟩
    rw [ex, Int.toNat_natCast, canF_step k hx]
    rcases (by omega : v = 0 ∨ v = 1) with rfl | rfl
    · rw [wt00] at h; exact .inl h
    · rw [w1] at h; exact .inr h
/-- the sets behind a word -/
theorem mem_foldW (k : MOk w T acc) (ht : t < w) : ∀ (ls : List Nat) (l : List Int), (∀ x ∈ ls, x < 2 ^ (w - 1)) → l ∈ subU T.length → ∀ z : Int, z ∈ ls.foldl (gW T t) l ↔ ∃ s ∈ l, ∃ x : Nat, ((runT T s.toNat (zipw t ls x) : Nat) : Int) = z
  | [], l, _, hl, z => by
    constructor
    · intro h
      obtain ⟨x, hx, ex⟩ := subU_lt hl h
      exact ⟨z, h, 0, by show ((z.toNat : Nat) : Int) = z; omega⟩
    · rintro ⟨s, hs, x, e⟩
      obtain ⟨y, hy, ey⟩ := subU_lt hl hs
      have e : ((s.toNat : Nat) : Int) = z := e
      have : s = z := by omega
      rw [← this]
      exact hs
  | a :: ls, l, hls, hl, z => by
    rw [List.foldl_cons, mem_foldW k ht ls _ (fun x hx => hls x (List.mem_cons_of_mem _ hx)) (gW_in _ _ _ _) z]
    constructor
    · rintro ⟨s', hs', x, e⟩
      obtain ⟨s, hs, v, hv, e2⟩ := (mem_gWF k ht hl (hls a List.mem_cons_self)).mp hs'
      refine ⟨s, hs, v + 2 * x, ?_⟩
      rw [zipw_cons, show (v + 2 * x) % 2 = v by omega, show (v + 2 * x) / 2 = x by omega]
      show ((runT T (nxt T s.toNat (wt a t v)) (zipw t ls x) : Nat) : Int) = z
      rw [← e, ← e2, Int.toNat_natCast]
    · rintro ⟨s, hs, x, e⟩
      refine ⟨_, (mem_gWF k ht hl (hls a List.mem_cons_self)).mpr ⟨s, hs, x % 2, Nat.mod_lt _ (by decide), rfl⟩, x / 2, ?_⟩
      rw [zipw_cons] at e
      rw [Int.toNat_natCast]
      exact e
theorem foldW_in (T : List (List Int)) (t : Nat) : ∀ (ls : List Nat) {l : List Int}, l ∈ subU T.length → ls.foldl (gW T t) l ∈ subU T.length
  | [], _, h => h
  | a :: ls, l, _ => by rw [List.foldl_cons]; exact foldW_in T t ls (gW_in _ _ _ _)
theorem canF_word (s : Nat) : canF T acc t s ↔ ∃ m r, acc.getD (runT T s (rwd t m r)) false = true := by
  have w1 : wt 0 t 1 = 2 ^ t := by rw [wt0, Nat.mul_one]
  have q : ∀ (m s : Nat), canK (fun s => acc.getD s false) (fun s => nxt T s 0) (fun s => nxt T s (2 ^ t)) m s = true ↔ ∃ r, acc.getD (runT T s (rwd t m r)) false = true := by
    intro m
    induction m with
    | zero => intro s; exact ⟨fun h => ⟨0, h⟩, fun ⟨_, h⟩ => h⟩
    | succ m ih =>
      intro s
      show (canK _ _ _ m (nxt T s 0) || canK _ _ _ m (nxt T s (2 ^ t))) = true ↔ _
      rw [Bool.or_eq_true, ih, ih]
      constructor
      · rintro (⟨r, h⟩ | ⟨r, h⟩)
        · refine ⟨2 * r, ?_⟩
          rw [rwd_succ, show 2 * r % 2 = 0 by omega, show 2 * r / 2 = r by omega, wt00]
          exact h
        · refine ⟨2 * r + 1, ?_⟩
          rw [rwd_succ, show (2 * r + 1) % 2 = 1 by omega, show (2 * r + 1) / 2 = r by omega, w1]
          exact h
      · rintro ⟨r, h⟩
        rw [rwd_succ] at h
        rcases (by omega : r % 2 = 0 ∨ r % 2 = 1) with e | e
        · rw [e, wt00] at h; exact .inl ⟨_, h⟩
        · rw [e, w1] at h; exact .inr ⟨_, h⟩
  exact ⟨fun ⟨m, h⟩ => ⟨m, (q m s).mp h⟩, fun ⟨m, h⟩ => ⟨m, (q m s).mpr h⟩⟩
theorem div_mod_add (y a i : Nat) (h : i < a) : y % 2 ^ a / 2 ^ i % 2 = y / 2 ^ i % 2 := by
  obtain ⟨c, rfl⟩ : ∃ c, a = i + 1 + c := ⟨a - i - 1, by omega⟩
  rw [show i + 1 + c = i + (1 + c) by omega, Nat.pow_add, Nat.mod_mul_right_div_self, Nat.pow_add, Nat.pow_one, Nat.mod_mul_right_mod]
theorem rwd_low (t m r : Nat) : rwd t m (r % 2 ^ m) = rwd t m r := by
  unfold rwd
  refine List.map_congr_left fun i hi => ?_
  rw [div_mod_add r m i (List.mem_range.mp hi)]
theorem zipw_put (t : Nat) (ls : List Nat) (x r : Nat) : zipw t ls (x % 2 ^ ls.length + 2 ^ ls.length * r) = zipw t ls x := by
  unfold zipw
  refine List.map_congr_left fun i hi => ?_
  have hi := List.mem_range.mp hi
  rw [← div_mod_add _ ls.length i hi, Nat.add_mul_mod_self_left, Nat.mod_mod, div_mod_add x ls.length i hi]
/-- the word of the numbers with x put in, and behind it -/
theorem put_word (k : MOk w T acc) (ht : t < w) {ns : List Nat} (hl : ns.length + 1 = w) {y m : Nat} (hy : y < 2 ^ (bls ns + m)) : acc.getD (runT T (runT T 0 (zipw t (wd ns) y)) (rwd t m (y / 2 ^ (wd ns).length))) false = acc.getD (runT T 0 (wd (ns.take t ++ [y] ++ ns.drop t))) false := by
  rw [← runT_app]
  have ew : zipw t (wd ns) y ++ rwd t m (y / 2 ^ (wd ns).length) = (List.range (bls ns + m)).map fun j => lo (bitAt (ns.take t ++ [y] ++ ns.drop t) j) := by
    refine List.ext_getElem (by simp [zipw, rwd, wd_len]) fun i p q => ?_
    rw [List.getElem_map, List.getElem_range, lo_put (by omega)]
    by_cases hi : i < bls ns
    · rw [List.getElem_append_left (by simp [zipw, wd_len]; exact hi)]
      unfold zipw
      rw [List.getElem_map, List.getElem_range, List.getD_eq_getElem?_getD, wd_get hi]
      rfl
    · rw [List.getElem_append_right (by simp [zipw, wd_len]; omega)]
      simp only [rwd, zipw, List.getElem_map, List.getElem_range, List.length_map, List.length_range, wd_len]
      rw [Nat.div_div_eq_div_mul, ← Nat.pow_add, show bls ns + (i - bls ns) = i by omega, lo_bitAt_ge (by omega)]
  rw [ew]
  refine takes_pad k ?_ (bls_le fun x hx => ?_)
  · simp only [List.length_append, List.length_take, List.length_drop, List.length_cons, List.length_nil]
    omega
  · have h2 : ∀ n ∈ ns, n < 2 ^ (bls ns + m) := fun n hn => Nat.lt_of_lt_of_le (lt_blen n) (Nat.pow_le_pow_right (by decide) (Nat.le_trans (le_bls hn) (Nat.le_add_right _ _)))
    rcases List.mem_append.mp hx with hx | hx
    · rcases List.mem_append.mp hx with hx | hx
      · exact h2 x (List.mem_of_mem_take hx)
      · rw [List.mem_singleton.mp hx]; exact hy
    · exact h2 x (List.mem_of_mem_drop hx)
theorem some_run (k : MOk w T acc) (ht : t < w) {ns : List Nat} (hl : ns.length + 1 = w) : fW T acc t ((wd ns).foldl (gW T t) [0]) = true ↔ ∃ x, acc.getD (runT T 0 (wd (ns.take t ++ [x] ++ ns.drop t))) false = true := by
  have hwl : ∀ x ∈ wd ns, x < 2 ^ (w - 1) := fun x hx => by have := wd_lt hx; rwa [show ns.length = w - 1 by omega] at this
  rw [fW_iff k ht (foldW_in T t _ (start_subU k.pos))]
  constructor
  · rintro ⟨z, hz, hc⟩
    obtain ⟨s, hs, x, e⟩ := (mem_foldW k ht (wd ns) _ hwl (start_subU k.pos) z).mp hz
    rw [List.mem_singleton.mp hs] at e
    obtain ⟨m, r, h⟩ := (canF_word _).mp hc
    rw [← e, Int.toNat_natCast, ← zipw_put t (wd ns) x (r % 2 ^ m), ← rwd_low] at h
    refine ⟨x % 2 ^ (wd ns).length + 2 ^ (wd ns).length * (r % 2 ^ m), ?_⟩
    have hy : x % 2 ^ (wd ns).length + 2 ^ (wd ns).length * (r % 2 ^ m) < 2 ^ (bls ns + m) := by
      rw [Nat.pow_add, ← wd_len ns]
      have h1 := Nat.mod_lt x (Nat.two_pow_pos (wd ns).length)
      have h2 := Nat.mod_lt r (Nat.two_pow_pos m)
      have h3 : 2 ^ (wd ns).length * (r % 2 ^ m + 1) ≤ 2 ^ (wd ns).length * 2 ^ m := Nat.mul_le_mul_left _ h2
      rw [Nat.mul_add, Nat.mul_one] at h3
      omega
    rw [← put_word k ht hl hy]
    have ed : (x % 2 ^ (wd ns).length + 2 ^ (wd ns).length * (r % 2 ^ m)) / 2 ^ (wd ns).length = r % 2 ^ m := by
      rw [Nat.add_mul_div_left _ _ (Nat.two_pow_pos _), Nat.div_eq_of_lt (Nat.mod_lt _ (Nat.two_pow_pos _)), Nat.zero_add]
    rw [ed]
    exact h
  · rintro ⟨y, h⟩
    have hy : y < 2 ^ (bls ns + blen y) := Nat.lt_of_lt_of_le (lt_blen y) (Nat.pow_le_pow_right (by decide) (Nat.le_add_left _ _))
    rw [← put_word k ht hl hy] at h
    exact ⟨_, (mem_foldW k ht (wd ns) _ hwl (start_subU k.pos) _).mpr ⟨0, List.mem_singleton.mpr rfl, y, rfl⟩, (canF_word _).mpr ⟨_, _, by rw [Int.toNat_natCast]; exact h⟩⟩
end
end Dw
namespace Dw
open PySem PySem.Spec PyProof.Rows L2 SX
/-! classes and words: a round of i parts the states that a word of at most i letters parts -/
/-- a word of at most n letters parts the states -/
def ApN (T : List (List Int)) (acc : List Bool) (m n s t : Nat) : Prop := ∃ ws : List Nat, ws.length ≤ n ∧ (∀ x ∈ ws, x < m) ∧ acc.getD (runT T s ws) false ≠ acc.getD (runT T t ws) false
def Ap (T : List (List Int)) (acc : List Bool) (m s t : Nat) : Prop := ∃ n, ApN T acc m n s t
theorem ApN.mono {T : List (List Int)} {acc : List Bool} {m n n' s t : Nat} (h : ApN T acc m n s t) (hn : n ≤ n') : ApN T acc m n' s t := by
  obtain ⟨ws, h1, h2, h3⟩ := h
  exact ⟨ws, Nat.le_trans h1 hn, h2, h3⟩
theorem ApN.cons {T : List (List Int)} {acc : List Bool} {m n s t j : Nat} (hj : j < m) (h : ApN T acc m n (nxt T s j) (nxt T t j)) : ApN T acc m (n + 1) s t := by
  obtain ⟨ws, h1, h2, h3⟩ := h
  exact ⟨j :: ws, Nat.succ_le_succ h1, fun x hx => by
    rcases List.mem_cons.mp hx with rfl | hx
    · exact hj
    · exact h2 x hx, h3⟩
theorem ApN.zero {T : List (List Int)} {acc : List Bool} {m s t : Nat} : ApN T acc m 0 s t ↔ acc.getD s false ≠ acc.getD t false := by
  constructor
  · rintro ⟨ws, h1, _, h3⟩
    rw [List.length_eq_zero_iff.mp (Nat.le_zero.mp h1)] at h3
    exact h3
  · intro h
    exact ⟨[], Nat.le_refl _, (fun _ h => nomatch h), h⟩
theorem ApN.succ {T : List (List Int)} {acc : List Bool} {m n s t : Nat} (h : ApN T acc m (n + 1) s t) : ApN T acc m n s t ∨ ∃ j, j < m ∧ ApN T acc m n (nxt T s j) (nxt T t j) := by
  obtain ⟨ws, h1, h2, h3⟩ := h
  match ws, h1, h2, h3 with
  | [], _, _, h3 => exact .inl ⟨[], Nat.zero_le _, (fun _ h => nomatch h), h3⟩
  | j :: ws, h1, h2, h3 => exact .inr ⟨j, h2 j List.mem_cons_self, ws, Nat.le_of_succ_le_succ h1, fun x hx => h2 x (List.mem_cons_of_mem _ hx), h3⟩
section
variable {w : Nat} {T : List (List Int)} {acc : List Bool}
theorem row_nxt (k : MOk w T acc) {s : Nat} (hs : s < T.length) : T.getD s [] = (List.range (2 ^ w)).map fun j => ((nxt T s j : Nat) : Int) := by
  obtain ⟨r, er, hl, _⟩ := goodT_row k.good hs
  have e1 : T.getD s [] = r := by rw [List.getD_eq_getElem?_getD, er]; rfl
  rw [e1]
  refine List.ext_getElem (by simp [hl]) fun j p q => ?_
  obtain ⟨r', er', ej, _⟩ := goodT_at k.good hs (show j < 2 ^ w by omega)
  rw [er] at er'
  cases er'
  rw [List.getElem_map, List.getElem_range]
  exact Option.some.inj (by rw [← List.getElem?_eq_getElem p]; exact ej)
theorem cls_ap (k : MOk w T acc) : ∀ (i s t : Nat), s < T.length → t < T.length → (cN (sg T acc i) s ≠ cN (sg T acc i) t ↔ ApN T acc (2 ^ w) i s t)
  | 0, s, t, hs, ht => by
    have hs' : s < acc.length := by rw [k.al]; exact hs
    have ht' : t < acc.length := by rw [k.al]; exact ht
    have a1 : (sg T acc 0)[s]? = some [if acc.getD s false = true then (1 : Int) else 0] := by
      show (acc.map _)[s]? = _
      rw [List.getElem?_map, List.getD_eq_getElem?_getD, List.getElem?_eq_getElem hs']; rfl
    have a2 : (sg T acc 0)[t]? = some [if acc.getD t false = true then (1 : Int) else 0] := by
      show (acc.map _)[t]? = _
      rw [List.getElem?_map, List.getD_eq_getElem?_getD, List.getElem?_eq_getElem ht']; rfl
    rw [ApN.zero, ne_eq, cN_iff a1 a2]
    cases acc.getD s false <;> cases acc.getD t false <;> simp
  | i + 1, s, t, hs, ht => by
    have ih := cls_ap k i
    rw [ne_eq, cN_iff (sg_succ hs) (sg_succ ht), row_nxt k hs, row_nxt k ht, List.map_map, List.map_map]
    constructor
    · intro h
      by_cases e : cN (sg T acc i) s = cN (sg T acc i) t
      · refine Classical.byContradiction fun hno => h ?_
        rw [e]
        congr 1
        refine List.map_congr_left fun j hj => ?_
        have hj := List.mem_range.mp hj
        obtain ⟨_, _, _, l1⟩ := goodT_at k.good hs hj
        obtain ⟨_, _, _, l2⟩ := goodT_at k.good ht hj
        show ((cN (sg T acc i) ((nxt T s j : Nat) : Int).toNat : Nat) : Int) = ((cN (sg T acc i) ((nxt T t j : Nat) : Int).toNat : Nat) : Int)
        rw [Int.toNat_natCast, Int.toNat_natCast]
        refine congrArg _ (Classical.byContradiction fun hne => hno ?_)
        exact ApN.cons hj ((ih _ _ l1 l2).mp hne)
      · exact ((ih s t hs ht).mp e).mono (Nat.le_succ i)
    · intro h e
      obtain ⟨e1, e2⟩ := List.cons.inj e
      rcases h.succ with h | ⟨j, hj, h⟩
      · exact (ih s t hs ht).mpr h (Int.ofNat.inj e1)
      · obtain ⟨_, _, _, l1⟩ := goodT_at k.good hs hj
        obtain ⟨_, _, _, l2⟩ := goodT_at k.good ht hj
        refine (ih _ _ l1 l2).mpr h ?_
        have e3 := congrArg (fun l => l[j]?) e2
        simp only [List.getElem?_map, List.getElem?_range hj, Option.map_some, Function.comp_apply, Int.toNat_natCast] at e3
        exact Int.ofNat.inj (Option.some.inj e3)
end
theorem lc_newD {J : It} {n : Nat} {G : Hp → Prop} {Y : Nat → Hp → V → Hp → Prop} (w : Walk J n G Y) {g : TG} {te : TE} {vs : List Nat} {σ : L2.St} {H1 : Hp} {D : Addr} {Qd : Hp → Prop} (obj : Nat → HO) (hn : n ≤ 10000) (hD : H1 D = none)
    (hG : ∀ H, Same H1 H → G H)
    (hs : ∀ i x H H' (N : VK), i < n → Same H1 H → Y i H x H' → (∀ H2 b, Same H H2 → H b = none → H2 b = some (obj i) → N (.ref b) H2) → g x (wipe σ vs) H' fun σ2 H2 => wipe σ2 vs = wipe σ vs ∧ te σ2 H2 N)
    (hd : ∀ H (bs : List Addr), Same H1 H → bs.length = n → bs.Nodup → (∀ (i : Nat) b, bs[i]? = some b → H b = some (obj i) ∧ H1 b = none) → H D = some (.lst (bs.map V.ref)) → Qd H) : LcJ J g tYes te vs D σ H1 Qd := by
  refine lc_it w (fun i H => ∃ bs : List Addr, (bs.length = i ∧ bs.Nodup) ∧ Same H1 H ∧ H D = some (.lst (bs.map V.ref)) ∧ ∀ (j : Nat) b, bs[j]? = some b → H b = some (obj j) ∧ H1 b = none ∧ b ≠ D) ⟨[], ⟨rfl, List.nodup_nil⟩, same_upd hD, upd_same, (fun _ _ h => nomatch h)⟩ (fun i H _ p => hG H p.choose_spec.2.1) (fun i x H H' hi p y => ?_) fun H p => ?_
  · obtain ⟨bs, ⟨hl, hnd⟩, s1, hDl, hb⟩ := p
    refine hs i x H H' (fun y H4 => ∃ acc, H4 D = some (.lst acc) ∧ acc.length < sizeLine ∧ ∃ bs : List Addr, (bs.length = i + 1 ∧ bs.Nodup) ∧ Same H1 (upd H4 D (.lst (acc ++ [y]))) ∧ (upd H4 D (.lst (acc ++ [y]))) D = some (.lst (bs.map V.ref)) ∧ ∀ (j : Nat) b, bs[j]? = some b → (upd H4 D (.lst (acc ++ [y]))) b = some (obj j) ∧ H1 b = none ∧ b ≠ D) hi s1 y fun H2 b s2 hbn hbo => ?_
    refine ⟨_, s2 _ _ hDl, by rw [List.length_map, hl]; exact smallt (by omega), bs ++ [b], ⟨by rw [List.length_append, hl]; rfl, snoc_nodup hnd fun hm => by
      obtain ⟨j, hj⟩ := List.mem_iff_getElem?.mp hm
      have := (hb j b hj).1
      rw [hbn] at this
      cases this⟩, Dw.Same.new (s1.trans s2) hD, by rw [upd_same, List.map_append]; rfl, fun j b' e => ?_⟩
    by_cases hj : j < bs.length
    · rw [List.getElem?_append_left hj] at e
      obtain ⟨h1, h2, h3⟩ := hb j b' e
      exact ⟨by rw [upd_ne h3]; exact s2 _ _ h1, h2, h3⟩
    · rw [List.getElem?_append_right (by omega)] at e
      cases hk : j - bs.length with
      | zero =>
        rw [hk] at e
        cases e
        have hbD : b ≠ D := (ne_of_none hDl hbn).symm
        exact ⟨by rw [upd_ne hbD, show j = i by omega]; exact hbo, s1.free hbn, hbD⟩
      | succ k => rw [hk] at e; cases e
  · obtain ⟨bs, ⟨hl, hnd⟩, s1, hDl, hb⟩ := p
    exact hd H bs s1 hl hnd (fun j b e => ⟨(hb j b e).1, (hb j b e).2.1⟩) hDl
end Dw
namespace Dw
open PySem PySem.Spec PyProof.Rows L2 SX
/-! a machine with a state doubled -/
theorem goodT_of {T : List (List Int)} {l : Nat} (h : ∀ r ∈ T, r.length = l ∧ ∀ x ∈ r, 0 ≤ x ∧ x < (T.length : Int)) : goodT T l = true := by
  refine List.all_eq_true.mpr fun r hr => ?_
  obtain ⟨h1, h2⟩ := h r hr
  unfold goodRow
  rw [Bool.and_eq_true, decide_eq_true_eq, List.all_eq_true]
  exact ⟨h1, fun x hx => by simpa using h2 x hx⟩
theorem goodT_mem {T : List (List Int)} {l : Nat} (g : goodT T l = true) {r : List Int} (hr : r ∈ T) : r.length = l ∧ ∀ x ∈ r, 0 ≤ x ∧ x < (T.length : Int) := by
  obtain ⟨s, hs⟩ := List.mem_iff_getElem?.mp hr
  obtain ⟨r', e, h1, h2⟩ := goodT_row g (List.getElem?_eq_some_iff.mp hs).1
  rw [hs] at e
  cases e
  exact ⟨h1, h2⟩
section
variable {w : Nat} {T : List (List Int)} {acc : List Bool}
theorem getD_mem {o : Nat} (h : o < T.length) : T.getD o [] ∈ T := by rw [List.getD_eq_getElem?_getD, List.getElem?_eq_getElem h]; exact List.getElem_mem h
theorem nxt_app {a : List (List Int)} {s j : Nat} (h : s < T.length) : nxt (T ++ a) s j = nxt T s j := by
  unfold nxt
  have e : (T ++ a).getD s [] = T.getD s [] := by rw [List.getD_eq_getElem?_getD, List.getElem?_append_left h, ← List.getD_eq_getElem?_getD]
  rw [e]
theorem mok_push (k : MOk w T acc) {o : Nat} (ho : o < T.length) (hl : T.length < 400) : MOk w (T ++ [T.getD o []]) (acc ++ [acc.getD o false]) := by
  have hal := k.al
  refine ⟨k.w6, by rw [List.length_append]; exact Nat.lt_of_lt_of_le k.pos (Nat.le_add_right _ _), by rw [List.length_append]; exact hl, goodT_of fun r hr => ?_, by rw [List.length_append, List.length_append, hal]; rfl, fun i hi => ?_⟩
  · have hm : r ∈ T := by
      rcases List.mem_append.mp hr with h | h
      · exact h
      · rw [List.mem_singleton.mp h]; exact getD_mem ho
    obtain ⟨h1, h2⟩ := goodT_mem k.good hm
    refine ⟨h1, fun x hx => ?_⟩
    have := h2 x hx
    rw [List.length_append, List.length_singleton]
    omega
  · rw [List.length_append, List.length_singleton] at hi
    have hp := Nat.two_pow_pos w
    by_cases h : i < T.length
    · obtain ⟨_, _, _, h3⟩ := goodT_at k.good h hp
      rw [nxt_app h, List.getElem?_append_left (by omega), List.getElem?_append_left (by omega)]
      exact k.set i h
    · have e : i = T.length := by omega
      subst e
      obtain ⟨_, _, _, h3⟩ := goodT_at k.good ho hp
      have en : nxt (T ++ [T.getD o []]) T.length 0 = nxt T o 0 := by
        show (((T ++ [T.getD o []]).getD T.length []).getD 0 0).toNat = ((T.getD o []).getD 0 0).toNat
        rw [List.getD_eq_getElem?_getD (l := T ++ [T.getD o []]), List.getElem?_append_right (Nat.le_refl _), Nat.sub_self]
        rfl
      rw [en, List.getElem?_append_left (show nxt T o 0 < acc.length by omega), List.getElem?_append_right (by omega), show T.length - acc.length = 0 by omega, ← k.set o ho, List.getD_eq_getElem?_getD, List.getElem?_eq_getElem (show o < acc.length by omega)]
      rfl
theorem nxt_set_ne {r s j : Nat} {row : List Int} (h : s ≠ r) : nxt (T.set r row) s j = nxt T s j := by
  unfold nxt
  have e : (T.set r row).getD s [] = T.getD s [] := by rw [List.getD_eq_getElem?_getD, List.getElem?_set_ne (Ne.symm h), ← List.getD_eq_getElem?_getD]
  rw [e]
theorem nxt_set_eq {r j : Nat} {row : List Int} (h : r < T.length) : nxt (T.set r row) r j = (row.getD j 0).toNat := by
  unfold nxt
  rw [List.getD_eq_getElem?_getD (l := T.set r row), List.getElem?_set_self h]
  rfl
theorem mok_redir (k : MOk w T acc) {r l v : Nat} (hr : r < T.length) (hl : l < 2 ^ w) (hv : v < T.length) (ha : acc[v]? = acc[nxt T r l]?) : MOk w (T.set r ((T.getD r []).set l (v : Int))) acc := by
  refine ⟨k.w6, by rw [List.length_set]; exact k.pos, by rw [List.length_set]; exact k.le, goodT_of fun q hq => ?_, by rw [List.length_set]; exact k.al, fun i hi => ?_⟩
  · rw [List.length_set]
    rcases List.mem_or_eq_of_mem_set hq with h | h
    · exact goodT_mem k.good h
    · obtain ⟨h1, h2⟩ := goodT_mem k.good (getD_mem hr)
      rw [h]
      refine ⟨by rw [List.length_set]; exact h1, fun x hx => ?_⟩
      rcases List.mem_or_eq_of_mem_set hx with h | h
      · exact h2 x h
      · rw [h]; omega
  · rw [List.length_set] at hi
    by_cases e : i = r
    · subst e
      rw [nxt_set_eq hr]
      by_cases e0 : l = 0
      · subst e0
        have hlen : 0 < (T.getD i []).length := by rw [(goodT_mem k.good (getD_mem hr)).1]; exact Nat.two_pow_pos w
        rw [List.getD_eq_getElem?_getD (l := (T.getD i []).set 0 (v : Int)), List.getElem?_set_self hlen]
        show acc[i]? = acc[(v : Int).toNat]?
        rw [Int.toNat_natCast, ha]
        exact k.set i hr
      · rw [List.getD_eq_getElem?_getD (l := (T.getD i []).set l (v : Int)), List.getElem?_set_ne e0, ← List.getD_eq_getElem?_getD]
        exact k.set i hr
    · rw [nxt_set_ne e]
      exact k.set i hi
end
end Dw
namespace Dw
open PySem PySem.Spec PyProof.Rows L2 SX
theorem Pool.upd {H H' : Hp} {p q t : Addr} {ns : List Int} {o : HO} (d : Pool H p q ns) (b : But p H H') (d' : Pool H' p q ns) (ht : H t = none) : Pool (L2.upd H' t o) p q ns := d'.set (d.ne ht) (d.neq ht)
theorem Pool.free {H H' : Hp} {p q t : Addr} {ns : List Int} (d : Pool H p q ns) (b : But p H H') (d' : Pool H' p q ns) (ht : H' t = none) : H t = none := b.free d' ht
/-- the settled marks of drawn bits -/
def ringM (f : Nat → Nat) (n : Nat) (bits : List Bool) (acc : List Bool) : Prop := acc.length = n ∧ ∀ s, s < n → ∃ m, IsMin m (ringL f n s) ∧ acc[s]? = some (bits.getD m false)
theorem ringM_set {f : Nat → Nat} {n : Nat} {bits acc : List Bool} (h : ringM f n bits acc) (hf : ∀ x, x < n → f x < n) {i : Nat} (hi : i < n) : acc[i]? = acc[f i]? := by
  obtain ⟨m, h1, h2⟩ := h.2 i hi
  obtain ⟨k, h3, h4⟩ := h.2 (f i) (hf i hi)
  rw [h2, h4, h1.eq h3 fun x => ring_same hf hi]
/-! words that are accepted, counted -/
def cw (T : List (List Int)) (acc : List Bool) : Nat → Nat → Int
  | 0, s => if acc.getD s false = true then 1 else 0
  | d + 1, s => ((T.getD s []).map fun x => cw T acc d x.toNat).sum
def rowN (T : List (List Int)) (s : Nat) : List Nat := (T.getD s []).map Int.toNat
def stL (T : List (List Int)) : Nat → List Nat
  | 0 => [0]
  | d + 1 => (stL T d).flatMap (rowN T)
theorem sum_append (a b : List Int) : (a ++ b).sum = a.sum + b.sum := by
  induction a with
  | nil => simp
  | cons x r ih => simp [ih, Int.add_assoc]
theorem cw_rows (T : List (List Int)) (acc : List Bool) (d : Nat) : ∀ L : List Nat, (L.map (cw T acc (d + 1))).sum = ((L.flatMap (rowN T)).map (cw T acc d)).sum
  | [] => rfl
  | s :: L => by
    rw [List.map_cons, List.sum_cons, cw_rows T acc d L, List.flatMap_cons, List.map_append, sum_append]
    congr 1
    unfold rowN
    rw [List.map_map]
    rfl
theorem cw_st (T : List (List Int)) (acc : List Bool) : ∀ k d, ((stL T k).map (cw T acc d)).sum = cw T acc (k + d) 0
  | 0, d => by
    rw [Nat.zero_add]
    show cw T acc d 0 + 0 = _
    rw [Int.add_zero]
  | k + 1, d => by
    show (((stL T k).flatMap (rowN T)).map (cw T acc d)).sum = _
    rw [← cw_rows, cw_st T acc k (d + 1), show k + (d + 1) = k + 1 + d by omega]
theorem cw_count (T : List (List Int)) (acc : List Bool) : ∀ L : List Nat, (L.map (cw T acc 0)).sum = ((L.filter fun s => acc.getD s false).length : Int)
  | [] => rfl
  | s :: L => by
    rw [List.map_cons, List.sum_cons, cw_count T acc L]
    show (if acc.getD s false = true then (1 : Int) else 0) + _ = _
    by_cases h : acc.getD s false = true
    · rw [if_pos h, List.filter_cons, if_pos h, List.length_cons]; omega
    · rw [if_neg h, List.filter_cons, if_neg h]; omega
theorem st_lt {w : Nat} {T : List (List Int)} {acc : List Bool} (k : MOk w T acc) : ∀ d, ∀ s ∈ stL T d, s < T.length
  | 0, s, h => by rw [List.mem_singleton.mp h]; exact k.pos
  | d + 1, s, h => by
    obtain ⟨x, hx, hs⟩ := List.mem_flatMap.mp h
    obtain ⟨r, er, hrl, hrx⟩ := goodT_row k.good (st_lt k d x hx)
    unfold rowN at hs
    rw [List.getD_eq_getElem?_getD, er] at hs
    obtain ⟨y, hy, rfl⟩ := List.mem_map.mp hs
    have := hrx y hy
    omega
theorem st_len {w : Nat} {T : List (List Int)} {acc : List Bool} (k : MOk w T acc) : ∀ d, (stL T d).length = (2 ^ w) ^ d
  | 0 => rfl
  | d + 1 => by
    have : ∀ L : List Nat, (∀ s ∈ L, s < T.length) → (L.flatMap (rowN T)).length = L.length * 2 ^ w := fun L => by
      induction L with
      | nil => intro _; simp
      | cons s L ih =>
        intro h
        obtain ⟨r, er, hrl, _⟩ := goodT_row k.good (h s List.mem_cons_self)
        rw [List.flatMap_cons, List.length_append, ih fun x hx => h x (List.mem_cons_of_mem _ hx), List.length_cons, Nat.succ_mul]
        unfold rowN
        rw [List.length_map, List.getD_eq_getElem?_getD, er]
        show r.length + _ = _
        omega
    show ((stL T d).flatMap (rowN T)).length = _
    rw [this _ (st_lt k d), st_len k d, Nat.pow_succ]
end Dw
namespace Dw
open PySem PySem.Spec PyProof.Rows L2 SX
section
variable {w : Nat} {T : List (List Int)} {acc : List Bool}
theorem rowN_at (k : MOk w T acc) {s l : Nat} (hs : s < T.length) (hl : l < 2 ^ w) : (rowN T s)[l]? = some (nxt T s l) := by
  obtain ⟨r, er, e2, _⟩ := goodT_at k.good hs hl
  unfold rowN
  rw [List.getD_eq_getElem?_getD, er, List.getElem?_map, Option.getD_some, e2]
  show some (Int.toNat ((nxt T s l : Nat) : Int)) = _
  rw [Int.toNat_natCast]
theorem rowN_len (k : MOk w T acc) {s : Nat} (hs : s < T.length) : (rowN T s).length = 2 ^ w := by
  obtain ⟨r, er, hrl, _⟩ := goodT_row k.good hs
  unfold rowN
  rw [List.length_map, List.getD_eq_getElem?_getD, er]
  exact hrl
theorem mem_rowN (k : MOk w T acc) {s x : Nat} (hs : s < T.length) : x ∈ rowN T s ↔ ∃ l, l < 2 ^ w ∧ nxt T s l = x := by
  constructor
  · intro h
    obtain ⟨l, hl, e⟩ := List.mem_iff_getElem.mp h
    have hl2 := hl
    rw [rowN_len k hs] at hl2
    have h2 := rowN_at k hs hl2
    rw [List.getElem?_eq_getElem hl, e] at h2
    exact ⟨l, hl2, (Option.some.inj h2).symm⟩
  · rintro ⟨l, hl, rfl⟩
    exact List.mem_of_getElem? (rowN_at k hs hl)
theorem mem_stL (k : MOk w T acc) : ∀ (d s : Nat), s ∈ stL T d ↔ ∃ ls : List Nat, ls.length = d ∧ (∀ l ∈ ls, l < 2 ^ w) ∧ runT T 0 ls = s
  | 0, s => by
    constructor
    · intro h
      rw [List.mem_singleton.mp h]
      exact ⟨[], rfl, (fun _ h => nomatch h), rfl⟩
    · rintro ⟨ls, h1, _, h3⟩
      rw [List.length_eq_zero_iff.mp h1] at h3
      exact List.mem_singleton.mpr h3.symm
  | d + 1, s => by
    constructor
    · intro h
      obtain ⟨x, hx, hs⟩ := List.mem_flatMap.mp h
      obtain ⟨l, hl, e⟩ := (mem_rowN k (st_lt k d x hx)).mp hs
      obtain ⟨ls, h1, h2, h3⟩ := (mem_stL k d x).mp hx
      refine ⟨ls ++ [l], by rw [List.length_append, h1]; rfl, fun y hy => ?_, by rw [runT_snoc, h3, e]⟩
      rcases List.mem_append.mp hy with hy | hy
      · exact h2 y hy
      · rw [List.mem_singleton.mp hy]; exact hl
    · rintro ⟨ls, h1, h2, h3⟩
      obtain ⟨a, l, rfl⟩ := snoc_of (l := ls) (fun e => by rw [e] at h1; cases h1)
      rw [runT_snoc] at h3
      have ha : ∀ y ∈ a, y < 2 ^ w := fun y hy => h2 y (List.mem_append_left _ hy)
      have hx : runT T 0 a ∈ stL T d := (mem_stL k d _).mpr ⟨a, by rw [List.length_append] at h1; exact Nat.succ.inj h1, ha, rfl⟩
      exact List.mem_flatMap.mpr ⟨_, hx, (mem_rowN k (st_lt k d _ hx)).mpr ⟨l, h2 l (List.mem_append_right _ List.mem_cons_self), h3⟩⟩
/-- a letter that is not 0 leads on to an accepting state -/
def endB (T : List (List Int)) (acc : List Bool) (s : Nat) : Bool := ((rowN T s).drop 1).any fun x => acc.getD x false
def endC (T : List (List Int)) (acc : List Bool) (s : Nat) : Nat := (((rowN T s).drop 1).filter fun x => acc.getD x false).length
theorem cw_one (k : MOk w T acc) {s : Nat} (hs : s < T.length) : cw T acc 1 s = cw T acc 0 s + (endC T acc s : Nat) := by
  have e : cw T acc 1 s = ((rowN T s).map (cw T acc 0)).sum := by
    show ((T.getD s []).map fun x => cw T acc 0 x.toNat).sum = _
    unfold rowN
    rw [List.map_map]
    rfl
  have h0 := rowN_at k hs (Nat.two_pow_pos w)
  have hsp : rowN T s = nxt T s 0 :: (rowN T s).drop 1 := by
    cases hr : rowN T s with
    | nil => rw [hr] at h0; cases h0
    | cons x r => rw [hr] at h0; cases h0; rfl
  rw [e, cw_count]
  unfold endC
  rw [hsp]
  show ((List.filter _ (nxt T s 0 :: ((rowN T s).drop 1))).length : Int) = _
  have hset : acc.getD (nxt T s 0) false = acc.getD s false := by
    rw [List.getD_eq_getElem?_getD, List.getD_eq_getElem?_getD, k.set s hs]
  rw [List.drop_succ_cons, List.drop_zero, List.filter_cons, hset]
  show _ = (if acc.getD s false = true then (1 : Int) else 0) + _
  by_cases h : acc.getD s false = true
  · rw [if_pos h, if_pos h, List.length_cons]; omega
  · rw [if_neg h, if_neg h]; omega
theorem endB_iff {s : Nat} : endB T acc s = true ↔ 0 < endC T acc s := by
  unfold endB endC
  rw [List.any_eq_true, List.length_pos_iff_exists_mem]
  constructor
  · rintro ⟨x, hx, h⟩; exact ⟨x, List.mem_filter.mpr ⟨hx, h⟩⟩
  · rintro ⟨x, hx⟩; exact ⟨x, (List.mem_filter.mp hx).1, (List.mem_filter.mp hx).2⟩
def endE (T : List (List Int)) (acc : List Bool) (d : Nat) : Bool := (stL T d).any (endB T acc)
theorem cw_step (k : MOk w T acc) (d : Nat) : ∃ c : Nat, cw T acc (d + 1) 0 = cw T acc d 0 + c ∧ (endE T acc d = true ↔ 0 < c) := by
  have h1 := cw_st T acc d 1
  have h0 := cw_st T acc d 0
  rw [Nat.add_zero] at h0
  have gen : ∀ L : List Nat, (∀ s ∈ L, s < T.length) → ∃ c : Nat, (L.map (cw T acc 1)).sum = (L.map (cw T acc 0)).sum + c ∧ (L.any (endB T acc) = true ↔ 0 < c) := fun L => by
    induction L with
    | nil => intro _; exact ⟨0, rfl, by simp⟩
    | cons s L ih =>
      intro hL
      obtain ⟨c, e1, e2⟩ := ih fun x hx => hL x (List.mem_cons_of_mem _ hx)
      refine ⟨endC T acc s + c, ?_, ?_⟩
      · rw [List.map_cons, List.sum_cons, List.map_cons, List.sum_cons, cw_one k (hL s List.mem_cons_self), e1]
        omega
      · rw [List.any_cons, Bool.or_eq_true, endB_iff, e2]
        omega
  obtain ⟨c, e1, e2⟩ := gen _ (st_lt k d)
  exact ⟨c, by rw [← h1, ← h0]; exact e1, e2⟩
theorem cw_eq (k : MOk w T acc) (a : Nat) : ∀ m, cw T acc a 0 ≤ cw T acc (a + m) 0 ∧ (cw T acc a 0 = cw T acc (a + m) 0 ↔ ∀ i, i < m → endE T acc (a + i) = false)
  | 0 => ⟨Int.le_refl _, ⟨fun _ i h => absurd h (Nat.not_lt_zero i), fun _ => rfl⟩⟩
  | m + 1 => by
    obtain ⟨h1, h2⟩ := cw_eq k a m
    obtain ⟨c, e1, e2⟩ := cw_step k (a + m)
    have e3 : cw T acc (a + (m + 1)) 0 = cw T acc (a + m) 0 + c := e1
    rw [e3]
    refine ⟨by omega, ?_⟩
    constructor
    · intro h i hi
      by_cases him : i < m
      · exact h2.mp (by omega) i him
      · have : i = m := by omega
        subst this
        cases he : endE T acc (a + i) with
        | false => rfl
        | true => have := e2.mp he; omega
    · intro h
      have e4 := h2.mpr fun i hi => h i (by omega)
      have e5 : c = 0 := by
        rcases Nat.eq_zero_or_pos c with z | z
        · exact z
        · have := e2.mpr z
          rw [h m (by omega)] at this
          cases this
      omega
/-- a long tuple has a shorter one beside it -/
theorem pump (k : MOk w T acc) : ∀ d, T.length - 1 ≤ d → endE T acc d = true → ∃ i, i < T.length ∧ endE T acc (T.length - 1 + i) = true := by
  intro d
  induction d using Nat.strongRecOn with
  | ind d ih =>
    intro hd he
    have hp := k.pos
    by_cases hs : d ≤ 2 * T.length - 2
    · exact ⟨d - (T.length - 1), by omega, by rw [show T.length - 1 + (d - (T.length - 1)) = d by omega]; exact he⟩
    · obtain ⟨s, hsm, hse⟩ := List.any_eq_true.mp he
      obtain ⟨ls, h1, h2, h3⟩ := (mem_stL k d s).mp hsm
      obtain ⟨i, j, hij, hj, e⟩ := pigeon T.length (fun i => runT T 0 (ls.take i)) fun i _ => runT_lt k.good _ _ (fun x hx => h2 x (List.mem_of_mem_take hx)) hp
      have e : runT T 0 (ls.take i) = runT T 0 (ls.take j) := e
      have h4 : runT T 0 (ls.take i ++ ls.drop j) = s := by rw [runT_app, e, ← runT_app, List.take_append_drop, h3]
      have hl : (ls.take i ++ ls.drop j).length = d - (j - i) := by rw [List.length_append, List.length_take, List.length_drop]; omega
      refine ih (d - (j - i)) (by omega) (by omega) (List.any_eq_true.mpr ⟨s, (mem_stL k _ s).mpr ⟨_, hl, fun x hx => ?_, h4⟩, hse⟩)
      rcases List.mem_append.mp hx with hx | hx
      · exact h2 x (List.mem_of_mem_take hx)
      · exact h2 x (List.mem_of_mem_drop hx)
/-- finitely many, as it is found -/
def finB (T : List (List Int)) (acc : List Bool) : Bool := (List.range T.length).all fun i => !endE T acc (T.length - 1 + i)
theorem finB_iff (k : MOk w T acc) : finB T acc = true ↔ cw T acc (T.length - 1) 0 = cw T acc (3 * T.length) 0 := by
  have hp := k.pos
  have h := (cw_eq k (T.length - 1) (2 * T.length + 1)).2
  rw [show T.length - 1 + (2 * T.length + 1) = 3 * T.length by omega] at h
  rw [h]
  unfold finB
  rw [List.all_eq_true]
  constructor
  · intro h1 i hi
    cases he : endE T acc (T.length - 1 + i) with
    | false => rfl
    | true =>
      obtain ⟨q, hq, e⟩ := pump k _ (by omega) he
      have := h1 q (List.mem_range.mpr hq)
      rw [e] at this
      cases this
  · intro h1 i hi
    have := List.mem_range.mp hi
    rw [h1 i (by omega)]
    rfl
/-- the marks of the states behind so many letters -/
def mkL (T : List (List Int)) (d : Nat) : List Bool := (List.range T.length).map fun s => decide (s ∈ stL T d)
def mbL (T : List (List Int)) (ms : List Bool) : List Bool := (List.range T.length).map fun x => (List.range T.length).any fun s => ms.getD s false && decide (x ∈ rowN T s)
theorem mkL_at {d s : Nat} (hs : s < T.length) : (mkL T d)[s]? = some (decide (s ∈ stL T d)) := by
  unfold mkL
  rw [List.getElem?_map, List.getElem?_range hs]
  rfl
theorem mkL_len (d : Nat) : (mkL T d).length = T.length := by unfold mkL; rw [List.length_map, List.length_range]
theorem mbL_len (ms : List Bool) : (mbL T ms).length = T.length := by unfold mbL; rw [List.length_map, List.length_range]
theorem mbL_mkL (k : MOk w T acc) (d : Nat) : mbL T (mkL T d) = mkL T (d + 1) := by
  unfold mbL
  show _ = (List.range T.length).map fun s => decide (s ∈ stL T (d + 1))
  refine List.map_congr_left fun x hx => ?_
  have e : ((List.range T.length).any fun s => (mkL T d).getD s false && decide (x ∈ rowN T s)) = true ↔ x ∈ stL T (d + 1) := by
    rw [List.any_eq_true]
    show _ ↔ x ∈ (stL T d).flatMap (rowN T)
    rw [List.mem_flatMap]
    constructor
    · rintro ⟨s, hs, h⟩
      rw [Bool.and_eq_true, List.getD_eq_getElem?_getD, mkL_at (List.mem_range.mp hs)] at h
      exact ⟨s, of_decide_eq_true h.1, of_decide_eq_true h.2⟩
    · rintro ⟨s, hs, h⟩
      have hsT := st_lt k d s hs
      refine ⟨s, List.mem_range.mpr hsT, ?_⟩
      rw [Bool.and_eq_true, List.getD_eq_getElem?_getD, mkL_at hsT]
      exact ⟨decide_eq_true hs, decide_eq_true h⟩
  by_cases hx2 : x ∈ stL T (d + 1)
  · rw [decide_eq_true hx2]; exact e.mpr hx2
  · rw [decide_eq_false hx2]
    cases hb : ((List.range T.length).any fun s => (mkL T d).getD s false && decide (x ∈ rowN T s)) with
    | false => rfl
    | true => exact absurd (e.mp hb) hx2
theorem mkL_zero (k : MOk w T acc) : mkL T 0 = (List.range T.length).map fun s => decide (s = 0) := by
  unfold mkL
  refine List.map_congr_left fun s _ => ?_
  have : (s ∈ stL T 0) ↔ s = 0 := List.mem_singleton
  by_cases h : s = 0
  · rw [decide_eq_true h, decide_eq_true (this.mpr h)]
  · rw [decide_eq_false h, decide_eq_false (fun z => h (this.mp z))]
theorem endE_any (k : MOk w T acc) (d : Nat) : ((List.range T.length).any fun s => (mkL T d).getD s false && endB T acc s) = endE T acc d := by
  have e : ((List.range T.length).any fun s => (mkL T d).getD s false && endB T acc s) = true ↔ endE T acc d = true := by
    unfold endE
    rw [List.any_eq_true, List.any_eq_true]
    constructor
    · rintro ⟨s, hs, h⟩
      rw [Bool.and_eq_true, List.getD_eq_getElem?_getD, mkL_at (List.mem_range.mp hs)] at h
      exact ⟨s, of_decide_eq_true h.1, h.2⟩
    · rintro ⟨s, hs, h⟩
      have hsT := st_lt k d s hs
      refine ⟨s, List.mem_range.mpr hsT, ?_⟩
      rw [Bool.and_eq_true, List.getD_eq_getElem?_getD, mkL_at hsT]
      exact ⟨decide_eq_true hs, h⟩
  cases h1 : endE T acc d with
  | true => exact e.mpr h1
  | false =>
    cases h2 : ((List.range T.length).any fun s => (mkL T d).getD s false && endB T acc s) with
    | false => rfl
    | true => rw [e.mp h2] at h1; cases h1
end
theorem inV_tr : ∀ L : List Bool, inV (.bl true) (L.map V.bl) = L.any id
  | [] => rfl
  | a :: L => by
    have ih := inV_tr L
    unfold inV at ih ⊢
    rw [List.map_cons, List.any_cons, ih, List.any_cons]
    cases a <;> rfl
theorem flat_b (L : List Bool) : (L.map V.bl).all flatV = true := List.all_eq_true.mpr fun z hz => by
  obtain ⟨_, _, rfl⟩ := List.mem_map.mp hz
  rfl
theorem piZ {X : Cx} (K : PySem.W.Frag) {e e2 : Expr} {ta : TA} {p pos tpos : Pos} {elts : List Expr} {kk : Nat} (hg : Gl X "zip") (hm : X.mg "zip" = none) (ha : PA X [e, e2] ta)
    (hs : starEach [e, e2] X.env = (false, eval e X.env) :: starEach [e2] X.env := by rfl) (hpl : (backTo pos (starEach [e2] X.env)).any (·.1) = false := by rfl) (h : X.K = K := by rfl) :
    PI X (.Tuple elts kk tpos) (.Call (.Name "zip" p) [e, e2] [] pos) (iZip K ta) := h ▸ pi_zip hg hm ha hs hpl
end Dw
namespace Dw
open PySem PySem.Spec PyProof.Rows L2 SX
section
variable {w : Nat} {T : List (List Int)} {acc : List Bool}
/-- a machine of width 1 takes a number -/
def accN (T : List (List Int)) (acc : List Bool) (m : Nat) : Bool := acc.getD (runT T 0 (bitsL m (blen m))) false
theorem bitsL_lt1 (n k : Nat) : ∀ l ∈ bitsL n k, l < 2 ^ 1 := fun l hl => bitsL_bits n k l hl
theorem bitsL_pad {m k z : Nat} (h : m < 2 ^ k) : bitsL m (k + z) = bitsL m k ++ List.replicate z 0 := by
  refine List.ext_getElem (by simp [bitsL]) fun i p q => ?_
  by_cases hi : i < k
  · rw [List.getElem_append_left (by rw [bitsL_len]; exact hi)]
    simp [bitsL]
  · rw [List.getElem_append_right (by rw [bitsL_len]; omega), List.getElem_replicate]
    have : m / 2 ^ i = 0 := Nat.div_eq_of_lt (Nat.lt_of_lt_of_le h (Nat.pow_le_pow_right (by decide) (by omega)))
    simp [bitsL, this]
theorem accN_pad (k : MOk 1 T acc) {m n : Nat} (h : m < 2 ^ n) : acc.getD (runT T 0 (bitsL m n)) false = accN T acc m := by
  have hb := blen_le h
  have e : bitsL m n = bitsL m (blen m) ++ List.replicate (n - blen m) 0 := by
    rw [← bitsL_pad (lt_blen m), show blen m + (n - blen m) = n by omega]
  unfold accN
  rw [e, runT_app, List.getD_eq_getElem?_getD, List.getD_eq_getElem?_getD, k.zeros]
  exact runT_lt k.good _ _ (bitsL_lt1 m _) k.pos
/-- an accepting state behind so many letters -/
def accE (T : List (List Int)) (acc : List Bool) (d : Nat) : Bool := (stL T d).any fun s => acc.getD s false
theorem accE_any (k : MOk w T acc) (d : Nat) : ((List.range T.length).any fun s => (mkL T d).getD s false && acc.getD s false) = accE T acc d := by
  have e : ((List.range T.length).any fun s => (mkL T d).getD s false && acc.getD s false) = true ↔ accE T acc d = true := by
    unfold accE
    rw [List.any_eq_true, List.any_eq_true]
    constructor
    · rintro ⟨s, hs, h⟩
      rw [Bool.and_eq_true, List.getD_eq_getElem?_getD, mkL_at (List.mem_range.mp hs)] at h
      exact ⟨s, of_decide_eq_true h.1, h.2⟩
    · rintro ⟨s, hs, h⟩
      have hsT := st_lt k d s hs
      refine ⟨s, List.mem_range.mpr hsT, ?_⟩
      rw [Bool.and_eq_true, List.getD_eq_getElem?_getD, mkL_at hsT]
      exact ⟨decide_eq_true hs, h⟩
  cases h1 : accE T acc d with
  | true => exact e.mpr h1
  | false =>
    cases h2 : ((List.range T.length).any fun s => (mkL T d).getD s false && acc.getD s false) with
    | false => rfl
    | true => rw [e.mp h2] at h1; cases h1
/-- no short word is accepted, so none is -/
theorem none_acc (k : MOk w T acc) (h : ∀ d, d < T.length → accE T acc d = false) : ∀ (n : Nat) (ls : List Nat), ls.length = n → (∀ l ∈ ls, l < 2 ^ w) → acc.getD (runT T 0 ls) false = false := by
  intro n
  induction n using Nat.strongRecOn with
  | ind n ih =>
    intro ls hl hw
    by_cases hn : n < T.length
    · cases hb : acc.getD (runT T 0 ls) false with
      | false => rfl
      | true =>
        have : accE T acc n = true := List.any_eq_true.mpr ⟨_, (mem_stL k n _).mpr ⟨ls, hl, hw, rfl⟩, hb⟩
        rw [h n hn] at this
        cases this
    · obtain ⟨i, j, hij, hj, e⟩ := pigeon T.length (fun i => runT T 0 (ls.take i)) fun i _ => runT_lt k.good _ _ (fun x hx => hw x (List.mem_of_mem_take hx)) k.pos
      have e : runT T 0 (ls.take i) = runT T 0 (ls.take j) := e
      have h4 : runT T 0 (ls.take i ++ ls.drop j) = runT T 0 ls := by
        rw [runT_app, e, ← runT_app, List.take_append_drop]
      have hlen : (ls.take i ++ ls.drop j).length = n - (j - i) := by rw [List.length_append, List.length_take, List.length_drop]; omega
      rw [← h4]
      refine ih (n - (j - i)) (by omega) _ hlen fun x hx => ?_
      rcases List.mem_append.mp hx with hx | hx
      · exact hw x (List.mem_of_mem_take hx)
      · exact hw x (List.mem_of_mem_drop hx)
/-- the marked states that a digit leads to a wanted one -/
def stepW (T : List (List Int)) (ms W : List Bool) (c : Nat) : List Bool := (List.range T.length).map fun s => ms.getD s false && W.getD (nxt T s c) false
theorem stepW_at {ms W : List Bool} {c s : Nat} (hs : s < T.length) : (stepW T ms W c).getD s false = (ms.getD s false && W.getD (nxt T s c) false) := by
  unfold stepW
  rw [List.getD_eq_getElem?_getD, List.getElem?_map, List.getElem?_range hs]
  rfl
theorem stepW_len {ms W : List Bool} {c : Nat} : (stepW T ms W c).length = T.length := by unfold stepW; rw [List.length_map, List.length_range]
def anyW (W : List Bool) : Bool := W.any id
theorem stepW_any {ms W : List Bool} {c : Nat} : (stepW T ms W c).any id = true ↔ ∃ s, s < T.length ∧ ms.getD s false = true ∧ W.getD (nxt T s c) false = true := by
  unfold stepW
  rw [List.any_map, List.any_eq_true]
  constructor
  · rintro ⟨s, hs, h⟩
    have h : (ms.getD s false && W.getD (nxt T s c) false) = true := h
    rw [Bool.and_eq_true] at h
    exact ⟨s, List.mem_range.mp hs, h.1, h.2⟩
  · rintro ⟨s, hs, h1, h2⟩
    refine ⟨s, List.mem_range.mpr hs, ?_⟩
    show (ms.getD s false && W.getD (nxt T s c) false) = true
    rw [h1, h2]; rfl
/-- how far the digits are chosen: d letters in all, k of them left -/
structure Grd (T : List (List Int)) (acc : List Bool) (d k num : Nat) (W : List Bool) : Prop where
  le : k ≤ d
  len : W.length = T.length
  lt : num < 2 ^ (d - k)
  ex : ∃ s, s ∈ stL T k ∧ W.getD s false = true
  run : ∀ s, s ∈ stL T k → W.getD s false = acc.getD (runT T s (bitsL num (d - k))) false
  min : ∀ v, v < 2 ^ d → acc.getD (runT T 0 (bitsL v d)) false = true → num ≤ v / 2 ^ k
theorem Grd.start (k : MOk 1 T acc) {d : Nat} (h : accE T acc d = true) : Grd T acc d d 0 acc := by
  obtain ⟨s, hs, ha⟩ := List.any_eq_true.mp h
  refine ⟨Nat.le_refl _, k.al, Nat.two_pow_pos _, ⟨s, hs, ha⟩, fun s _ => ?_, fun v hv _ => Nat.zero_le _⟩
  rw [Nat.sub_self]
  rfl
theorem Grd.zero (k : MOk 1 T acc) {d i num : Nat} {W : List Bool} (g : Grd T acc d (i + 1) num W) (h : (stepW T (mkL T i) W 0).any id = true) : Grd T acc d i (2 * num) (stepW T (mkL T i) W 0) := by
  obtain ⟨s0, hs0, hm0, hW0⟩ := stepW_any.mp h
  rw [List.getD_eq_getElem?_getD, mkL_at hs0] at hm0
  have hle := g.le
  refine ⟨by omega, stepW_len, ?_, ⟨s0, of_decide_eq_true hm0, ?_⟩, fun s hs => ?_, fun v hv ha => ?_⟩
  · have := g.lt
    rw [show d - i = (d - (i + 1)) + 1 by omega, Nat.pow_succ]
    omega
  · rw [stepW_at hs0, List.getD_eq_getElem?_getD, mkL_at hs0]
    show (decide (s0 ∈ stL T i) && _) = true
    rw [hm0 |> fun (z : decide (s0 ∈ stL T i) = true) => z, hW0]
    rfl
  · have hsT := st_lt k i s hs
    have hn : nxt T s 0 ∈ stL T (i + 1) := List.mem_flatMap.mpr ⟨s, hs, (mem_rowN k hsT).mpr ⟨0, by decide, rfl⟩⟩
    rw [stepW_at hsT, List.getD_eq_getElem?_getD, mkL_at hsT]
    show (decide (s ∈ stL T i) && _) = _
    rw [decide_eq_true hs, Bool.true_and, g.run _ hn, show d - i = (d - (i + 1)) + 1 by omega, bitsL_succ]
    have e1 : 2 * num % 2 = 0 := by omega
    have e2 : 2 * num / 2 = num := by omega
    rw [e1, e2]
    rfl
  · have := g.min v hv ha
    rw [Nat.pow_succ, ← Nat.div_div_eq_div_mul] at this
    omega
theorem bitsL_app (v a b : Nat) : bitsL v (a + b) = bitsL v a ++ bitsL (v / 2 ^ a) b := by
  refine List.ext_getElem (by simp [bitsL]) fun i p q => ?_
  by_cases hi : i < a
  · rw [List.getElem_append_left (by rw [bitsL_len]; exact hi)]
    simp [bitsL]
  · rw [List.getElem_append_right (by rw [bitsL_len]; omega)]
    simp only [bitsL, List.getElem_map, List.getElem_range, List.length_map, List.length_range]
    rw [Nat.div_div_eq_div_mul, ← Nat.pow_add, show a + (i - a) = i by omega]
theorem Grd.one (k : MOk 1 T acc) {d i num : Nat} {W : List Bool} (g : Grd T acc d (i + 1) num W) (h : ¬ (stepW T (mkL T i) W 0).any id = true) : Grd T acc d i (2 * num + 1) (stepW T (mkL T i) W 1) := by
  have hle := g.le
  have no : ∀ s, s ∈ stL T i → W.getD (nxt T s 0) false = false := fun s hs => by
    cases hb : W.getD (nxt T s 0) false with
    | false => rfl
    | true =>
      have hsT := st_lt k i s hs
      refine absurd (stepW_any.mpr ⟨s, hsT, ?_, hb⟩) h
      rw [List.getD_eq_getElem?_getD, mkL_at hsT]
      exact decide_eq_true hs
  obtain ⟨s1, hs1, hW1⟩ := g.ex
  obtain ⟨s0, hs0, hs01⟩ := List.mem_flatMap.mp hs1
  have hs0T := st_lt k i s0 hs0
  obtain ⟨l, hl, e⟩ := (mem_rowN k hs0T).mp hs01
  have hl1 : l = 1 := by
    have : l ≠ 0 := fun z => by
      rw [z] at e
      have := no s0 hs0
      rw [e, hW1] at this
      cases this
    have : l < 2 := hl
    omega
  subst hl1
  refine ⟨by omega, stepW_len, ?_, ⟨s0, hs0, ?_⟩, fun s hs => ?_, fun v hv ha => ?_⟩
  · have := g.lt
    rw [show d - i = (d - (i + 1)) + 1 by omega, Nat.pow_succ]
    omega
  · rw [stepW_at hs0T, List.getD_eq_getElem?_getD, mkL_at hs0T]
    show (decide (s0 ∈ stL T i) && _) = true
    rw [decide_eq_true hs0, e, hW1]
    rfl
  · have hsT := st_lt k i s hs
    have hn : nxt T s 1 ∈ stL T (i + 1) := List.mem_flatMap.mpr ⟨s, hs, (mem_rowN k hsT).mpr ⟨1, by decide, rfl⟩⟩
    rw [stepW_at hsT, List.getD_eq_getElem?_getD, mkL_at hsT]
    show (decide (s ∈ stL T i) && _) = _
    rw [decide_eq_true hs, Bool.true_and, g.run _ hn, show d - i = (d - (i + 1)) + 1 by omega, bitsL_succ]
    have e1 : (2 * num + 1) % 2 = 1 := by omega
    have e2 : (2 * num + 1) / 2 = num := by omega
    rw [e1, e2]
    rfl
  · have hmin := g.min v hv ha
    rw [Nat.pow_succ, ← Nat.div_div_eq_div_mul] at hmin
    rcases Nat.lt_or_ge (2 * num) (v / 2 ^ i) with z | z
    · exact z
    · have hd : v / 2 ^ i = 2 * num := by omega
      have hsi : runT T 0 (bitsL v i) ∈ stL T i := (mem_stL k i _).mpr ⟨bitsL v i, bitsL_len v i, bitsL_lt1 v i, rfl⟩
      have hsT := st_lt k i _ hsi
      have hn : nxt T (runT T 0 (bitsL v i)) 0 ∈ stL T (i + 1) := List.mem_flatMap.mpr ⟨_, hsi, (mem_rowN k hsT).mpr ⟨0, by decide, rfl⟩⟩
      have h1 := g.run _ hn
      rw [no _ hsi] at h1
      have e3 : bitsL v d = bitsL v i ++ bitsL (v / 2 ^ i) ((d - (i + 1)) + 1) := by
        rw [← bitsL_app, show i + ((d - (i + 1)) + 1) = d by omega]
      rw [e3, hd, bitsL_succ, runT_app] at ha
      have e1 : 2 * num % 2 = 0 := by omega
      have e2 : 2 * num / 2 = num := by omega
      rw [e1, e2] at ha
      have ha : acc.getD (runT T (nxt T (runT T 0 (bitsL v i)) 0) (bitsL num (d - (i + 1)))) false = true := ha
      rw [← h1] at ha
      cases ha
/-- the least number that is taken, if there is one -/
def LeastN (T : List (List Int)) (acc : List Bool) : Option Nat → Prop
  | none => ∀ m, accN T acc m = false
  | some n => accN T acc n = true ∧ ∀ m, m < n → accN T acc m = false
theorem Grd.least (k : MOk 1 T acc) {d num : Nat} {W : List Bool} (g : Grd T acc d 0 num W) : LeastN T acc (some num) := by
  have hlt := g.lt
  rw [Nat.sub_zero] at hlt
  obtain ⟨s, hs, hW⟩ := g.ex
  have h0 : s = 0 := List.mem_singleton.mp hs
  subst h0
  have hr := g.run 0 hs
  rw [Nat.sub_zero, hW] at hr
  refine ⟨by rw [← accN_pad k hlt, ← hr], fun m hm => ?_⟩
  cases hb : accN T acc m with
  | false => rfl
  | true =>
    have hmd : m < 2 ^ d := Nat.lt_trans hm hlt
    rw [← accN_pad k hmd] at hb
    have := g.min m hmd hb
    rw [Nat.pow_zero, Nat.div_one] at this
    omega
theorem least_none (k : MOk 1 T acc) (h : ∀ d, d < T.length → accE T acc d = false) : LeastN T acc none := fun m => none_acc k h _ _ rfl (bitsL_lt1 m _)
theorem LeastN.uniq {a b : Option Nat} (ha : LeastN T acc a) (hb : LeastN T acc b) : a = b := by
  match a, b, ha, hb with
  | none, none, _, _ => rfl
  | none, some n, ha, hb => have := ha n; rw [hb.1] at this; cases this
  | some n, none, ha, hb => have := hb n; rw [ha.1] at this; cases this
  | some n, some m, ha, hb =>
    rcases Nat.lt_trichotomy n m with h | h | h
    · have := hb.2 n h; rw [ha.1] at this; cases this
    · rw [h]
    · have := ha.2 m h; rw [hb.1] at this; cases this
end
theorem piRev {X : Cx} (K : PySem.W.Frag) {tg : Expr} {e : Expr} {ta : TA} {p pos : Pos} (hg : Gl X "reversed") (hm : X.mg "reversed" = none) (ha : PA X [e] ta) (hs : starEach [e] X.env = [(false, eval e X.env)] := by rfl) (h : X.K = K := by rfl) : PI X tg (.Call (.Name "reversed" p) [e] [] pos) (iRev K ta) := h ▸ pi_reversed hg hm ha hs
theorem cutV_drop1 (xs : List V) (v : V) : cutV (xs ++ [v]) none (some (-1)) = xs := by
  unfold cutV HT.sIx
  simp
  rw [show (-1 + ((xs.length : Int) + 1)).toNat = xs.length by omega, List.take_append_of_le_length (Nat.le_refl _), List.take_length]
theorem accE_some {T : List (List Int)} {acc : List Bool} (k : MOk 1 T acc) {d : Nat} (h : accE T acc d = true) : ∃ v, v < 2 ^ d ∧ accN T acc v = true := by
  obtain ⟨s, hs, ha⟩ := List.any_eq_true.mp h
  obtain ⟨ls, h1, h2, h3⟩ := (mem_stL k d s).mp hs
  have hb : Bits ls := h2
  have hv := lo_lt hb
  rw [h1] at hv
  have e := bitsL_lo hb
  rw [h1] at e
  exact ⟨lo ls, hv, by rw [← accN_pad k hv, e, h3]; exact ha⟩
end Dw
namespace Dw
open PySem PySem.Spec PyProof.Rows L2 SX
/-! words as numbers: shorter ones first, then in the order of their letters -/
def encF (m n : Nat) (ws : List Nat) : Nat := ws.foldl (fun a l => a * m + l + 1) n
def enc (m : Nat) (ws : List Nat) : Nat := encF m 0 ws
theorem encF_cons (m n x : Nat) (a : List Nat) : encF m n (x :: a) = encF m (n * m + x + 1) a := rfl
theorem encF_app (m n : Nat) (a b : List Nat) : encF m n (a ++ b) = encF m (encF m n a) b := by
  unfold encF
  rw [List.foldl_append]
theorem enc_snoc (m : Nat) (a : List Nat) (l : Nat) : enc m (a ++ [l]) = enc m a * m + l + 1 := by
  unfold enc
  rw [encF_app]
  rfl
theorem mul_lt_le {m n n' : Nat} (h : n < n') : n * m + m ≤ n' * m := by
  have := Nat.mul_le_mul_right m h
  rw [Nat.succ_mul] at this
  exact this
theorem encF_lt {m : Nat} : ∀ {a b : List Nat} {n n' : Nat}, a.length = b.length → (∀ x ∈ a, x < m) → n < n' → encF m n a < encF m n' b
  | [], [], _, _, _, _, h => h
  | x :: a, y :: b, n, n', hl, hx, h => by
    have h1 := mul_lt_le (m := m) h
    have h2 := hx x List.mem_cons_self
    rw [encF_cons, encF_cons]
    exact encF_lt (a := a) (b := b) (Nat.succ.inj hl) (fun z hz => hx z (List.mem_cons_of_mem _ hz)) (by omega)
theorem encF_pos {m : Nat} : ∀ {b : List Nat} (n : Nat), 0 < b.length → 0 < encF m n b
  | [x], n, _ => Nat.succ_pos _
  | x :: y :: b, n, _ => encF_pos (b := y :: b) _ (Nat.succ_pos _)
theorem enc_len {m : Nat} {a b : List Nat} (h : a.length < b.length) (hx : ∀ x ∈ a, x < m) : enc m a < enc m b := by
  have e : b = b.take (b.length - a.length) ++ b.drop (b.length - a.length) := (List.take_append_drop _ _).symm
  unfold enc
  rw [e, encF_app]
  refine encF_lt (by rw [List.length_drop]; omega) hx (encF_pos 0 (by rw [List.length_take]; omega))
theorem encF_inj {m : Nat} : ∀ {a b : List Nat} {n : Nat}, a.length = b.length → (∀ x ∈ a, x < m) → (∀ x ∈ b, x < m) → encF m n a = encF m n b → a = b
  | [], [], _, _, _, _, _ => rfl
  | x :: a, y :: b, n, hl, hx, hy, e => by
    have hl' := Nat.succ.inj hl
    have ha : ∀ z ∈ a, z < m := fun z hz => hx z (List.mem_cons_of_mem _ hz)
    have hb : ∀ z ∈ b, z < m := fun z hz => hy z (List.mem_cons_of_mem _ hz)
    rw [encF_cons, encF_cons] at e
    rcases Nat.lt_trichotomy x y with z | z | z
    · have := encF_lt (m := m) (a := a) (b := b) (n := n * m + x + 1) (n' := n * m + y + 1) hl' ha (by omega)
      omega
    · subst z
      rw [encF_inj hl' ha hb e]
    · have := encF_lt (m := m) (a := b) (b := a) (n := n * m + y + 1) (n' := n * m + x + 1) hl'.symm hb (by omega)
      omega
theorem enc_inj {m : Nat} {a b : List Nat} (hx : ∀ x ∈ a, x < m) (hy : ∀ x ∈ b, x < m) (e : enc m a = enc m b) : a = b := by
  rcases Nat.lt_trichotomy a.length b.length with z | z | z
  · have := enc_len z hx; omega
  · exact encF_inj z hx hy e
  · have := enc_len z hy; omega
theorem enc_snoc_lt {m : Nat} {a b : List Nat} {l l' : Nat} (h : enc m a < enc m b) (hl : l < m) : enc m (a ++ [l]) < enc m (b ++ [l']) := by
  rw [enc_snoc, enc_snoc]
  have := mul_lt_le (m := m) h
  omega
theorem snoc_lt {m : Nat} {a : List Nat} {l : Nat} (h : ∀ x ∈ a, x < m) (hl : l < m) : ∀ x ∈ a ++ [l], x < m := fun x hx => by
  rcases List.mem_append.mp hx with hx | hx
  · exact h x hx
  · rw [List.mem_singleton.mp hx]; exact hl
/-- the first of the words that do something, if there is one -/
def LeastW (P : List Nat → Prop) (m : Nat) : Option (List Nat) → Prop
  | none => ∀ u, (∀ x ∈ u, x < m) → ¬ P u
  | some a => (∀ x ∈ a, x < m) ∧ P a ∧ ∀ u, (∀ x ∈ u, x < m) → P u → enc m a ≤ enc m u
theorem LeastW.one {P : List Nat → Prop} {m : Nat} : ∀ {o o' : Option (List Nat)}, LeastW P m o → LeastW P m o' → o = o'
  | none, none, _, _ => rfl
  | none, some a, h, h' => absurd h'.2.1 (h a h'.1)
  | some a, none, h, h' => absurd h.2.1 (h' a h.1)
  | some a, some b, h, h' => by
    have h1 := h.2.2 b h'.1 h'.2.1
    have h2 := h'.2.2 a h.1 h.2.1
    rw [enc_inj h.1 h'.1 (by omega)]
/-! two tables side by side -/
def jT (T1 T2 : List (List Int)) : List (List Int) := T1 ++ T2.map fun r => r.map fun x => (T1.length : Int) + x
section
variable {T1 T2 : List (List Int)} {m : Nat}
theorem jT_len : (jT T1 T2).length = T1.length + T2.length := by unfold jT; rw [List.length_append, List.length_map]
theorem jT_good (h1 : goodT T1 m = true) (h2 : goodT T2 m = true) : goodT (jT T1 T2) m = true := by
  refine goodT_of fun r hr => ?_
  rw [jT_len]
  rcases List.mem_append.mp hr with hr | hr
  · obtain ⟨a, b⟩ := goodT_mem h1 hr
    exact ⟨a, fun x hx => by have := b x hx; omega⟩
  · obtain ⟨r', hr', rfl⟩ := List.mem_map.mp hr
    obtain ⟨a, b⟩ := goodT_mem h2 hr'
    refine ⟨by rw [List.length_map]; exact a, fun x hx => ?_⟩
    obtain ⟨y, hy, rfl⟩ := List.mem_map.mp hx
    have := b y hy
    omega
theorem jT_nxt1 {s j : Nat} (h : s < T1.length) : nxt (jT T1 T2) s j = nxt T1 s j := nxt_app h
theorem jT_nxt2 (h2 : goodT T2 m = true) {s j : Nat} (h : s < T2.length) (hj : j < m) : nxt (jT T1 T2) (T1.length + s) j = T1.length + nxt T2 s j := by
  obtain ⟨r, er, ej, _⟩ := goodT_at h2 h hj
  have e : (jT T1 T2).getD (T1.length + s) [] = r.map fun x => (T1.length : Int) + x := by
    unfold jT
    rw [List.getD_eq_getElem?_getD, List.getElem?_append_right (by omega), Nat.add_sub_cancel_left, List.getElem?_map, er]
    rfl
  unfold nxt at ej ⊢
  rw [e, List.getD_eq_getElem?_getD (l := r.map _), List.getElem?_map, ej]
  show ((T1.length : Int) + ((((T2.getD s []).getD j 0).toNat : Nat) : Int)).toNat = _
  omega
theorem jT_run1 (h1 : goodT T1 m = true) : ∀ (ws : List Nat), (∀ x ∈ ws, x < m) → ∀ s, s < T1.length → runT (jT T1 T2) s ws = runT T1 s ws
  | [], _, _, _ => rfl
  | x :: r, hx, s, hs => by
    obtain ⟨_, _, _, l1⟩ := goodT_at h1 hs (hx x List.mem_cons_self)
    show runT (jT T1 T2) (nxt (jT T1 T2) s x) r = runT T1 (nxt T1 s x) r
    rw [jT_nxt1 hs]
    exact jT_run1 h1 r (fun y hy => hx y (List.mem_cons_of_mem _ hy)) _ l1
theorem jT_run2 (h2 : goodT T2 m = true) : ∀ (ws : List Nat), (∀ x ∈ ws, x < m) → ∀ s, s < T2.length → runT (jT T1 T2) (T1.length + s) ws = T1.length + runT T2 s ws
  | [], _, _, _ => rfl
  | x :: r, hx, s, hs => by
    obtain ⟨_, _, _, l1⟩ := goodT_at h2 hs (hx x List.mem_cons_self)
    show runT (jT T1 T2) (nxt (jT T1 T2) (T1.length + s) x) r = T1.length + runT T2 (nxt T2 s x) r
    rw [jT_nxt2 h2 hs (hx x List.mem_cons_self)]
    exact jT_run2 h2 r (fun y hy => hx y (List.mem_cons_of_mem _ hy)) _ l1
end
/-! classes and words, for a table of any length -/
section
variable {m : Nat} {T : List (List Int)} {acc : List Bool}
theorem row_nxtG (g : goodT T m = true) {s : Nat} (hs : s < T.length) : T.getD s [] = (List.range m).map fun j => ((nxt T s j : Nat) : Int) := by
  obtain ⟨r, er, hl, _⟩ := goodT_row g hs
  have e1 : T.getD s [] = r := by rw [List.getD_eq_getElem?_getD, er]; rfl
  rw [e1]
  refine List.ext_getElem (by simp [hl]) fun j p q => ?_
  obtain ⟨r', er', ej, _⟩ := goodT_at g hs (show j < m by omega)
  rw [er] at er'
  cases er'
  rw [List.getElem_map, List.getElem_range]
  exact Option.some.inj (by rw [← List.getElem?_eq_getElem p]; exact ej)
theorem cls_apG (g : goodT T m = true) (al : acc.length = T.length) : ∀ (i s t : Nat), s < T.length → t < T.length → (cN (sg T acc i) s ≠ cN (sg T acc i) t ↔ ApN T acc m i s t)
  | 0, s, t, hs, ht => by
    have hs' : s < acc.length := by rw [al]; exact hs
    have ht' : t < acc.length := by rw [al]; exact ht
    have a1 : (sg T acc 0)[s]? = some [if acc.getD s false = true then (1 : Int) else 0] := by
      show (acc.map _)[s]? = _
      rw [List.getElem?_map, List.getD_eq_getElem?_getD, List.getElem?_eq_getElem hs']; rfl
    have a2 : (sg T acc 0)[t]? = some [if acc.getD t false = true then (1 : Int) else 0] := by
      show (acc.map _)[t]? = _
      rw [List.getElem?_map, List.getD_eq_getElem?_getD, List.getElem?_eq_getElem ht']; rfl
    rw [ApN.zero, ne_eq, cN_iff a1 a2]
    cases acc.getD s false <;> cases acc.getD t false <;> simp
  | i + 1, s, t, hs, ht => by
    have ih := cls_apG g al i
    rw [ne_eq, cN_iff (sg_succ hs) (sg_succ ht), row_nxtG g hs, row_nxtG g ht, List.map_map, List.map_map]
    constructor
    · intro h
      by_cases e : cN (sg T acc i) s = cN (sg T acc i) t
      · refine Classical.byContradiction fun hno => h ?_
        rw [e]
        congr 1
        refine List.map_congr_left fun j hj => ?_
        have hj := List.mem_range.mp hj
        obtain ⟨_, _, _, l1⟩ := goodT_at g hs hj
        obtain ⟨_, _, _, l2⟩ := goodT_at g ht hj
        show ((cN (sg T acc i) ((nxt T s j : Nat) : Int).toNat : Nat) : Int) = ((cN (sg T acc i) ((nxt T t j : Nat) : Int).toNat : Nat) : Int)
        rw [Int.toNat_natCast, Int.toNat_natCast]
        refine congrArg _ (Classical.byContradiction fun hne => hno ?_)
        exact ApN.cons hj ((ih _ _ l1 l2).mp hne)
      · exact ((ih s t hs ht).mp e).mono (Nat.le_succ i)
    · intro h e
      obtain ⟨e1, e2⟩ := List.cons.inj e
      rcases h.succ with h | ⟨j, hj, h⟩
      · exact (ih s t hs ht).mpr h (Int.ofNat.inj e1)
      · obtain ⟨_, _, _, l1⟩ := goodT_at g hs hj
        obtain ⟨_, _, _, l2⟩ := goodT_at g ht hj
        refine (ih _ _ l1 l2).mpr h ?_
        have e3 := congrArg (fun l => l[j]?) e2
        simp only [List.getElem?_map, List.getElem?_range hj, Option.map_some, Function.comp_apply, Int.toNat_natCast] at e3
        exact Int.ofNat.inj (Option.some.inj e3)
/-- classes of a round in the list that the program keeps -/
theorem clsD_ap (g : goodT T m = true) (al : acc.length = T.length) {i s t : Nat} (hs : s < T.length) (ht : t < T.length) : (cls T acc i).getD s 0 ≠ (cls T acc i).getD t 0 ↔ ApN T acc m i s t := by
  rw [cls_getD, cls_getD]
  exact cls_apG g al i s t hs ht
theorem cls_stay {k : Nat} (h : cls T acc (k + 1) = cls T acc k) : ∀ d, cls T acc (k + d) = cls T acc k
  | 0 => rfl
  | d + 1 => by
    have ih := cls_stay h d
    show (numF (sigN T (cls T acc (k + d)))).2 = _
    rw [ih]
    exact h
end
/-! the walk that follows the rounds back -/
/-- the states are parted by a word of c letters and by none of fewer -/
def Dm (T : List (List Int)) (acc : List Bool) (m c s t : Nat) : Prop := ApN T acc m c s t ∧ ∀ c', c' < c → ¬ ApN T acc m c' s t
/-- a word parts two states -/
def SepW (T : List (List Int)) (acc : List Bool) (s0 t0 : Nat) (u : List Nat) : Prop := acc.getD (runT T s0 u) false ≠ acc.getD (runT T t0 u) false
structure BackI (T : List (List Int)) (acc : List Bool) (m c s0 t0 : Nat) (i : Nat) (ws : List Nat) (s t : Nat) : Prop where
  len : ws.length = i
  lt : ∀ x ∈ ws, x < m
  es : s = runT T s0 ws
  et : t = runT T t0 ws
  dm : Dm T acc m (c - i) s t
  least : ∀ u, u.length = c → (∀ x ∈ u, x < m) → SepW T acc s0 t0 u → enc m ws ≤ enc m (u.take i)
section
variable {m : Nat} {T : List (List Int)} {acc : List Bool} {c s0 t0 : Nat}
theorem BackI.start (h : Dm T acc m c s0 t0) : BackI T acc m c s0 t0 0 [] s0 t0 := ⟨rfl, (fun _ h => nomatch h), rfl, rfl, h, fun u _ _ _ => Nat.zero_le _⟩
theorem BackI.ex_ {i s t : Nat} {ws : List Nat} (h : BackI T acc m c s0 t0 i ws s t) (hi : i < c) : ∃ j, j < m ∧ ApN T acc m (c - 1 - i) (nxt T s j) (nxt T t j) := by
  have h1 := h.dm.1
  rw [show c - i = (c - 1 - i) + 1 by omega] at h1
  rcases h1.succ with h1 | h1
  · exact absurd h1 (h.dm.2 _ (by omega))
  · exact h1
theorem runT_app2 (T : List (List Int)) (s : Nat) (a b : List Nat) : runT T s (a ++ b) = runT T (runT T s a) b := by
  unfold runT
  rw [List.foldl_append]
theorem BackI.step {i s t l : Nat} {ws : List Nat} (h : BackI T acc m c s0 t0 i ws s t) (hi : i < c) (hl : l < m) (hap : ApN T acc m (c - 1 - i) (nxt T s l) (nxt T t l)) (hmin : ∀ j, j < m → ApN T acc m (c - 1 - i) (nxt T s j) (nxt T t j) → l ≤ j) : BackI T acc m c s0 t0 (i + 1) (ws ++ [l]) (nxt T s l) (nxt T t l) := by
  refine ⟨by rw [List.length_append, h.len]; rfl, snoc_lt h.lt hl, by rw [runT_snoc, ← h.es], by rw [runT_snoc, ← h.et], ⟨by rw [show c - (i + 1) = c - 1 - i by omega]; exact hap, fun c' hc' hc2 => h.dm.2 (c' + 1) (by omega) (ApN.cons hl hc2)⟩, fun u hul hu hs => ?_⟩
  have h1 := h.least u hul hu hs
  have hiu : i < u.length := by omega
  have et : u.take (i + 1) = u.take i ++ [u[i]] := by rw [List.take_add_one, List.getElem?_eq_getElem hiu]; rfl
  have hui : u[i] < m := hu _ (List.getElem_mem hiu)
  rw [et]
  rcases Nat.lt_or_eq_of_le h1 with z | z
  · exact Nat.le_of_lt (enc_snoc_lt z hl)
  · have e := enc_inj h.lt (fun x hx => hu x (List.mem_of_mem_take hx)) z
    have hsp : u = u.take i ++ (u[i] :: u.drop (i + 1)) := by rw [List.getElem_cons_drop, List.take_append_drop]
    have hap2 : ApN T acc m (c - 1 - i) (nxt T s u[i]) (nxt T t u[i]) := by
      refine ⟨u.drop (i + 1), by rw [List.length_drop]; omega, fun x hx => hu x (List.mem_of_mem_drop hx), ?_⟩
      unfold SepW at hs
      rw [hsp, runT_app2, runT_app2, ← e, ← h.es, ← h.et] at hs
      exact hs
    have := hmin _ hui hap2
    rw [enc_snoc, enc_snoc, z]
    omega
theorem BackI.end_ {ws : List Nat} {s t : Nat} (h : BackI T acc m c s0 t0 c ws s t) (h0 : Dm T acc m c s0 t0) : LeastW (SepW T acc s0 t0) m (some ws) := by
  have h1 := h.dm.1
  rw [Nat.sub_self, ApN.zero, h.es, h.et] at h1
  refine ⟨h.lt, h1, fun u hu hs => ?_⟩
  have hcu : c ≤ u.length := Nat.le_of_not_lt fun z => h0.2 u.length z ⟨u, Nat.le_refl _, hu, hs⟩
  rcases Nat.lt_or_eq_of_le hcu with z | z
  · exact Nat.le_of_lt (enc_len (by rw [h.len]; exact z) h.lt)
  · have := h.least u z.symm hu hs
    rwa [List.take_of_length_le (by omega)] at this
end
end Dw
namespace Dw
open PySem PySem.Spec PyProof.Rows L2 SX
/-! a search over pairs of states with the words that lead to them -/
abbrev Ent := Nat × Nat × List Nat
def prL (e : Ent) : List Int := [((e.1 : Nat) : Int), ((e.2.1 : Nat) : Int)]
theorem prL_inj {a b : Ent} (h : prL a = prL b) : a.1 = b.1 ∧ a.2.1 = b.2.1 := by
  unfold prL at h
  have h1 := (List.cons.inj h).1
  have h2 := (List.cons.inj (List.cons.inj h).2).1
  exact ⟨Int.ofNat.inj h1, Int.ofNat.inj h2⟩
def Cov (T1 T2 : List (List Int)) (m : Nat) (W : List Ent) (e : Ent) (l : Nat) : Prop := ∃ e' ∈ W, e'.1 = nxt T1 e.1 l ∧ e'.2.1 = nxt T2 e.2.1 l ∧ enc m e'.2.2 ≤ enc m (e.2.2 ++ [l])
theorem Cov.app {T1 T2 : List (List Int)} {m : Nat} {W : List Ent} {e : Ent} {l : Nat} (h : Cov T1 T2 m W e l) (M : List Ent) : Cov T1 T2 m (W ++ M) e l := by
  obtain ⟨e', h1, h2⟩ := h
  exact ⟨e', List.mem_append_left _ h1, h2⟩
structure WaI (T1 T2 : List (List Int)) (a1 a2 : List Bool) (m : Nat) (W : List Ent) (k j : Nat) : Prop where
  nd : (W.map prL).Nodup
  at_ : ∀ e ∈ W, (∀ x ∈ e.2.2, x < m) ∧ e.1 = runT T1 0 e.2.2 ∧ e.2.1 = runT T2 0 e.2.2
  hd : W[0]? = some (0, 0, [])
  inc : W.Pairwise fun a b => enc m a.2.2 < enc m b.2.2
  done : ∀ i e, i < k → W[i]? = some e → ∀ l, l < m → Cov T1 T2 m W e l
  mks : ∀ i e, i < k → W[i]? = some e → a1.getD e.1 false = a2.getD e.2.1 false
  cur : ∀ e, W[k]? = some e → ∀ l, l < j → Cov T1 T2 m W e l
  bound : ∀ e, W[k]? = some e → ∀ e' ∈ W, enc m e'.2.2 ≤ enc m e.2.2 * m + j
  wl : ∀ (i : Nat) (e : Ent), W[i]? = some e → e.2.2.length ≤ i
section
variable {T1 T2 : List (List Int)} {a1 a2 : List Bool} {m : Nat} {W : List Ent} {k j : Nat}
theorem WaI.start : WaI T1 T2 a1 a2 m [(0, 0, [])] 0 0 := by
  refine ⟨List.pairwise_singleton _ _, fun e he => ?_, rfl, List.pairwise_singleton _ _, (fun _ _ h => absurd h (Nat.not_lt_zero _)), (fun _ _ h => absurd h (Nat.not_lt_zero _)), (fun _ _ _ h => absurd h (Nat.not_lt_zero _)), fun e _ e' he' => ?_, fun i e he => ?_⟩
  · rw [List.mem_singleton.mp he]
    exact ⟨(fun _ h => nomatch h), rfl, rfl⟩
  · rw [List.mem_singleton.mp he']
    exact Nat.zero_le _
  · rw [List.mem_singleton.mp (List.mem_of_getElem? he)]
    exact Nat.zero_le _
theorem WaI.old {e : Ent} (h : WaI T1 T2 a1 a2 m W k j) (he : W[k]? = some e) (hp : ([((nxt T1 e.1 j : Nat) : Int), ((nxt T2 e.2.1 j : Nat) : Int)] : List Int) ∈ W.map prL) : WaI T1 T2 a1 a2 m W k (j + 1) := by
  refine ⟨h.nd, h.at_, h.hd, h.inc, h.done, h.mks, fun e2 he2 l hl => ?_, fun e2 he2 e' he' => Nat.le_succ_of_le (h.bound e2 he2 e' he'), h.wl⟩
  rw [he] at he2
  cases he2
  rcases Nat.lt_succ_iff_lt_or_eq.mp hl with hl | rfl
  · exact h.cur e he l hl
  · obtain ⟨e', h1, h2⟩ := List.mem_map.mp hp
    have h3 := prL_inj (b := (nxt T1 e.1 l, nxt T2 e.2.1 l, [])) h2
    refine ⟨e', h1, h3.1, h3.2, ?_⟩
    rw [enc_snoc]
    exact Nat.le_succ_of_le (h.bound e he e' h1)
theorem WaI.new {e : Ent} (h : WaI T1 T2 a1 a2 m W k j) (he : W[k]? = some e) (hj : j < m) (hp : ([((nxt T1 e.1 j : Nat) : Int), ((nxt T2 e.2.1 j : Nat) : Int)] : List Int) ∉ W.map prL) : WaI T1 T2 a1 a2 m (W ++ [(nxt T1 e.1 j, nxt T2 e.2.1 j, e.2.2 ++ [j])]) k (j + 1) := by
  have hk := (List.getElem?_eq_some_iff.mp he).1
  have up : ∀ i, i < W.length → (W ++ [(nxt T1 e.1 j, nxt T2 e.2.1 j, e.2.2 ++ [j])])[i]? = W[i]? := fun i hi => List.getElem?_append_left hi
  obtain ⟨g1, g2, g3⟩ := h.at_ e (List.mem_of_getElem? he)
  refine ⟨by rw [List.map_append]; exact snoc_nodup h.nd hp, fun e' he' => ?_, by rw [up 0 (by omega)]; exact h.hd, ?_, fun i e' hi e1 l hl => ?_, fun i e' hi e1 => ?_, fun e' e1 l hl => ?_, fun e1 he1 e' he' => ?_, fun i e1 he1 => ?_⟩
  · rcases List.mem_append.mp he' with he' | he'
    · exact h.at_ e' he'
    · rw [List.mem_singleton.mp he']
      exact ⟨snoc_lt g1 hj, by rw [runT_snoc, ← g2], by rw [runT_snoc, ← g3]⟩
  · rw [List.pairwise_append]
    refine ⟨h.inc, List.pairwise_singleton _ _, fun a ha b hb => ?_⟩
    rw [List.mem_singleton.mp hb]
    show enc m a.2.2 < enc m (e.2.2 ++ [j])
    rw [enc_snoc]
    exact Nat.lt_succ_of_le (h.bound e he a ha)
  · rw [up i (by omega)] at e1
    exact (h.done i e' hi e1 l hl).app _
  · rw [up i (by omega)] at e1
    exact h.mks i e' hi e1
  · rw [up k hk, he] at e1
    cases e1
    rcases Nat.lt_succ_iff_lt_or_eq.mp hl with hl | rfl
    · exact (h.cur e he l hl).app _
    · exact ⟨_, List.mem_append_right _ List.mem_cons_self, rfl, rfl, Nat.le_refl _⟩
  · rw [up k hk, he] at he1
    cases he1
    rcases List.mem_append.mp he' with he' | he'
    · exact Nat.le_succ_of_le (h.bound e he e' he')
    · rw [List.mem_singleton.mp he']
      show enc m (e.2.2 ++ [j]) ≤ _
      rw [enc_snoc]
      exact Nat.le_refl _
  · by_cases hi : i < W.length
    · rw [up i hi] at he1
      exact h.wl i e1 he1
    · rw [List.getElem?_append_right (by omega)] at he1
      cases hk2 : i - W.length with
      | zero =>
        rw [hk2] at he1
        cases he1
        have := h.wl k e he
        show (e.2.2 ++ [j]).length ≤ i
        rw [List.length_append, List.length_singleton]
        omega
      | succ n => rw [hk2] at he1; cases he1
theorem inc_at {i i' : Nat} {a b : Ent} (h : W.Pairwise fun a b => enc m a.2.2 < enc m b.2.2) (hi : i < i') (ha : W[i]? = some a) (hb : W[i']? = some b) : enc m a.2.2 < enc m b.2.2 := by
  obtain ⟨p1, p2⟩ := List.getElem?_eq_some_iff.mp ha
  obtain ⟨q1, q2⟩ := List.getElem?_eq_some_iff.mp hb
  rw [← p2, ← q2]
  exact List.pairwise_iff_getElem.mp h i i' p1 q1 hi
theorem WaI.next {e : Ent} (h : WaI T1 T2 a1 a2 m W k m) (he : W[k]? = some e) (hm : a1.getD e.1 false = a2.getD e.2.1 false) : WaI T1 T2 a1 a2 m W (k + 1) 0 := by
  refine ⟨h.nd, h.at_, h.hd, h.inc, fun i e' hi e1 l hl => ?_, fun i e' hi e1 => ?_, (fun _ _ _ hl => absurd hl (Nat.not_lt_zero _)), fun e2 he2 e' he' => ?_, h.wl⟩
  · rcases Nat.lt_succ_iff_lt_or_eq.mp hi with hi | rfl
    · exact h.done i e' hi e1 l hl
    · exact h.cur e' e1 l hl
  · rcases Nat.lt_succ_iff_lt_or_eq.mp hi with hi | rfl
    · exact h.mks i e' hi e1
    · rw [he] at e1; cases e1; exact hm
  · have h1 := h.bound e he e' he'
    have h2 := mul_lt_le (m := m) (inc_at h.inc (Nat.lt_succ_self k) he he2)
    omega
/-- what two machines do not do alike -/
def Sep2 (T1 T2 : List (List Int)) (a1 a2 : List Bool) (u : List Nat) : Prop := a1.getD (runT T1 0 u) false ≠ a2.getD (runT T2 0 u) false
/-- each word has an entry that is no later -/
theorem WaI.cover (h : WaI T1 T2 a1 a2 m W k j) : ∀ (n : Nat) (u : List Nat), u.length = n → (∀ x ∈ u, x < m) → (∀ i e, W[i]? = some e → enc m e.2.2 ≤ enc m u → i < k) → ∃ e' ∈ W, e'.1 = runT T1 0 u ∧ e'.2.1 = runT T2 0 u ∧ enc m e'.2.2 ≤ enc m u := by
  intro n
  induction n with
  | zero =>
    intro u hu _ _
    rw [List.length_eq_zero_iff.mp hu]
    exact ⟨(0, 0, []), List.mem_of_getElem? h.hd, rfl, rfl, Nat.le_refl _⟩
  | succ n ih =>
    intro u hu hx hb
    obtain ⟨v, l, rfl⟩ := snoc_of (show u ≠ [] from fun z => by rw [z] at hu; cases hu)
    have hvl : v.length = n := by rw [List.length_append, List.length_singleton] at hu; omega
    have hvx : ∀ x ∈ v, x < m := fun x hx2 => hx x (List.mem_append_left _ hx2)
    have hl : l < m := hx l (List.mem_append_right _ List.mem_cons_self)
    have hvu : enc m v < enc m (v ++ [l]) := enc_len (by rw [List.length_append, List.length_singleton]; omega) hvx
    obtain ⟨e1, h1, h2, h3, h4⟩ := ih v hvl hvx fun i e he hle => hb i e he (by omega)
    obtain ⟨i1, hi1⟩ := List.mem_iff_getElem?.mp h1
    have hik := hb i1 e1 hi1 (by omega)
    obtain ⟨e2, g1, g2, g3, g4⟩ := h.done i1 e1 hik hi1 l hl
    refine ⟨e2, g1, by rw [g2, h2, runT_snoc], by rw [g3, h3, runT_snoc], Nat.le_trans g4 ?_⟩
    rw [enc_snoc, enc_snoc]
    have := Nat.mul_le_mul_right m h4
    omega
theorem WaI.found {e : Ent} (h : WaI T1 T2 a1 a2 m W k j) (he : W[k]? = some e) (hm : a1.getD e.1 false ≠ a2.getD e.2.1 false) : LeastW (Sep2 T1 T2 a1 a2) m (some e.2.2) := by
  obtain ⟨g1, g2, g3⟩ := h.at_ e (List.mem_of_getElem? he)
  refine ⟨g1, by unfold Sep2; rw [← g2, ← g3]; exact hm, fun u hu hs => Classical.byContradiction fun hno => ?_⟩
  have hlt : enc m u < enc m e.2.2 := by omega
  have hb : ∀ i e', W[i]? = some e' → enc m e'.2.2 ≤ enc m u → i < k := fun i e' he' hle => by
    refine Classical.byContradiction fun hni => ?_
    rcases Nat.lt_or_eq_of_le (Nat.le_of_not_lt hni) with z | z
    · have := inc_at h.inc z he he'; omega
    · subst z
      rw [he] at he'
      cases he'
      omega
  obtain ⟨e', h1, h2, h3, h4⟩ := h.cover u.length u rfl hu hb
  obtain ⟨i, hi⟩ := List.mem_iff_getElem?.mp h1
  have := h.mks i e' (hb i e' hi h4) hi
  rw [h2, h3] at this
  exact hs this
theorem WaI.over (h : WaI T1 T2 a1 a2 m W k j) (hk : W.length ≤ k) : LeastW (Sep2 T1 T2 a1 a2) m none := fun u hu hs => by
  obtain ⟨e', h1, h2, h3, h4⟩ := h.cover u.length u rfl hu fun i e he _ => Nat.lt_of_lt_of_le (List.getElem?_eq_some_iff.mp he).1 hk
  obtain ⟨i, hi⟩ := List.mem_iff_getElem?.mp h1
  have := h.mks i e' (Nat.lt_of_lt_of_le (List.getElem?_eq_some_iff.mp hi).1 hk) hi
  rw [h2, h3] at this
  exact hs this
theorem WaI.le (h : WaI T1 T2 a1 a2 m W k j) (g1 : goodT T1 m = true) (g2 : goodT T2 m = true) (p1 : 0 < T1.length) (p2 : 0 < T2.length) : W.length ≤ T1.length * T2.length := by
  have := nodup_le (U := pairsU T1.length T2.length) h.nd fun y hy => by
    obtain ⟨e, he, rfl⟩ := List.mem_map.mp hy
    obtain ⟨h1, h2, h3⟩ := h.at_ e he
    exact mem_pairsU.mpr ⟨e.1, e.2.1, by rw [h2]; exact runT_lt g1 _ _ h1 p1, by rw [h3]; exact runT_lt g2 _ _ h1 p2, rfl⟩
  rwa [List.length_map, pairsU_len] at this
/-- side by side in one table, or one by one -/
theorem sep_joint (g1 : goodT T1 m = true) (g2 : goodT T2 m = true) (p1 : 0 < T1.length) (p2 : 0 < T2.length) (al : a1.length = T1.length) {u : List Nat} (hu : ∀ x ∈ u, x < m) : SepW (jT T1 T2) (a1 ++ a2) 0 T1.length u ↔ Sep2 T1 T2 a1 a2 u := by
  unfold SepW Sep2
  have e2 := jT_run2 (T1 := T1) g2 u hu 0 p2
  rw [Nat.add_zero] at e2
  have h1 := runT_lt g1 u 0 hu p1
  rw [jT_run1 g1 u hu 0 p1, e2, List.getD_eq_getElem?_getD (l := a1 ++ a2), List.getElem?_append_left (by omega), List.getD_eq_getElem?_getD (l := a1 ++ a2), List.getElem?_append_right (by omega), show T1.length + runT T2 0 u - a1.length = runT T2 0 u by omega, ← List.getD_eq_getElem?_getD, ← List.getD_eq_getElem?_getD]
theorem LeastW.congr {P Q : List Nat → Prop} (h : ∀ u, (∀ x ∈ u, x < m) → (P u ↔ Q u)) : ∀ {o : Option (List Nat)}, LeastW P m o → LeastW Q m o
  | none, g => fun u hu hq => g u hu ((h u hu).mpr hq)
  | some a, g => ⟨g.1, (h a g.1).mp g.2.1, fun u hu hq => g.2.2 u hu ((h u hu).mpr hq)⟩
end
end Dw
namespace Dw
open PySem PySem.Spec PyProof.Rows L2 SX
/-! a search's labels lie in every set that can't be left -/
section
variable {L : Type} [DecidableEq L] {g : L → Nat → L}
theorem rowF_mem {C : List L} {h : Nat → L} {f0 : List L} (hf : ∀ y ∈ f0, y ∈ C) : ∀ j, (∀ i, i < j → h i ∈ C) → ∀ y ∈ (rowF h f0 j).1, y ∈ C
  | 0, _ => hf
  | j + 1, hg => fun y hy => by
    have ih := rowF_mem hf j fun i hi => hg i (Nat.lt_succ_of_lt hi)
    change y ∈ (stepL (h j) (rowF h f0 j)).1 at hy
    unfold stepL at hy
    split at hy
    · exact ih y hy
    · rcases List.mem_append.mp hy with hy | hy
      · exact ih y hy
      · rw [List.mem_singleton.mp hy]; exact hg j (Nat.lt_succ_self j)
theorem bfsN_mem {C : List L} {n : Nat} {l0 : L} (h0 : l0 ∈ C) (hc : ∀ l ∈ C, ∀ j, j < n → g l j ∈ C) : ∀ k, ∀ y ∈ (bfsN g n l0 k).1, y ∈ C
  | 0 => fun y hy => by rw [List.mem_singleton.mp hy]; exact h0
  | k + 1 => fun y hy => by
    have ih := bfsN_mem h0 hc k
    change y ∈ (match (bfsN g n l0 k).1[k]? with | some l => ((rowF (g l) (bfsN g n l0 k).1 n).1, (bfsN g n l0 k).2 ++ [(rowF (g l) (bfsN g n l0 k).1 n).2]) | none => bfsN g n l0 k).1 at hy
    cases e : (bfsN g n l0 k).1[k]? with
    | none => rw [e] at hy; exact ih y hy
    | some l =>
      rw [e] at hy
      exact rowF_mem ih n (fun i hi => hc l (ih l (List.mem_of_getElem? e)) i hi) y hy
theorem BfsI.mem {U C : List L} {n : Nat} {l0 : L} {f : List L} {T : List (List Nat)} (h : BfsI g U n l0 f T) (h0 : l0 ∈ C) (hc : ∀ l ∈ C, ∀ j, j < n → g l j ∈ C) : ∀ y ∈ f, y ∈ C := by
  have := bfsN_mem (g := g) h0 hc T.length
  rwa [h.fn] at this
theorem RowI.mem {U C : List L} {n : Nat} {f0 f : List L} {l : L} {j : Nat} {row : List Nat} (h : RowI g U f0 l j f row) (hf : ∀ y ∈ f0, y ∈ C) (hl : l ∈ C) (hj : j ≤ n) (hc : ∀ l ∈ C, ∀ j, j < n → g l j ∈ C) : ∀ y ∈ f, y ∈ C := by
  have := rowF_mem (h := g l) hf j fun i hi => hc l hl i (by omega)
  rwa [h.fn] at this
/-- a search in a small set never runs over -/
theorem no_more {U C : List L} {n : Nat} {l0 l : L} {f f2 : List L} {T : List (List Nat)} {row : List Nat} {j m : Nat} (h : BfsI g U n l0 f T) (hl : f[T.length]? = some l) (r : RowI g U f l j f2 row) (hj : j < n) (hm : f2.length = m) (hn : g l j ∉ f2) (h0 : l0 ∈ C) (hc : ∀ l ∈ C, ∀ j, j < n → g l j ∈ C) (hC : C.length ≤ m) : False := by
  have h1 := h.mem h0 hc
  have hlC := h1 l (List.mem_of_getElem? hl)
  have h2 := r.mem h1 hlC (Nat.le_of_lt hj) hc
  have := nodup_le (a := f2 ++ [g l j]) (U := C) (snoc_nodup r.nd hn) fun y hy => by
    rcases List.mem_append.mp hy with hy | hy
    · exact h2 y hy
    · rw [List.mem_singleton.mp hy]; exact hc l hlC j hj
  rw [List.length_append, List.length_singleton] at this
  omega
end
/-! what a machine takes -/
def Tk (T : List (List Int)) (acc : List Bool) (ns : List Nat) : Bool := acc.getD (runT T 0 (wd ns)) false
def Wn (ns : List Nat) (N : Nat) : List Nat := (List.range N).map fun k => lo (bitAt ns k)
theorem Wn_len (ns : List Nat) (N : Nat) : (Wn ns N).length = N := by simp [Wn]
theorem Wn_succ (ns : List Nat) (N : Nat) : Wn ns (N + 1) = Wn ns N ++ [lo (bitAt ns N)] := by
  unfold Wn
  rw [List.range_succ, List.map_append]
  rfl
theorem Wn_lt {ns : List Nat} {N : Nat} : ∀ x ∈ Wn ns N, x < 2 ^ ns.length := fun x hx => by
  obtain ⟨k, _, rfl⟩ := List.mem_map.mp hx
  have := lo_lt (bitAt_bits ns k)
  rwa [bitAt_len] at this
section
variable {w : Nat} {T : List (List Int)} {acc : List Bool}
theorem Wn_tk (k : MOk w T acc) {ns : List Nat} (hn : ns.length = w) {N : Nat} (h : bls ns ≤ N) : acc.getD (runT T 0 (Wn ns N)) false = Tk T acc ns := takes_pad k hn h
theorem some_tk {U : List (List Int)} {ls : List (List Int)} {T3 : List (List Nat)} {t : Nat} (k : MOk w T acc) (ht : t < w) (bf : BfsI (gW T t) U (2 ^ (w - 1)) [0] ls T3) (al : T3.length = ls.length) {ns : List Nat} (hl : ns.length + 1 = w) : Tk (natT T3) (ls.map (fW T acc t)) ns = true ↔ ∃ x, Tk T acc (ns.take t ++ [x] ++ ns.drop t) = true := by
  have hwl : ∀ x ∈ wd ns, x < 2 ^ (w - 1) := fun x hx => by have := wd_lt hx; rwa [show ns.length = w - 1 by omega] at this
  have hrun := bfs_run bf al (wd ns) hwl 0 _ bf.hd
  unfold Tk
  rw [List.getD_eq_getElem?_getD, List.getElem?_map, hrun]
  exact some_run k ht hl
theorem fix_tk {U : List (List Int)} {ls : List (List Int)} {T3 : List (List Nat)} {t num : Nat} (k : MOk w T acc) (ht : t < w) (hnum : num < 2 ^ 64) (bf : BfsI (gF T t) U (2 ^ (w - 1)) [0, (num : Int)] ls T3) (al : T3.length = ls.length) {ns : List Nat} (hl : ns.length + 1 = w) : Tk (natT T3) (ls.map (fL T acc t)) ns = Tk T acc (ns.take t ++ [num] ++ ns.drop t) := by
  have hwl : ∀ x ∈ wd ns, x < 2 ^ (w - 1) := fun x hx => by have := wd_lt hx; rwa [show ns.length = w - 1 by omega] at this
  have hrun := bfs_run bf al (wd ns) hwl 0 _ bf.hd
  unfold Tk
  rw [List.getD_eq_getElem?_getD, List.getElem?_map, hrun]
  exact fix_run k ht hnum hl
theorem one_tk (k : MOk 1 T acc) (m : Nat) : accN T acc m = Tk T acc [m] := by
  rw [← Wn_tk k (ns := [m]) rfl (N := blen m) (bls_le fun n hn => by rw [List.mem_singleton.mp hn]; exact lt_blen m)]
  unfold accN
  rw [show Wn [m] (blen m) = bitsL m (blen m) from List.map_congr_left fun i _ => by
    show lo [m / 2 ^ i % 2] = m / 2 ^ i % 2
    unfold lo
    show m / 2 ^ i % 2 + 2 * 0 = _
    omega]
/-! cutting a piece out of a word -/
def cutN (i j y : Nat) : Nat := y % 2 ^ i + 2 ^ i * (y / 2 ^ j)
theorem cutN_mod (i j y : Nat) : cutN i j y % 2 ^ i = y % 2 ^ i := by unfold cutN; rw [Nat.add_mul_mod_self_left, Nat.mod_mod]
theorem cutN_div (i j y : Nat) : cutN i j y / 2 ^ i = y / 2 ^ j := by
  unfold cutN
  rw [Nat.add_mul_div_left _ _ (Nat.two_pow_pos _), Nat.div_eq_of_lt (Nat.mod_lt _ (Nat.two_pow_pos _)), Nat.zero_add]
theorem cutN_bit {i j : Nat} (y k : Nat) (h : i ≤ j) : cutN i j y / 2 ^ k % 2 = y / 2 ^ (if k < i then k else k + (j - i)) % 2 := by
  split
  · rename_i hk
    rw [← div_mod_add _ i k hk, cutN_mod, div_mod_add _ i k hk]
  · rename_i hk
    rw [show 2 ^ k = 2 ^ i * 2 ^ (k - i) by rw [← Nat.pow_add]; congr 1; omega, ← Nat.div_div_eq_div_mul, cutN_div, Nat.div_div_eq_div_mul, ← Nat.pow_add, show j + (k - i) = k + (j - i) by omega]
theorem cutN_small {i j y B : Nat} (hy : y < 2 ^ B) (hB : B ≤ i) (h : i < j) : cutN i j y = y := by
  have h1 : y < 2 ^ i := Nat.lt_of_lt_of_le hy (Nat.pow_le_pow_right (by decide) hB)
  have h2 : y < 2 ^ j := Nat.lt_of_lt_of_le h1 (Nat.pow_le_pow_right (by decide) (Nat.le_of_lt h))
  unfold cutN
  rw [Nat.mod_eq_of_lt h1, Nat.div_eq_of_lt h2, Nat.mul_zero, Nat.add_zero]
theorem cutN_le {i j : Nat} (y : Nat) (h : i ≤ j) : cutN i j y ≤ y := by
  have h1 : y / 2 ^ j ≤ y / 2 ^ i := Nat.div_le_div_left (Nat.pow_le_pow_right (by decide) h) (Nat.two_pow_pos _)
  have h2 := Nat.mod_add_div y (2 ^ i)
  have h3 := Nat.mul_le_mul_left (2 ^ i) h1
  unfold cutN
  omega
theorem cutN_lt {i j y : Nat} (h : i < j) (hy : 2 ^ i ≤ y) : cutN i j y < y := by
  have e : y / 2 ^ j = y / 2 ^ i / 2 ^ (j - i) := by rw [Nat.div_div_eq_div_mul, ← Nat.pow_add, show i + (j - i) = j by omega]
  have hp : 0 < y / 2 ^ i := Nat.div_pos hy (Nat.two_pow_pos _)
  have h1 : y / 2 ^ j < y / 2 ^ i := by
    rw [e]
    exact Nat.div_lt_self hp (Nat.lt_of_lt_of_le (by decide : 1 < 2 ^ 1) (Nat.pow_le_pow_right (by decide) (by omega)))
  have h2 := Nat.mod_add_div y (2 ^ i)
  have h3 : 2 ^ i * (y / 2 ^ j + 1) ≤ 2 ^ i * (y / 2 ^ i) := Nat.mul_le_mul_left (2 ^ i) h1
  rw [Nat.mul_add, Nat.mul_one] at h3
  have := Nat.two_pow_pos i
  unfold cutN
  omega
theorem cutN_bound {i j y N : Nat} (h : i ≤ j) (hj : j ≤ N) (hy : y < 2 ^ N) : cutN i j y < 2 ^ (N - (j - i)) := by
  have h1 : y / 2 ^ j < 2 ^ (N - j) := by
    rw [Nat.div_lt_iff_lt_mul (Nat.two_pow_pos _), ← Nat.pow_add, show N - j + j = N by omega]
    exact hy
  have h2 : 2 ^ i * (y / 2 ^ j + 1) ≤ 2 ^ i * 2 ^ (N - j) := Nat.mul_le_mul_left _ h1
  rw [← Nat.pow_add, show i + (N - j) = N - (j - i) by omega, Nat.mul_add, Nat.mul_one] at h2
  have h3 := Nat.mod_lt y (Nat.two_pow_pos i)
  unfold cutN
  omega
theorem Wn_cut {i j N : Nat} (ns : List Nat) (h : i ≤ j) (hj : j ≤ N) : Wn (ns.map (cutN i j)) (N - (j - i)) = (Wn ns N).take i ++ (Wn ns N).drop j := by
  refine List.ext_getElem (by simp [Wn]; omega) fun k p q => ?_
  have hk : k < N - (j - i) := by rwa [Wn_len] at p
  have eb : bitAt (ns.map (cutN i j)) k = bitAt ns (if k < i then k else k + (j - i)) := by
    unfold bitAt
    rw [List.map_map]
    exact List.map_congr_left fun y _ => cutN_bit y k h
  by_cases hi : k < i
  · rw [List.getElem_append_left (by simp [Wn]; omega)]
    simp only [Wn, List.getElem_map, List.getElem_range, List.getElem_take, eb, if_pos hi]
  · rw [List.getElem_append_right (by simp [Wn]; omega)]
    simp only [Wn, List.getElem_map, List.getElem_range, List.getElem_drop, eb, if_neg hi, List.length_take, List.length_map, List.length_range]
    rw [show k + (j - i) = j + (k - min i N) by omega]
theorem pigeonN {n : Nat} (f : Nat → Nat) (h : ∀ k, k ≤ n → f k < n) : ∃ i j, i < j ∧ j ≤ n ∧ f i = f j := by
  refine Classical.byContradiction fun hno => ?_
  have nd : ((List.range (n + 1)).map f).Nodup := by
    refine List.pairwise_map.mpr ?_
    refine List.Pairwise.imp_of_mem (R := (· < ·)) (fun {a b} ha hb hab e => hno ⟨a, b, hab, Nat.le_of_lt_succ (List.mem_range.mp hb), e⟩) List.pairwise_lt_range
  have := nodup_le (U := List.range n) nd fun y hy => by
    obtain ⟨k, hk, rfl⟩ := List.mem_map.mp hy
    exact List.mem_range.mpr (h k (Nat.le_of_lt_succ (List.mem_range.mp hk)))
  rw [List.length_map, List.length_range, List.length_range] at this
  omega
theorem cut_tk (k : MOk w T acc) {ns : List Nat} (hl : ns.length = w) (B : Nat) : ∃ i j, B ≤ i ∧ i < j ∧ j ≤ B + T.length ∧ Tk T acc (ns.map (cutN i j)) = Tk T acc ns := by
  obtain ⟨N, hN⟩ : ∃ N, N = max (bls ns) (B + T.length) := ⟨_, rfl⟩
  have hlt : ∀ m, runT T 0 ((Wn ns N).take m) < T.length := fun m => runT_lt k.good _ _ (fun x hx => by have := Wn_lt x (List.mem_of_mem_take hx); rwa [hl] at this) k.pos
  obtain ⟨i, j, h1, h2, h3⟩ := pigeonN (n := T.length) (fun m => runT T 0 ((Wn ns N).take (B + m))) fun m _ => hlt _
  refine ⟨B + i, B + j, Nat.le_add_right _ _, by omega, by omega, ?_⟩
  have hy : ∀ y ∈ ns, y < 2 ^ N := fun y hy => Nat.lt_of_lt_of_le (lt_blen y) (Nat.pow_le_pow_right (by decide) (Nat.le_trans (le_bls hy) (by omega)))
  rw [← Wn_tk k (ns := ns.map (cutN (B + i) (B + j))) (by rw [List.length_map]; exact hl) (N := N - (B + j - (B + i))) (bls_le fun x hx => by
    obtain ⟨y, hy2, rfl⟩ := List.mem_map.mp hx
    exact cutN_bound (by omega) (by omega) (hy y hy2)), Wn_cut ns (by omega) (by omega), runT_app, ← Wn_tk k hl (N := N) (by omega)]
  have h3 : runT T 0 ((Wn ns N).take (B + i)) = runT T 0 ((Wn ns N).take (B + j)) := h3
  rw [h3, ← runT_app, List.take_append_drop]
/-- the least number of a place has few digits -/
theorem least_bits (k : MOk w T acc) {pre : List Nat} {x B : Nat} (hB : ∀ y ∈ pre, y < 2 ^ B) (hx : ∃ rest : List Nat, pre.length + 1 + rest.length = w ∧ Tk T acc (pre ++ [x] ++ rest) = true) (mn : ∀ x', x' < x → ∀ rest : List Nat, pre.length + 1 + rest.length = w → Tk T acc (pre ++ [x'] ++ rest) = false) : x < 2 ^ (B + T.length - 1) := by
  refine Classical.byContradiction fun hge => ?_
  obtain ⟨rest, hl, h⟩ := hx
  obtain ⟨i, j, h1, h2, h3, e⟩ := cut_tk k (ns := pre ++ [x] ++ rest) (by rw [List.length_append, List.length_append]; exact hl) B
  have hp : pre.map (cutN i j) = pre := (List.map_congr_left fun y hy => cutN_small (hB y hy) h1 h2).trans (List.map_id _)
  rw [List.map_append, List.map_append, hp, h] at e
  have hxi : 2 ^ i ≤ x := Nat.le_trans (Nat.pow_le_pow_right (by decide) (by omega)) (Nat.le_of_not_lt hge)
  have := mn (cutN i j x) (cutN_lt h2 hxi) (rest.map (cutN i j)) (by rw [List.length_map]; exact hl)
  rw [show pre ++ [cutN i j x] ++ rest.map (cutN i j) = pre ++ [x].map (cutN i j) ++ rest.map (cutN i j) from rfl, e] at this
  cases this
theorem sum_le {f : Nat → Nat} (h : ∀ y, f y ≤ y) : ∀ l : List Nat, (l.map f).sum ≤ l.sum
  | [] => Nat.le_refl _
  | a :: l => by rw [List.map_cons, List.sum_cons, List.sum_cons]; have := sum_le h l; have := h a; omega
theorem sum_lt {f : Nat → Nat} (h : ∀ y, f y ≤ y) : ∀ {l : List Nat} {a : Nat}, a ∈ l → f a < a → (l.map f).sum < l.sum
  | b :: l, a, ha, hlt => by
    rw [List.map_cons, List.sum_cons, List.sum_cons]
    rcases List.mem_cons.mp ha with e | ha
    · subst e; have := sum_le h l; omega
    · have := sum_lt h ha hlt; have := h b; omega
/-- if some numbers do, small ones do -/
theorem short_tk (k : MOk w T acc) {pre : List Nat} {B : Nat} (hB : ∀ y ∈ pre, y < 2 ^ B) : ∀ (s : Nat) (rest : List Nat), rest.sum = s → pre.length + rest.length = w → Tk T acc (pre ++ rest) = true → ∃ rest : List Nat, pre.length + rest.length = w ∧ Tk T acc (pre ++ rest) = true ∧ ∀ y ∈ rest, y < 2 ^ (B + T.length) := by
  intro s
  induction s using Nat.strongRecOn with
  | ind s ih =>
    intro rest hs hl h
    by_cases al : ∀ y ∈ rest, y < 2 ^ (B + T.length)
    · exact ⟨rest, hl, h, al⟩
    · obtain ⟨y, hy, hge⟩ : ∃ y ∈ rest, ¬ y < 2 ^ (B + T.length) := Classical.byContradiction fun z => al fun y hy => Classical.byContradiction fun q => z ⟨y, hy, q⟩
      obtain ⟨i, j, h1, h2, h3, e⟩ := cut_tk k (ns := pre ++ rest) (by rw [List.length_append]; exact hl) B
      have hp : pre.map (cutN i j) = pre := (List.map_congr_left fun y hy => cutN_small (hB y hy) h1 h2).trans (List.map_id _)
      rw [List.map_append, hp, h] at e
      have hyi : 2 ^ i ≤ y := Nat.le_trans (Nat.pow_le_pow_right (by decide) (by omega)) (Nat.le_of_not_lt hge)
      have hlt := sum_lt (f := cutN i j) (fun y => cutN_le y (Nat.le_of_lt h2)) hy (cutN_lt h2 hyi)
      exact ih _ (by rw [hs] at hlt; exact hlt) (rest.map (cutN i j)) rfl (by rw [List.length_map]; exact hl) e
end
end Dw
namespace Dw
open PySem PySem.Spec PyProof.Rows L2 SX
/-! the number of a key that was not met is how many keys were met -/
section
variable {L : Type} [DecidableEq L]
theorem numF_pre : ∀ (b : List L) (p : List L × List Nat), ∃ m, (b.foldl (fun p y => stepL y p) p).2 = p.2 ++ m
  | [], p => ⟨[], (List.append_nil _).symm⟩
  | y :: b, p => by
    obtain ⟨m, hm⟩ := numF_pre b (stepL y p)
    have h2 : ∃ z, (stepL y p).2 = p.2 ++ [z] := by
      unfold stepL
      split
      · exact ⟨_, rfl⟩
      · exact ⟨_, rfl⟩
    obtain ⟨z, hz⟩ := h2
    exact ⟨z :: m, by rw [List.foldl_cons, hm, hz, List.append_assoc]; rfl⟩
theorem numF_takeN (ks : List L) (i : Nat) : (numF (ks.take i)).2 = (numF ks).2.take i := by
  obtain ⟨m, hm⟩ := numF_pre (ks.drop i) (numF (ks.take i))
  have e : (ks.drop i).foldl (fun p y => stepL y p) (numF (ks.take i)) = numF ks := by
    unfold numF
    rw [← List.foldl_append, List.take_append_drop]
  rw [e] at hm
  by_cases h : i ≤ ks.length
  · have hl : (numF (ks.take i)).2.length = i := by rw [numF_len, List.length_take]; omega
    rw [hm, List.take_append_of_le_length (by omega), List.take_of_length_le (l := (numF (ks.take i)).2) (by omega)]
  · rw [List.take_of_length_le (l := ks) (by omega), List.take_of_length_le (l := (numF ks).2) (by rw [numF_len]; omega)]
theorem nC_take (ks : List L) (i : Nat) : nC (((numF ks).2.take i).map fun x => ((x : Nat) : Int)) = nC (ks.take i) := by
  rw [← numF_takeN]
  have hl : ((numF (ks.take i)).2.map fun x => ((x : Nat) : Int)).length = (ks.take i).length := by rw [List.length_map, numF_len]
  have at_ : ∀ s, s < (ks.take i).length → ((numF (ks.take i)).2.map fun x => ((x : Nat) : Int))[s]? = some ((cN (ks.take i) s : Nat) : Int) := fun s hs => by
    rw [List.getElem?_map, (cN_at (List.getElem?_eq_getElem hs)).1]
    rfl
  refine Nat.le_antisymm (finer_le ⟨hl.symm, fun s t hs ht e => ?_⟩) (finer_le ⟨hl, fun s t hs ht e => ?_⟩)
  · rw [hl] at hs ht
    rw [at_ s hs, at_ t ht]
    rw [List.getElem?_eq_getElem hs, List.getElem?_eq_getElem ht] at e
    rw [(cN_iff (List.getElem?_eq_getElem hs) (List.getElem?_eq_getElem ht)).mpr (Option.some.inj e)]
  · rw [at_ s hs, at_ t ht] at e
    have e2 := Int.ofNat.inj (Option.some.inj e)
    rw [List.getElem?_eq_getElem hs, List.getElem?_eq_getElem ht, (cN_iff (List.getElem?_eq_getElem hs) (List.getElem?_eq_getElem ht)).mp e2]
/-- a number that did not stand before is how many numbers stood before -/
theorem num_new {ks : List L} {i : Nat} (hi : i < ks.length) (h : ∀ j, j < i → (numF ks).2.getD j 0 ≠ (numF ks).2.getD i 0) : (numF ks).2.getD i 0 = nC (((numF ks).2.take i).map fun x => ((x : Nat) : Int)) := by
  rw [nC_take]
  have e : ks.take (i + 1) = ks.take i ++ [ks[i]] := by rw [List.take_add_one, List.getElem?_eq_getElem hi]; rfl
  have h1 := numF_takeN ks (i + 1)
  rw [e, numF_snoc] at h1
  have hno : ks[i] ∉ (numF (ks.take i)).1 := fun hm => by
    obtain ⟨x, hx⟩ := List.mem_iff_getElem?.mp hm
    obtain ⟨j, h3, h4⟩ := (numI_of (ks.take i)).sur x (List.getElem?_eq_some_iff.mp hx).1
    have hj : j < i := by rw [List.length_take] at h4; omega
    have hjk : j < ks.length := by omega
    obtain ⟨z, h5, h6⟩ := (numI_of (ks.take i)).at_ j ks[j] (by rw [List.getElem?_take_of_lt hj, List.getElem?_eq_getElem hjk])
    rw [h3] at h5
    cases h5
    rw [hx] at h6
    have : cN ks j = cN ks i := (cN_iff (List.getElem?_eq_getElem hjk) (List.getElem?_eq_getElem hi)).mpr (Option.some.inj h6).symm
    exact h j hj this
  have est : stepL ks[i] (numF (ks.take i)) = ((numF (ks.take i)).1 ++ [ks[i]], (numF (ks.take i)).2 ++ [(numF (ks.take i)).1.length]) := by unfold stepL; rw [if_neg hno]
  rw [est] at h1
  have h2 := congrArg (fun l => l[i]?) h1
  have hl : (numF (ks.take i)).2.length = i := by rw [numF_len, List.length_take]; omega
  simp only at h2
  rw [List.getElem?_append_right (by omega), hl, Nat.sub_self, List.getElem?_take_of_lt (Nat.lt_succ_self i)] at h2
  rw [List.getD_eq_getElem?_getD, ← h2]
  rfl
end
end Dw
namespace Dw
open PySem PySem.Spec PyProof.Rows L2 SX
/-! what is due of outputs and a table -/
def okO (i : Int) : Bool := decide (0 ≤ i) && decide (i ≤ 9)
def setT (outs : List Int) (T : List (List Int)) : Bool := (List.range T.length).all fun i => decide (outs.getD i 0 = outs.getD (nxt T i 0) 0)
def dueT (outs : List Int) (T : List (List Int)) : Option (Bool × String) :=
  if outs.isEmpty || !outs.all okO then some (true, "outputs")
  else if !decide (T.length = outs.length) || !goodT T 2 then some (true, "table")
  else if decide (40 < outs.length) then some (false, "states")
  else if !setT outs T then some (true, "settled")
  else none
theorem due1 {outs : List Int} {T : List (List Int)} (h : (outs.isEmpty || !outs.all okO) = true) : dueT outs T = some (true, "outputs") := by
  unfold dueT
  rw [if_pos h]
theorem due2 {outs : List Int} {T : List (List Int)} (h1 : outs ≠ []) (h2 : outs.all okO = true) (h : T.length ≠ outs.length ∨ goodT T 2 = false) : dueT outs T = some (true, "table") := by
  unfold dueT
  rw [if_neg (by rw [h2]; simp [h1]), if_pos (by rcases h with h | h <;> simp [h])]
theorem due3 {outs : List Int} {T : List (List Int)} (h1 : outs ≠ []) (h2 : outs.all okO = true) (h3 : T.length = outs.length) (h4 : goodT T 2 = true) (h : 40 < outs.length) : dueT outs T = some (false, "states") := by
  unfold dueT
  rw [if_neg (by rw [h2]; simp [h1]), if_neg (by simp [h3, h4]), if_pos (by simp [h])]
theorem due4 {outs : List Int} {T : List (List Int)} (h1 : outs ≠ []) (h2 : outs.all okO = true) (h3 : T.length = outs.length) (h4 : goodT T 2 = true) (h5 : outs.length ≤ 40) (h : setT outs T = false) : dueT outs T = some (true, "settled") := by
  unfold dueT
  rw [if_neg (by rw [h2]; simp [h1]), if_neg (by simp [h3, h4]), if_neg (by simp; omega), if_pos (by simp [h])]
theorem due5 {outs : List Int} {T : List (List Int)} (h1 : outs ≠ []) (h2 : outs.all okO = true) (h3 : T.length = outs.length) (h4 : goodT T 2 = true) (h5 : outs.length ≤ 40) (h : setT outs T = true) : dueT outs T = none := by
  unfold dueT
  rw [if_neg (by rw [h2]; simp [h1]), if_neg (by simp [h3, h4]), if_neg (by simp; omega), if_neg (by simp [h])]
theorem setT_no {outs : List Int} {T : List (List Int)} {i : Nat} (hi : i < T.length) (h : outs.getD i 0 ≠ outs.getD (nxt T i 0) 0) : setT outs T = false := by
  unfold setT
  rw [List.all_eq_false]
  exact ⟨i, List.mem_range.mpr hi, by simpa using h⟩
theorem setT_yes {outs : List Int} {T : List (List Int)} (h : ∀ i, i < T.length → outs.getD i 0 = outs.getD (nxt T i 0) 0) : setT outs T = true := by
  unfold setT
  rw [List.all_eq_true]
  exact fun i hi => decide_eq_true (h i (List.mem_range.mp hi))
/-- what a call ends in -/
def TRes (CT CM CO m : Addr) (T : List (List Int)) (outs : List Int) (H : Hp) (Q : VK) (E : XK) : Option (Bool × String) → Prop
  | none => ∀ L H', But m H H' → ToldP CT H' L m T outs → (∀ a ∈ L, a = m ∨ H a = none) → Q .non H'
  | some (true, w) => Rz CM "why" (.str (Str.ofString w)) H E
  | some (false, w) => Rz CO "limit" (.str (Str.ofString w)) H E
end Dw
namespace Dw
open PySem PySem.Spec PyProof.Rows L2 SX
/-! a comprehension with a test over a list -/
theorem lc_filt {K : PySem.W.Frag} {a : Addr} {xs : List V} {g : TG} {tt : TT} {te : TE} {vs : List Nat} {σ : L2.St} {H1 : Hp} {D : Addr} {Qd : Hp → Prop} (keep : V → Bool) (hx : SqL K H1 a xs) (hn : xs.length ≤ 10000) (hD : H1 D = none)
    (hs : ∀ (i : Nat) (x : V) (H : Hp) (Y : VK) (Nn : Hp → Prop), xs[i]? = some x → Same H1 H → (keep x = true → ∀ H', Same H H' → Y x H') → (keep x = false → ∀ H', Same H H' → Nn H') → g x (wipe σ vs) H fun σ2 H2 => wipe σ2 vs = wipe σ vs ∧ tt σ2 H2 fun b H3 => if b = true then te σ2 H3 Y else Nn H3)
    (hd : ∀ H, Same H1 H → H D = some (.lst (xs.filter keep)) → Qd H) : LcJ (Itl K a) g tt te vs D σ H1 Qd := by
  refine lc_listN (xs := xs) (fun i H => Same H1 H ∧ H D = some (.lst ((xs.take i).filter keep))) ⟨same_upd hD, upd_same⟩ (fun i H _ p => p.1.seq hx) (fun i x H N hi p hN => ?_) (fun H p => hd H p.1 (by rw [p.2, List.take_length]))
  obtain ⟨s1, hDl⟩ := p
  refine hs i x H (fun y H4 => ∃ acc, H4 D = some (.lst acc) ∧ acc.length < sizeLine ∧ N (upd H4 D (.lst (acc ++ [y])))) N hi s1 (fun hk H2 s2 => ⟨_, s2 _ _ hDl, ?_, hN _ ⟨Dw.Same.new (s1.trans s2) hD, ?_⟩⟩) (fun hk H2 s2 => hN _ ⟨s1.trans s2, ?_⟩)
  · have := List.length_filter_le keep (xs.take i)
    rw [List.length_take] at this
    exact smallt (by omega)
  · rw [upd_same, List.take_add_one, hi, List.filter_append]
    simp [hk]
  · rw [s2 _ _ hDl, List.take_add_one, hi, List.filter_append]
    simp [hk]
/-- all but what stands at these places -/
def ButL (L : List Addr) (H H' : Hp) : Prop := ∀ b o, b ∉ L → H b = some o → H' b = some o
theorem ButL.refl (L : List Addr) (H : Hp) : ButL L H H := fun _ _ _ h => h
theorem ButL.trans {L : List Addr} {H H1 H2 : Hp} (a : ButL L H H1) (b : ButL L H1 H2) : ButL L H H2 := fun c o n h => b c o n (a c o n h)
theorem ButL.of {L : List Addr} {H H' : Hp} (a : Same H H') : ButL L H H' := fun b o _ h => a b o h
theorem ButL.but {L : List Addr} {p : Addr} {H H' : Hp} (a : But p H H') (h : p ∈ L) : ButL L H H' := fun b o n e => a b o (fun z => n (z ▸ h)) e
theorem ButL.upd {L : List Addr} {p : Addr} {H : Hp} {o : HO} (h : p ∈ L) : ButL L H (upd H p o) := ButL.but But.upd h
theorem RowsAt.butL {H H' : Hp} {rs : List Addr} {T : List (List Int)} {L : List Addr} (h : RowsAt H rs T) (b : ButL L H H') (n : ∀ r ∈ rs, r ∉ L) : RowsAt H' rs T :=
  ⟨h.len, fun i a r h1 h2 => b _ _ (n a (List.mem_of_getElem? h1)) (h.at_ i a r h1 h2)⟩
/-- a row is put in the place of another -/
theorem RowsAt.set {H : Hp} {rs : List Addr} {T : List (List Int)} {a : Addr} {r : List Int} {k : Nat} (h : RowsAt H rs T) (e : H a = Option.some (.lst (r.map V.int))) : RowsAt H (rs.set k a) (T.set k r) := by
  refine ⟨by rw [List.length_set, List.length_set, h.len], fun i b q h1 h2 => ?_⟩
  rw [List.getElem?_set] at h1 h2
  by_cases hk : k = i
  · subst hk
    rw [if_pos rfl] at h1 h2
    split at h1
    · cases h1
      split at h2
      · cases h2
        exact e
      · cases h2
    · cases h1
  · rw [if_neg hk] at h1 h2
    exact h.at_ i b q h1 h2
theorem RowsAt.drop {H : Hp} {rs : List Addr} {T : List (List Int)} (h : RowsAt H rs T) : RowsAt H rs.dropLast T.dropLast := by
  refine ⟨by rw [List.length_dropLast, List.length_dropLast, h.len], fun i b q h1 h2 => ?_⟩
  rw [List.getElem?_dropLast] at h1 h2
  split at h1
  · split at h2
    · exact h.at_ i b q h1 h2
    · cases h2
  · cases h1
/-- what is due, as a value and as data -/
def kindT (b : Bool) : String := if b then "misused" else "oversized"
def ValD (H : Hp) (v : V) : Option (Bool × String) → Prop
  | none => v = .non
  | some (b, w) => ∃ a, v = .ref a ∧ H a = some (.tup [.str (Str.ofString (kindT b)), .str (Str.ofString w)])
def dueD : Option (Bool × String) → PyData
  | none => .none
  | some (b, w) => .tuple [.str (Str.ofString (kindT b)), .str (Str.ofString w)]
theorem ValD.same {H H' : Hp} {v : V} {d : Option (Bool × String)} (h : ValD H v d) (s : Same H H') : ValD H' v d := by
  match d, h with
  | none, h => exact h
  | some (b, w), ⟨a, e, h⟩ => exact ⟨a, e, s _ _ h⟩
theorem ValD.dp {K : PySem.W.Frag} {H : Hp} {v : V} {d : Option (Bool × String)} (h : ValD H v d) : Dp K H v (dueD d) := by
  match d, h with
  | none, h1 => subst h1; exact .non
  | some (b, w), ⟨a, e, h2⟩ => subst e; exact .tup (SqT.of h2) (.cons (.str _) (.cons (.str _) .nil))
theorem due_cases (outs : List Int) (T : List (List Int)) : dueT outs T = none ∨ dueT outs T = some (true, "outputs") ∨ dueT outs T = some (true, "table") ∨ dueT outs T = some (false, "states") ∨ dueT outs T = some (true, "settled") := by
  unfold dueT
  split
  · exact .inr (.inl rfl)
  · split
    · exact .inr (.inr (.inl rfl))
    · split
      · exact .inr (.inr (.inr (.inl rfl)))
      · split
        · exact .inr (.inr (.inr (.inr rfl)))
        · exact .inl rfl
theorem due_shaped (outs : List Int) (T : List (List Int)) : SeqAt.shaped (dueD (dueT outs T)) = true := by
  rcases due_cases outs T with e | e | e | e | e <;> rw [e] <;> decide +kernel
theorem two_shaped (outs : List Int) (T : List (List Int)) : SeqAt.shaped (.list [.list (outs.map intD), .list (T.map rowD)]) = true := by
  have := rows_depth T
  simp [SeqAt.shaped, PyData.canLay0, PyData.canLayAll0, PyData.depth, PyData.depthAll, ints_lay, rows_lay, ints_depth]
  omega
/-! a row that is due -/
def okW (i least most : Int) : Bool := decide (least ≤ i) && decide (i ≤ most)
def okR (n : Nat) (r : List Int) : Bool := decide (r.length = 2) && r.all fun x => okW x 0 ((n : Int) - 1)
theorem okR_good (n : Nat) (r : List Int) : okR n r = goodRow n 2 r := by
  unfold okR goodRow okW
  congr 2
  funext x
  congr 1
  exact decide_eq_decide.mpr (by omega)
def vI : V → Int
  | .int i => i
  | _ => 0
def keepW (l m : Int) : V → Bool
  | .int i => okW i l m
  | _ => false
def keepR (H : Hp) (n : Nat) : V → Bool
  | .ref a => match H a with
    | some (.lst xs) => okR n (xs.map vI)
    | _ => false
  | _ => false
theorem keepR_at {H : Hp} {n : Nat} {a : Addr} {r : List Int} (h : H a = some (.lst (r.map V.int))) : keepR H n (.ref a) = okR n r := by
  unfold keepR
  simp only [h]
  show okR n ((r.map V.int).map vI) = _
  rw [List.map_map]
  congr 1
  exact List.map_id'' (fun _ => rfl) _
theorem keepW_len (outs : List Int) (l m : Int) : ((outs.map V.int).filter (keepW l m)).length = (outs.filter fun i => okW i l m).length := by
  rw [List.filter_map, List.length_map]
  rfl
theorem filt_lt {α : Type} {p : α → Bool} {l : List α} : (l.filter p).length < l.length ↔ l.all p = false := by
  constructor
  · intro h
    rw [List.all_eq_false]
    refine Classical.byContradiction fun z => ?_
    have : l.filter p = l := List.filter_eq_self.mpr fun x hx => Classical.byContradiction fun y => z ⟨x, hx, y⟩
    rw [this] at h
    exact Nat.lt_irrefl _ h
  · intro h
    have h1 := List.length_filter_le p l
    rw [List.all_eq_false] at h
    obtain ⟨x, hx, hp⟩ := h
    refine Nat.lt_of_le_of_ne h1 fun e => hp ?_
    exact (List.filter_eq_self.mp (List.filter_sublist.eq_of_length e)) x hx
end Dw
namespace Dw
open PySem PySem.Spec PyProof.Rows L2 SX
/-! a comprehension with a test, a for with an open next state: over any walk -/
theorem lc_sel {J : It} {n : Nat} {G : Hp → Prop} {Y : Nat → Hp → V → Hp → Prop} (w : Walk J n G Y) {g : TG} {tt : TT} {te : TE} {vs : List Nat} {σ : L2.St} {H1 : Hp} {D : Addr} {Qd : Hp → Prop} (keep : Nat → Bool) (out : Nat → V) (hn : n ≤ 10000) (hD : H1 D = none)
    (hG : ∀ H, Same H1 H → G H)
    (hs : ∀ i x H H' (Yv : VK) (Nn : Hp → Prop), i < n → Same H1 H → Y i H x H' → (keep i = true → ∀ H2, Same H H2 → Yv (out i) H2) → (keep i = false → ∀ H2, Same H H2 → Nn H2) → g x (wipe σ vs) H' fun σ2 H2 => wipe σ2 vs = wipe σ vs ∧ tt σ2 H2 fun b H3 => if b = true then te σ2 H3 Yv else Nn H3)
    (hd : ∀ H, Same H1 H → H D = some (.lst (((List.range n).filter keep).map out)) → Qd H) : LcJ J g tt te vs D σ H1 Qd := by
  refine lc_it w (fun i H => Same H1 H ∧ H D = some (.lst (((List.range i).filter keep).map out))) ⟨same_upd hD, upd_same⟩ (fun i H _ p => hG H p.1) (fun i x H H' hi p y => ?_) fun H p => hd H p.1 p.2
  obtain ⟨s1, hDl⟩ := p
  have hle : ((List.range i).filter keep).length ≤ i := Nat.le_trans (List.length_filter_le _ _) (by rw [List.length_range]; exact Nat.le_refl _)
  refine hs i x H H' (fun y H4 => ∃ acc, H4 D = some (.lst acc) ∧ acc.length < sizeLine ∧ (Same H1 (upd H4 D (.lst (acc ++ [y]))) ∧ (upd H4 D (.lst (acc ++ [y]))) D = some (.lst (((List.range (i + 1)).filter keep).map out)))) (fun H3 => Same H1 H3 ∧ H3 D = some (.lst (((List.range (i + 1)).filter keep).map out))) hi s1 y (fun hk H2 s2 => ⟨_, s2 _ _ hDl, by rw [List.length_map]; exact smallt (by omega), Dw.Same.new (s1.trans s2) hD, ?_⟩) (fun hk H2 s2 => ⟨s1.trans s2, ?_⟩)
  · rw [upd_same, List.range_succ, List.filter_append, List.filter_cons_of_pos hk, List.map_append]
    rfl
  · rw [s2 _ _ hDl, List.range_succ, List.filter_append, List.filter_cons_of_neg (by rw [hk]; decide), List.map_append]
    simp
theorem for_itN {J : It} {n : Nat} {G : Hp → Prop} {Y : Nat → Hp → V → Hp → Prop} (w : Walk J n G Y) {g : TG} {tb : TS} {D : Ends} {σ : L2.St} {H : Hp} (Pv : Nat → L2.St → Hp → Prop) (h0 : Pv 0 σ H) (hG : ∀ i σ H, i ≤ n → Pv i σ H → G H)
    (hs : ∀ i x σ H H' (N : L2.St → Hp → Prop), i < n → Pv i σ H → Y i H x H' → (∀ σ' H', Pv (i + 1) σ' H' → N σ' H') → g x σ H' fun σ2 H2 => tb { D with nx := N, ct := N, bk := D.nx } σ2 H2) (hd : ∀ σ H, Pv n σ H → D.nx σ H) : ForJ J g tb D σ H :=
  for_it w Pv h0 hG (fun i x σ H H' hi hp y => hs i x σ H H' (Pv (i + 1)) hi hp y (fun _ _ h => h)) hd
theorem sel_ints (n : Nat) (keep : Nat → Bool) : ((List.range n).filter keep).map nv = (((List.range n).filter keep).map fun x => ((x : Nat) : Int)).map V.int := by rw [List.map_map]; rfl
theorem mem_sel {n : Nat} {keep : Nat → Bool} {x : Int} : x ∈ ((List.range n).filter keep).map (fun x => ((x : Nat) : Int)) ↔ ∃ j : Nat, j < n ∧ keep j = true ∧ x = (j : Int) := by
  rw [List.mem_map]
  constructor
  · rintro ⟨j, h, rfl⟩
    obtain ⟨h1, h2⟩ := List.mem_filter.mp h
    exact ⟨j, List.mem_range.mp h1, h2, rfl⟩
  · rintro ⟨j, h1, h2, rfl⟩
    exact ⟨j, List.mem_filter.mpr ⟨List.mem_range.mpr h1, h2⟩, rfl⟩
end Dw
namespace Dw
open PySem PySem.Spec PyProof.Rows L2 SX
/-! a number looked for along a word: which state each number so far leads to -/
def rSortDI : List V → Hp → VK → Prop := fun xs H Q => ∃ (a : Addr) (kvs : List (L2.Key × V)) (ks : List Int), xs = [.ref a] ∧ Rd H a (.dK kvs) ∧ kvs.map (·.1) = ks.map Sum.inl ∧ ks.length < 64 ∧
    ∀ (ys : List Int) (p : Addr), ys.Perm ks → ys.Pairwise (· ≤ ·) → H p = none → Q (.ref p) (upd H p (.lst (ys.map V.int)))
theorem sortDI {X : Cx} (hc : X.calm = true) : CallR X (.builtin "sorted") rSortDI := call_sortedDI hc
def wrdK (word : List Nat) (k : Nat) : List Nat := (List.range k).map fun j => word.getD j 0
theorem wrdK_len (word : List Nat) (k : Nat) : (wrdK word k).length = k := by unfold wrdK; rw [List.length_map, List.length_range]
theorem wrdK_succ (word : List Nat) (k : Nat) : wrdK word (k + 1) = wrdK word k ++ [word.getD k 0] := by unfold wrdK; rw [List.range_succ, List.map_append]; rfl
theorem zipw_snoc (t : Nat) (ls : List Nat) (a y : Nat) : zipw t (ls ++ [a]) y = zipw t ls y ++ [wt a t (y / 2 ^ ls.length % 2)] := by
  unfold zipw
  rw [List.length_append, List.length_singleton, List.range_succ, List.map_append]
  refine congr (congrArg _ (List.map_congr_left fun i hi => ?_)) ?_
  · rw [List.getD_eq_getElem?_getD, List.getElem?_append_left (List.mem_range.mp hi), ← List.getD_eq_getElem?_getD]
  · rw [List.map_singleton, List.getD_eq_getElem?_getD, List.getElem?_append_right (Nat.le_refl _), Nat.sub_self]
    rfl
theorem zipw_add (t : Nat) (ls : List Nat) {x : Nat} (v : Nat) (hx : x < 2 ^ ls.length) : zipw t ls (x + v * 2 ^ ls.length) = zipw t ls x := by
  have := zipw_put t ls x v
  rwa [Nat.mod_eq_of_lt hx, Nat.mul_comm] at this
theorem zipw_pad (t : Nat) (word : List Nat) (y m : Nat) : zipw t (wrdK word (word.length + m)) y = zipw t word y ++ rwd t m (y / 2 ^ word.length) := by
  refine List.ext_getElem (by simp [zipw, rwd, wrdK_len]) fun i p q => ?_
  have hi : i < word.length + m := by simpa [zipw, wrdK_len] using p
  have e1 : (zipw t (wrdK word (word.length + m)) y)[i] = wt (word.getD i 0) t (y / 2 ^ i % 2) := by
    simp [zipw, wrdK, hi]
  rw [e1]
  by_cases h : i < word.length
  · rw [List.getElem_append_left (by simp [zipw]; exact h)]
    simp [zipw]
  · rw [List.getElem_append_right (by simp [zipw]; omega)]
    simp only [zipw, rwd, List.getElem_map, List.getElem_range, List.length_map, List.length_range]
    rw [List.getD_eq_getElem?_getD, List.getElem?_eq_none (by omega), Nat.div_div_eq_div_mul, ← Nat.pow_add, show word.length + (i - word.length) = i by omega]
    rfl
structure WayI (T : List (List Int)) (t : Nat) (word : List Nat) (k : Nat) (ps : List (Nat × Nat)) : Prop where
  nd : (ps.map (·.1)).Nodup
  ok : ∀ p ∈ ps, p.1 < T.length ∧ p.2 < 2 ^ k ∧ runT T 0 (zipw t (wrdK word k) p.2) = p.1
  all : ∀ y, runT T 0 (zipw t (wrdK word k) y) ∈ ps.map (·.1)
theorem WayI.zero {T : List (List Int)} {t : Nat} {word : List Nat} (h : 0 < T.length) : WayI T t word 0 [(0, 0)] :=
  ⟨List.pairwise_singleton _ _, fun p hp => by rw [List.mem_singleton.mp hp]; exact ⟨h, by decide, rfl⟩, fun y => List.mem_singleton.mpr rfl⟩
structure MoreI (T : List (List Int)) (t : Nat) (word : List Nat) (k : Nat) (done : Nat → Nat → Prop) (ms : List (Nat × Nat)) : Prop where
  nd : (ms.map (·.1)).Nodup
  ok : ∀ p ∈ ms, p.1 < T.length ∧ p.2 < 2 ^ (k + 1) ∧ runT T 0 (zipw t (wrdK word (k + 1)) p.2) = p.1
  all : ∀ s v, done s v → nxt T s (wt (word.getD k 0) t v) ∈ ms.map (·.1)
theorem MoreI.zero {T : List (List Int)} {t : Nat} {word : List Nat} {k : Nat} : MoreI T t word k (fun _ _ => False) [] := ⟨List.nodup_nil, fun _ h => (nomatch h), fun _ _ h => h.elim⟩
theorem MoreI.imp {T : List (List Int)} {t : Nat} {word : List Nat} {k : Nat} {d d' : Nat → Nat → Prop} {ms : List (Nat × Nat)} (h : MoreI T t word k d ms) (hd : ∀ s v, d' s v → d s v) : MoreI T t word k d' ms := ⟨h.nd, h.ok, fun s v z => h.all s v (hd s v z)⟩
theorem MoreI.old {T : List (List Int)} {t : Nat} {word : List Nat} {k : Nat} {d : Nat → Nat → Prop} {ms : List (Nat × Nat)} {s v : Nat} (h : MoreI T t word k d ms) (hm : nxt T s (wt (word.getD k 0) t v) ∈ ms.map (·.1)) : MoreI T t word k (fun a b => d a b ∨ (a = s ∧ b = v)) ms :=
  ⟨h.nd, h.ok, fun a b z => z.elim (h.all a b) fun z => by rw [z.1, z.2]; exact hm⟩
theorem MoreI.new {T : List (List Int)} {t : Nat} {word : List Nat} {k : Nat} {d : Nat → Nat → Prop} {ms : List (Nat × Nat)} {s v x : Nat} (h : MoreI T t word k d ms) (hv : v < 2) (hx : x < 2 ^ k) (hs : runT T 0 (zipw t (wrdK word k) x) = s) (hlt : nxt T s (wt (word.getD k 0) t v) < T.length)
    (hm : nxt T s (wt (word.getD k 0) t v) ∉ ms.map (·.1)) : MoreI T t word k (fun a b => d a b ∨ (a = s ∧ b = v)) (ms ++ [(nxt T s (wt (word.getD k 0) t v), x + v * 2 ^ k)]) := by
  refine ⟨?_, fun p hp => ?_, fun a b z => ?_⟩
  · rw [List.map_append]
    exact snoc_nodup h.nd hm
  · rcases List.mem_append.mp hp with hp | hp
    · exact h.ok p hp
    · rw [List.mem_singleton.mp hp]
      refine ⟨hlt, ?_, ?_⟩
      · have : v * 2 ^ k ≤ 1 * 2 ^ k := Nat.mul_le_mul_right _ (by omega)
        rw [Nat.pow_succ]
        show x + v * 2 ^ k < _
        omega
      · have e := zipw_add t (wrdK word k) (x := x) v (by rw [wrdK_len]; exact hx)
        rw [wrdK_len] at e
        show runT T 0 (zipw t (wrdK word (k + 1)) (x + v * 2 ^ k)) = _
        rw [wrdK_succ, zipw_snoc, wrdK_len, e, runT_snoc, hs, Nat.add_mul_div_right _ _ (Nat.two_pow_pos k), Nat.div_eq_of_lt hx, Nat.zero_add, Nat.mod_eq_of_lt hv]
  · rw [List.map_append, List.mem_append]
    rcases z with z | ⟨rfl, rfl⟩
    · exact .inl (h.all a b z)
    · exact .inr (List.mem_singleton.mpr rfl)
theorem MoreI.way {T : List (List Int)} {t : Nat} {word : List Nat} {k : Nat} {ps ms : List (Nat × Nat)} (w : WayI T t word k ps) (h : MoreI T t word k (fun s v => s ∈ ps.map (·.1) ∧ v < 2) ms) : WayI T t word (k + 1) ms := by
  refine ⟨h.nd, h.ok, fun y => ?_⟩
  rw [wrdK_succ, zipw_snoc, wrdK_len, runT_snoc]
  exact h.all _ _ ⟨w.all y, Nat.mod_lt _ (by decide)⟩
/-- as a dict -/
def kvW (ps : List (Nat × Nat)) : List (L2.Key × V) := ps.map fun p => (.inl ((p.1 : Nat) : Int), nv p.2)
theorem kvW_keys (ps : List (Nat × Nat)) : (kvW ps).map (·.1) = ((ps.map (·.1)).map fun (x : Nat) => (x : Int)).map Sum.inl := by
  unfold kvW
  rw [List.map_map, List.map_map, List.map_map]
  rfl
theorem kvW_no : ∀ (ps : List (Nat × Nat)) (x : Nat), x ∉ ps.map (·.1) → valV (kvW ps) (.inl ((x : Nat) : Int)) = none
  | [], _, _ => rfl
  | p :: ps, x, h => by
    have h1 : p.1 ≠ x := fun e => h (by rw [← e]; exact List.mem_cons_self)
    unfold kvW
    rw [List.map_cons, valV_neg (fun e => h1 (by have := Sum.inl.inj e; omega))]
    exact kvW_no ps x fun z => h (List.mem_cons_of_mem _ z)
theorem kvW_at : ∀ (ps : List (Nat × Nat)) {x : Nat}, x ∈ ps.map (·.1) → ∃ y, (x, y) ∈ ps ∧ valV (kvW ps) (.inl ((x : Nat) : Int)) = some (nv y)
  | [], _, h => nomatch h
  | p :: ps, x, h => by
    unfold kvW
    rw [List.map_cons]
    by_cases e : p.1 = x
    · exact ⟨p.2, by rw [← e]; exact List.mem_cons_self, by rw [valV_pos (by rw [e])]⟩
    · obtain ⟨y, h1, h2⟩ := kvW_at ps ((List.mem_cons.mp h).resolve_left fun z => e z.symm)
      exact ⟨y, List.mem_cons_of_mem _ h1, by rw [valV_neg (fun z => e (by have := Sum.inl.inj z; omega))]; exact h2⟩
theorem kvW_get {H : Hp} {d : Addr} {ps : List (Nat × Nat)} {x : Nat} (e : H d = some (.dK (kvW ps))) : DGet H d (nv x) (valV (kvW ps) (.inl ((x : Nat) : Int))) := DGet.k (k := .inl ((x : Nat) : Int)) e
theorem kvW_put {H : Hp} {d : Addr} {ps : List (Nat × Nat)} {x y : Nat} (e : H d = some (.dK (kvW ps))) (n : x ∉ ps.map (·.1)) (hl : ps.length < 1000) : DPut H d (nv x) (nv y) (upd H d (.dK (kvW (ps ++ [(x, y)])))) := by
  have := DPut.k (v := nv y) (k := .inl ((x : Nat) : Int)) e (by unfold kvW; rw [List.length_map, sizeLine_eq]; omega)
  rwa [putK_new _ (kvW_no ps x n), show kvW ps ++ [(.inl ((x : Nat) : Int), nv y)] = kvW (ps ++ [(x, y)]) by unfold kvW; rw [List.map_append]; rfl] at this
theorem WayI.len {T : List (List Int)} {t : Nat} {word : List Nat} {k : Nat} {ps : List (Nat × Nat)} (w : WayI T t word k ps) : ps.length ≤ T.length := by
  have := nodup_len w.nd fun x hx => by
    obtain ⟨p, hp, rfl⟩ := List.mem_map.mp hx
    exact (w.ok p hp).1
  rwa [List.length_map] at this
theorem MoreI.len {T : List (List Int)} {t : Nat} {word : List Nat} {k : Nat} {d : Nat → Nat → Prop} {ps : List (Nat × Nat)} (w : MoreI T t word k d ps) : ps.length ≤ T.length := by
  have := nodup_len w.nd fun x hx => by
    obtain ⟨p, hp, rfl⟩ := List.mem_map.mp hx
    exact (w.ok p hp).1
  rwa [List.length_map] at this
theorem WayI.get {T : List (List Int)} {t : Nat} {word : List Nat} {k : Nat} {ps : List (Nat × Nat)} (w : WayI T t word k ps) {x : Nat} (hx : x ∈ ps.map (·.1)) : ∃ y, valV (kvW ps) (.inl ((x : Nat) : Int)) = some (nv y) ∧ x < T.length ∧ y < 2 ^ k ∧ runT T 0 (zipw t (wrdK word k) y) = x := by
  obtain ⟨y, h1, h2⟩ := kvW_at ps hx
  exact ⟨y, h2, w.ok _ h1⟩
/-- what is told: a number that goes with the word, or that there is none -/
def FoundW (T : List (List Int)) (acc : List Bool) (t : Nat) (word : List Nat) : Option Nat → Prop
  | some x => x < 2 ^ (word.length + T.length) ∧ ∃ m, x < 2 ^ (word.length + m) ∧ acc.getD (runT T (runT T 0 (zipw t word x)) (rwd t m (x / 2 ^ word.length))) false = true
  | none => ∀ y m, acc.getD (runT T (runT T 0 (zipw t word y)) (rwd t m (y / 2 ^ word.length))) false = false
section
variable {w : Nat} {T : List (List Int)} {acc : List Bool} {t : Nat}
theorem found_some {word : List Nat} {k x : Nat} (hk : word.length ≤ k) (hk2 : k ≤ word.length + T.length) (hx : x < 2 ^ k) (h : acc.getD (runT T 0 (zipw t (wrdK word k) x)) false = true) : FoundW T acc t word (some x) := by
  obtain ⟨m, rfl⟩ : ∃ m, k = word.length + m := ⟨k - word.length, by omega⟩
  rw [zipw_pad, runT_app] at h
  exact ⟨Nat.lt_of_lt_of_le hx (Nat.pow_le_pow_right (by decide) hk2), m, hx, h⟩
theorem canK_word (s m : Nat) : canK (fun s => acc.getD s false) (fun s => nxt T s 0) (fun s => nxt T s (2 ^ t)) m s = true → ∃ r, acc.getD (runT T s (rwd t m r)) false = true := by
  have w1 : wt 0 t 1 = 2 ^ t := by rw [wt0, Nat.mul_one]
  induction m generalizing s with
  | zero => exact fun h => ⟨0, h⟩
  | succ m ih =>
    intro h
    have h : (canK _ _ _ m (nxt T s 0) || canK _ _ _ m (nxt T s (2 ^ t))) = true := h
    rw [Bool.or_eq_true] at h
    rcases h with h | h
    · obtain ⟨r, h⟩ := ih _ h
      refine ⟨2 * r, ?_⟩
      rw [rwd_succ, show 2 * r % 2 = 0 by omega, show 2 * r / 2 = r by omega, wt00]
      exact h
    · obtain ⟨r, h⟩ := ih _ h
      refine ⟨2 * r + 1, ?_⟩
      rw [rwd_succ, show (2 * r + 1) % 2 = 1 by omega, show (2 * r + 1) / 2 = r by omega, w1]
      exact h
theorem found_none (k : MOk w T acc) (ht : t < w) {word : List Nat} (hw : ∀ x ∈ word, x < 2 ^ (w - 1)) (h : ∀ j, word.length ≤ j → j ≤ word.length + T.length → ∀ y, acc.getD (runT T 0 (zipw t (wrdK word j) y)) false = false) : FoundW T acc t word none := by
  intro y m
  refine Bool.eq_false_iff.mpr fun z => ?_
  have hs : runT T 0 (zipw t word y) < T.length := by
    refine runT_lt k.good _ _ (fun x hx => ?_) k.pos
    unfold zipw at hx
    obtain ⟨i, hi, rfl⟩ := List.mem_map.mp hx
    have hi := List.mem_range.mp hi
    refine wt_lt ?_ ht (Nat.mod_lt _ (by decide))
    rw [List.getD_eq_getElem?_getD, List.getElem?_eq_getElem hi]
    exact hw _ (List.getElem_mem hi)
  have hc : canF T acc t (runT T 0 (zipw t word y)) := (canF_word _).mpr ⟨m, _, z⟩
  obtain ⟨j, hj⟩ := hc
  obtain ⟨r, hr⟩ := rank_of hj
  have hpt : 2 ^ t < 2 ^ w := Nat.pow_lt_pow_right (by decide) ht
  have hrn := rank_lt (n := T.length) (fun x hx => (goodT_at k.good hx (Nat.two_pow_pos w)).choose_spec.2.2) (fun x hx => (goodT_at k.good hx hpt).choose_spec.2.2) hs hr
  obtain ⟨q, hq⟩ := canK_word _ _ hr.1
  have h1 := h (word.length + r) (by omega) (by omega) (y % 2 ^ word.length + 2 ^ word.length * q)
  rw [zipw_pad, runT_app, zipw_put, Nat.add_mul_div_left _ _ (Nat.two_pow_pos _), Nat.div_eq_of_lt (Nat.mod_lt _ (Nat.two_pow_pos _)), Nat.zero_add, hq] at h1
  cases h1
end
end Dw
namespace Dw
open PySem PySem.Spec PyProof.Rows L2 SX
/-! sorted of a tuple of ints -/
section
variable {pr : Program} {w : World} {A : Around} {E : Value → Shared → Prop} {u : Shared} {l : Addr}
theorem collect_tp {us : List Value} {Q : List Value → Shared → Prop} (hl : u.heap.IsTuple l us.toArray) (hz : us.length ≤ 1000)
    (h : Q us { u with heap := (u.heap.push (seqObj "list" #[] 0)).update u.heap.objs.size (Obj.mapSeq (· ++ us.toArray)) }) : wpAny (model pr w) A (collect (.ref l)) Q E u := by
  have hsz : us.length ≤ sizeLine := by rw [sizeLine_eq]; omega
  obtain ⟨o, ho, hc, n, hd⟩ := id hl
  unfold collect
  refine wpAny_bind (wpAny_runValue (codeAny_builtin entry_proto_collect' ?_))
  show wpAny _ _ (do again (.builtin "list.__iadd__" ⟨[← newList [], .ref l], []⟩)) _ _ u
  refine wpAny_bind (wpAny_newList (wpAny_pure ⟨Code.quiet_builtin _ (by decide +kernel), codeAny_builtin entry_list_iadd' ?_⟩))
  show wpAny _ _ (Builtin.List.listExtendWith (.ref u.heap.objs.size) (.ref l) (.ref u.heap.objs.size)) _ _ { u with heap := u.heap.push (seqObj "list" #[] 0) }
  unfold Builtin.List.listExtendWith
  have ho1 : (u.heap.push (seqObj "list" #[] 0)).get? l = some o := Heap.get?_push_of_some _ ho
  refine wpAny_bind (wpAny_typeOf (T := "tuple") ⟨o, ho1, hc⟩ ?_)
  have ht : (Value.type "tuple" == Value.type "tuple") = true := by rfl
  rw [if_pos (by rw [ht]; simp)]
  refine wpAny_bind (listItems_at ho1 hd ?_)
  refine wpAny_bind (listItems_at (xs := #[]) (n := 0) (Heap.get?_push_size _ rfl) rfl ?_)
  rw [if_neg (by simp)]
  refine wpAny_bind (listUpdate_at (xs := #[]) (n := 0) (Heap.get?_push_size _ rfl) rfl (wpAny_pure ?_) (Nat.zero_le _) (by simp only [Array.size_append, List.size_toArray, List.length_nil]; omega))
  show wpAny (model pr w) A (do
      let ob ← load u.heap.objs.size
      match ob.data with
      | .seq ys _ => pure ys.toList
      | _ => unsupported "internal:collect") Q E { u with heap := (u.heap.push (seqObj "list" #[] 0)).update u.heap.objs.size (Obj.mapSeq (· ++ us.toArray)) }
  refine wpAny_bind (wpAny_load (get?_update_seq (Heap.get?_push_size _ rfl) _) ?_)
  show wpAny _ _ (pure ((#[] : Array Value) ++ us.toArray).toList) Q E _
  rw [show ((#[] : Array Value) ++ us.toArray).toList = us by simp]
  exact wpAny_pure h
theorem sorted_tp {us : List Value} {ns : List Int} {Q : Value → Shared → Prop} (hl : u.heap.IsTuple l us.toArray) (hI : IntsAre us ns) (h64 : us.length < 64)
    (h : ∀ (out : Array Value) (ms : List Int), IntsAre out.toList ms → ms.Perm ns → ms.Pairwise (· ≤ ·) → Q (.ref (u.heap.objs.size + 1)) { u with heap := sortedAll u.heap us out }) :
    wpAny (model pr w) A (call (.builtin "sorted") [.ref l]) Q E u := by
  refine Calls.call_function_entry kind_sorted plain_sorted entry_sorted (args_sorted1 _) ?_
  unfold Builtin.«sorted»
  refine wpAny_bind (m := checkCount "sorted" 1 1 _) (wpAny_pure (wpAny_bind (collect_tp hl (by omega) (wpAny_bind (wpAny_newList ?_ (by rw [sizeLine_eq]; omega))))))
  obtain ⟨h1, e1⟩ : ∃ h1, h1 = (u.heap.push (seqObj "list" #[] 0)).update u.heap.objs.size (Obj.mapSeq (· ++ us.toArray)) := ⟨_, rfl⟩
  have hsz : h1.objs.size = u.heap.objs.size + 1 := by rw [e1, Heap.size_update, size_push']
  have hoL : (h1.push (seqObj "list" us.toArray 0)).get? (u.heap.objs.size + 1) = some (seqObj "list" us.toArray 0) := by
    rw [← hsz]; exact Heap.get?_push_size _ rfl
  show wpAny _ _ _ _ _ { u with heap := ((u.heap.push (seqObj "list" #[] 0)).update u.heap.objs.size (Obj.mapSeq (· ++ us.toArray))).push (seqObj "list" us.toArray 0) }
  rw [← e1, hsz]
  refine wpAny_bind (wpAny_holding (wpAny_call_entry slot_list_sort ⟨_, hoL, rfl⟩ entry_list_sort (list_sort_tree hoL hI h64 fun out ms a1 a2 a3 => ⟨_, rfl, ?_⟩) (args_list_sort _)))
  have q := h out ms a1 a2 a3
  unfold sortedAll at q
  rw [← e1] at q
  exact wpAny_pure ⟨_, rfl, q⟩
end
section
variable {X : Cx} {K : PySem.W.Frag}
def rSortTp (K : PySem.W.Frag) : List V → Hp → VK → Prop := fun vs H Q => ∃ (a : Addr) (ns : List Int), vs = [V.ref a] ∧ SqT K H a (ns.map V.int) ∧ ns.length < 64 ∧ ∀ (ms : List Int) (p : Addr), ms.Perm ns → ms.Pairwise (· ≤ ·) → H p = none → Q (.ref p) (upd H p (.lst (ms.map V.int)))
theorem sortTp (hK : X.K = K := by rfl) : CallR X (.builtin "sorted") (rSortTp K) := by
  subst hK
  intro pins s σ H vs us Q I r h
  obtain ⟨a, ns, rfl, hs, h64, q⟩ := h
  obtain ⟨its, rv, hl, _⟩ := I.tuple hs
  rw [Vals.ref1 r]
  have hi := rv.ints
  refine sorted_tp (show s.heap.IsTuple a its.toArray from hl) hi (by rw [hi.length]; exact h64) fun out ms h1 h2 h3 => ?_
  obtain ⟨ep, he⟩ := PyProof.Rows.sortedAll_at s.heap its out
  have hlen : (ms.map V.int).length ≤ sizeLine := by rw [List.length_map, h2.length_eq, sizeLine_eq]; omega
  exact ⟨.ref _, upd H (s.heap.objs.size + 1) (.lst (ms.map V.int)), I.laid (t' := s.toks) (fun _ _ => PyProof.Rows.sortedAll_old) (Nat.le_succ _) ⟨hlen, out.toList, ep, vals_of_ints h1, he⟩, rfl, q ms _ h2 h3 (I.hok.fresh (Nat.le_succ _))⟩
end
end Dw
namespace Dw
open PySem PySem.Spec PyProof.Rows L2 SX
/-! tuples of ints as data: equality, places -/
theorem eqvAll_ints : ∀ a b : List Int, PyData.eqvAll (a.map intD) (b.map intD) = decide (a = b)
  | [], [] => by simp [PyData.eqvAll]
  | [], y :: b => by simp [PyData.eqvAll]
  | x :: a, [] => by simp [PyData.eqvAll]
  | x :: a, y :: b => by
    have ih := eqvAll_ints a b
    rw [List.map_cons, List.map_cons]
    unfold PyData.eqvAll
    rw [ih]
    have e : PyData.eqv (intD x) (intD y) = decide (x = y) := by
      simp only [intD, PyData.eqv]
      by_cases h : x = y
      · subst h; simp
      · simp [h]
    rw [e]
    by_cases h : x = y
    · subst h; simp
    · simp [h]
theorem eqv_tup (a b : List Int) : PyData.eqv (trowD a) (.tuple (b.map intD)) = decide (a = b) := by
  have := eqvAll_ints a b
  unfold trowD
  simp only [PyData.eqv]
  exact this
theorem no_tup {T : List (List Int)} {l : List Int} (h : l ∉ T) : ((T.map trowD).any fun z => PyData.eqv z (.tuple (l.map intD))) = false := by
  rw [List.any_eq_false]
  intro z hz
  obtain ⟨a, ha, rfl⟩ := List.mem_map.mp hz
  rw [eqv_tup, decide_eq_true_eq]
  intro e
  exact h (e ▸ ha)
theorem tup_shaped (l : List Int) : SeqAt.shaped (.tuple (l.map intD)) = true := by
  simp [SeqAt.shaped, PyData.canLay0, PyData.depth, ints_lay l, ints_depth l]
theorem lst_shaped (l : List Int) : SeqAt.shaped (.list (l.map intD)) = true := by
  simp [SeqAt.shaped, PyData.canLay0, PyData.depth, ints_lay l, ints_depth l]
theorem tups_shaped (T : List (List Int)) : SeqAt.shaped (.list (T.map trowD)) = true := by
  have := trows_depth T
  have h2 : PyData.depthAll (T.map trowD) ≤ 63 := by omega
  simp [h2, SeqAt.shaped, PyData.canLay0, PyData.canLayAll0, PyData.depth, PyData.depthAll, trows_lay]
theorem TupsAt.tk {H : Hp} {ts : List Addr} {T : List (List Int)} (h : TupsAt H ts T) (k : Nat) : TupsAt H (ts.take k) (T.take k) := by
  refine ⟨by rw [List.length_take, List.length_take, h.len], fun i a r h1 h2 => ?_⟩
  rw [List.getElem?_take] at h1 h2
  split at h1
  · rename_i hi
    rw [if_pos hi] at h2
    exact h.at_ i a r h1 h2
  · cases h1
theorem not_before {α : Type} [DecidableEq α] {ls : List α} {l : α} {i : Nat} (nd : ls.Nodup) (h : ls[i]? = some l) : l ∉ ls.take i := fun hin => by
  obtain ⟨j, hj⟩ := List.mem_iff_getElem?.mp hin
  rw [List.getElem?_take] at hj
  split at hj
  · rename_i hji
    obtain ⟨h1, h2⟩ := List.getElem?_eq_some_iff.mp hj
    obtain ⟨h3, h4⟩ := List.getElem?_eq_some_iff.mp h
    have := (List.getElem_inj nd (i := j) (j := i)).mp (by rw [h2, h4])
    omega
  · cases hj
end Dw
namespace Dw
open PySem PySem.Spec PyProof.Rows L2 SX
/-! each word is the word of a tuple, with zeros behind it -/
def nsW (w : Nat) (u : List Nat) : List Nat := (List.range w).map fun t => lo (bitAt u t)
theorem nsW_len (w : Nat) (u : List Nat) : (nsW w u).length = w := by simp [nsW]
theorem nsW_lt {w : Nat} {u : List Nat} : ∀ n ∈ nsW w u, n < 2 ^ u.length := fun n hn => by
  obtain ⟨t, _, rfl⟩ := List.mem_map.mp hn
  have := lo_lt (bitAt_bits u t)
  rwa [bitAt_len] at this
theorem Wn_nsW {w : Nat} {u : List Nat} (hu : ∀ x ∈ u, x < 2 ^ w) : Wn (nsW w u) u.length = u := by
  refine List.ext_getElem (by rw [Wn_len]) fun k h1 h2 => ?_
  simp only [Wn, List.getElem_map, List.getElem_range]
  have e : bitAt (nsW w u) k = bitsL u[k] w := by
    unfold bitAt nsW bitsL
    rw [List.map_map]
    refine List.map_congr_left fun t _ => ?_
    show lo (bitAt u t) / 2 ^ k % 2 = u[k] / 2 ^ t % 2
    rw [lo_bit k (bitAt_bits u t)]
    unfold bitAt
    rw [List.getD_eq_getElem?_getD, List.getElem?_map, List.getElem?_eq_getElem h2]
    rfl
  rw [e, lo_bitsL_of (hu _ (List.getElem_mem h2))]
section
variable {w : Nat} {T T1 T2 : List (List Int)} {acc a1 a2 : List Bool}
theorem acc_nsW (k : MOk w T acc) {u : List Nat} (hu : ∀ x ∈ u, x < 2 ^ w) : acc.getD (runT T 0 u) false = Tk T acc (nsW w u) := by
  rw [← Wn_tk k (nsW_len w u) (bls_le nsW_lt), Wn_nsW hu]
/-- no word parts two machines if and only if they take the same tuples -/
theorem sep_tk (k1 : MOk w T1 a1) (k2 : MOk w T2 a2) : (∀ u, (∀ x ∈ u, x < 2 ^ w) → ¬ Sep2 T1 T2 a1 a2 u) ↔ ∀ ns : List Nat, ns.length = w → Tk T1 a1 ns = Tk T2 a2 ns := by
  constructor
  · intro h ns hn
    exact Classical.not_not.mp (h (wd ns) fun x hx => by have := wd_lt hx; rwa [hn] at this)
  · intro h u hu hs
    unfold Sep2 at hs
    rw [acc_nsW k1 hu, acc_nsW k2 hu, h _ (nsW_len w u)] at hs
    exact hs rfl
end
/-! a search stays within what can't be left -/
section
variable {L : Type} [DecidableEq L] {g : L → Nat → L} {P : L → Prop}
theorem rowF_memP {h : Nat → L} {f0 : List L} (hf : ∀ y ∈ f0, P y) : ∀ j, (∀ i, i < j → P (h i)) → ∀ y ∈ (rowF h f0 j).1, P y
  | 0, _ => hf
  | j + 1, hg => fun y hy => by
    have ih := rowF_memP hf j fun i hi => hg i (Nat.lt_succ_of_lt hi)
    change y ∈ (stepL (h j) (rowF h f0 j)).1 at hy
    unfold stepL at hy
    split at hy
    · exact ih y hy
    · rcases List.mem_append.mp hy with hy | hy
      · exact ih y hy
      · rw [List.mem_singleton.mp hy]; exact hg j (Nat.lt_succ_self j)
theorem bfsN_memP {n : Nat} {l0 : L} (h0 : P l0) (hc : ∀ l, P l → ∀ j, j < n → P (g l j)) : ∀ k, ∀ y ∈ (bfsN g n l0 k).1, P y
  | 0 => fun y hy => by rw [List.mem_singleton.mp hy]; exact h0
  | k + 1 => fun y hy => by
    have ih := bfsN_memP h0 hc k
    change y ∈ (match (bfsN g n l0 k).1[k]? with | some l => ((rowF (g l) (bfsN g n l0 k).1 n).1, (bfsN g n l0 k).2 ++ [(rowF (g l) (bfsN g n l0 k).1 n).2]) | none => bfsN g n l0 k).1 at hy
    cases e : (bfsN g n l0 k).1[k]? with
    | none => rw [e] at hy; exact ih y hy
    | some l =>
      rw [e] at hy
      exact rowF_memP ih n (fun i hi => hc l (ih l (List.mem_of_getElem? e)) i hi) y hy
theorem BfsI.memP {U : List L} {n : Nat} {l0 : L} {f : List L} {T : List (List Nat)} (h : BfsI g U n l0 f T) (h0 : P l0) (hc : ∀ l, P l → ∀ j, j < n → P (g l j)) : ∀ y ∈ f, P y := by
  have := bfsN_memP (g := g) h0 hc T.length
  rwa [h.fn] at this
theorem RowI.memP {U : List L} {n : Nat} {f0 f : List L} {l : L} {j : Nat} {row : List Nat} (h : RowI g U f0 l j f row) (hf : ∀ y ∈ f0, P y) (hl : P l) (hj : j ≤ n) (hc : ∀ l, P l → ∀ j, j < n → P (g l j)) : ∀ y ∈ f, P y := by
  have := rowF_memP (P := P) (h := g l) hf j fun i hi => hc l hl i (by omega)
  rwa [h.fn] at this
/-- a search over things that have few names never runs over -/
theorem no_moreP {M : Type} {U : List L} {V : List M} {φ : L → M} {n : Nat} {l0 l : L} {f f2 : List L} {T : List (List Nat)} {row : List Nat} {j m : Nat} (h : BfsI g U n l0 f T) (hl : f[T.length]? = some l) (r : RowI g U f l j f2 row) (hj : j < n) (hm : f2.length = m) (hn : g l j ∉ f2) (h0 : P l0) (hc : ∀ l, P l → ∀ j, j < n → P (g l j))
    (inj : ∀ a b, P a → P b → φ a = φ b → a = b) (into : ∀ a, P a → φ a ∈ V) (hV : V.length ≤ m) : False := by
  have h1 := h.memP h0 hc
  have hlC := h1 l (List.mem_of_getElem? hl)
  have h2 := r.memP h1 hlC (Nat.le_of_lt hj) hc
  have hP : ∀ y ∈ f2 ++ [g l j], P y := fun y hy => by
    rcases List.mem_append.mp hy with hy | hy
    · exact h2 y hy
    · rw [List.mem_singleton.mp hy]; exact hc l hlC j hj
  have nd := snoc_nodup r.nd hn
  have nd2 : ((f2 ++ [g l j]).map φ).Nodup := by
    refine List.pairwise_map.mpr (List.Pairwise.imp_of_mem (R := (· ≠ ·)) (fun {a b} ha hb hab e => hab (inj a b (hP a ha) (hP b hb) e)) nd)
  have := nodup_le (U := V) nd2 fun y hy => by
    obtain ⟨x, hx, rfl⟩ := List.mem_map.mp hy
    exact into x (hP x hx)
  rw [List.length_map, List.length_append, List.length_singleton] at this
  omega
theorem few_labels {M : Type} {U : List L} {V : List M} {φ : L → M} {n : Nat} {l0 : L} {f : List L} {T : List (List Nat)} (h : BfsI g U n l0 f T) (h0 : P l0) (hc : ∀ l, P l → ∀ j, j < n → P (g l j))
    (inj : ∀ a b, P a → P b → φ a = φ b → a = b) (into : ∀ a, P a → φ a ∈ V) : f.length ≤ V.length := by
  have hP := h.memP h0 hc
  have nd2 : (f.map φ).Nodup := by
    refine List.pairwise_map.mpr (List.Pairwise.imp_of_mem (R := (· ≠ ·)) (fun {a b} ha hb hab e => hab (inj a b (hP a ha) (hP b hb) e)) h.nd)
  have := nodup_le (U := V) nd2 fun y hy => by
    obtain ⟨x, hx, rfl⟩ := List.mem_map.mp hy
    exact into x (hP x hx)
  rwa [List.length_map] at this
end
/-! short lists of small numbers -/
def AL (n : Nat) : Nat → List (List Nat)
  | 0 => [[]]
  | k + 1 => [] :: (List.range n).flatMap fun x => (AL n k).map (x :: ·)
theorem mem_AL {n : Nat} : ∀ {k : Nat} {l : List Nat}, l.length ≤ k → (∀ x ∈ l, x < n) → l ∈ AL n k
  | 0, l, hl, _ => by rw [List.length_eq_zero_iff.mp (Nat.le_zero.mp hl)]; exact List.mem_cons_self
  | k + 1, [], _, _ => List.mem_cons_self
  | k + 1, x :: l, hl, hx => List.mem_cons_of_mem _ (List.mem_flatMap.mpr ⟨x, List.mem_range.mpr (hx x List.mem_cons_self), List.mem_map.mpr ⟨l, mem_AL (Nat.le_of_succ_le_succ hl) (fun y hy => hx y (List.mem_cons_of_mem _ hy)), rfl⟩⟩)
theorem AL3 : (AL 3 3).length = 40 := by decide +kernel
end Dw
namespace K19
open PySem PySem.Spec PyProof.Rows L2 SX Dw
def topS (i : Nat) : Stmt := PySem.Challenge.pw_digitwise_k19_whole_ways_agree.main.body.getD i (.Pass ⟨0, 0, 0, 0⟩)
abbrev s_letters : Stmt := topS 5
abbrev N_letters : List Str := ["width"]
theorem sc_letters : FnScope N_letters ["width"] (C8.fnScope s_letters) := C8.fnScope_by (by decide +kernel)
abbrev s_digit : Stmt := topS 6
abbrev N_digit : List Str := ["letter", "track"]
theorem sc_digit : FnScope N_digit ["letter", "track"] (C8.fnScope s_digit) := C8.fnScope_by (by decide +kernel)
abbrev s_letter_of : Stmt := topS 7
abbrev N_letter_of : List Str := ["digits", "track", "value"]
theorem sc_letter_of : FnScope N_letter_of ["digits"] (C8.fnScope s_letter_of) := C8.fnScope_by (by decide +kernel)
abbrev s_word_of : Stmt := topS 8
abbrev N_word_of : List Str := ["numbers", "length", "place", "number"]
theorem sc_word_of : FnScope N_word_of ["numbers"] (C8.fnScope s_word_of) := C8.fnScope_by (by decide +kernel)
abbrev s_with_track : Stmt := topS 9
abbrev N_with_track : List Str := ["letter", "track", "value", "before"]
theorem sc_with_track : FnScope N_with_track ["letter", "track", "value"] (C8.fnScope s_with_track) := C8.fnScope_by (by decide +kernel)
abbrev s_is_table : Stmt := topS 14
abbrev N_is_table : List Str := ["table", "length", "row", "successor"]
theorem sc_is_table : FnScope N_is_table ["table", "length"] (C8.fnScope s_is_table) := C8.fnScope_by (by decide +kernel)
abbrev s_is_state : Stmt := topS 15
abbrev N_is_state : List Str := ["value", "size"]
theorem sc_is_state : FnScope N_is_state ["value", "size"] (C8.fnScope s_is_state) := C8.fnScope_by (by decide +kernel)
abbrev s_check_width : Stmt := topS 16
abbrev N_check_width : List Str := ["width"]
theorem sc_check_width : FnScope N_check_width ["width"] (C8.fnScope s_check_width) := C8.fnScope_by (by decide +kernel)
abbrev s_check_track : Stmt := topS 17
abbrev N_check_track : List Str := ["machine", "track"]
theorem sc_check_track : FnScope N_check_track ["machine", "track"] (C8.fnScope s_check_track) := C8.fnScope_by (by decide +kernel)
abbrev s_reached : Stmt := topS 19
abbrev N_reached : List Str := ["start", "width", "follow", "found", "numbers", "table", "label", "row", "letter", "behind"]
theorem sc_reached : FnScope N_reached ["start", "width", "follow"] (C8.fnScope s_reached) := C8.fnScope_by (by decide +kernel)
abbrev s_classes : Stmt := topS 21
abbrev N_classes : List Str := ["machine"]
theorem sc_classes : FnScope N_classes ["machine"] (C8.fnScope s_classes) := C8.fnScope_by (by decide +kernel)
abbrev s_least : Stmt := topS 22
abbrev N_least : List Str := ["machine"]
theorem sc_least : FnScope N_least ["machine"] (C8.fnScope s_least) := C8.fnScope_by (by decide +kernel)
abbrev s_least_with_map : Stmt := topS 23
abbrev N_least_with_map : List Str := ["machine", "follow", "order", "table", "numbers", "smallest", "found", "members", "state", "each", "number"]
theorem sc_least_with_map : FnScope N_least_with_map ["machine"] (C8.fnScope s_least_with_map) := C8.fnScope_by (by decide +kernel)
abbrev s_same : Stmt := topS 24
abbrev N_same : List Str := ["one", "two"]
theorem sc_same : FnScope N_same ["one", "two"] (C8.fnScope s_same) := C8.fnScope_by (by decide +kernel)
abbrev s_rounds : Stmt := topS 25
abbrev N_rounds : List Str := ["table", "marks", "found", "last", "new", "mark", "state", "row", "behind"]
theorem sc_rounds : FnScope N_rounds ["table", "marks"] (C8.fnScope s_rounds) := C8.fnScope_by (by decide +kernel)
abbrev s_numbered : Stmt := topS 26
abbrev N_numbered : List Str := ["signs", "numbers", "sign"]
theorem sc_numbered : FnScope N_numbered ["signs"] (C8.fnScope s_numbered) := C8.fnScope_by (by decide +kernel)
abbrev s_both : Stmt := topS 29
abbrev N_both : List Str := ["one", "two", "name"]
theorem sc_both : FnScope N_both ["one", "two", "name"] (C8.fnScope s_both) := C8.fnScope_by (by decide +kernel)
abbrev s_both_with_pairs : Stmt := topS 30
abbrev N_both_with_pairs : List Str := ["one", "two", "name", "follow", "pairs", "table", "accepting", "first", "second"]
theorem sc_both_with_pairs : FnScope N_both_with_pairs ["one", "two", "name"] (C8.fnScope s_both_with_pairs) := C8.fnScope_by (by decide +kernel)
abbrev s_joined : Stmt := topS 31
abbrev N_joined : List Str := ["name", "first", "second"]
theorem sc_joined : FnScope N_joined ["name", "first", "second"] (C8.fnScope s_joined) := C8.fnScope_by (by decide +kernel)
abbrev s_complement : Stmt := topS 32
abbrev N_complement : List Str := ["machine", "mark"]
theorem sc_complement : FnScope N_complement ["machine"] (C8.fnScope s_complement) := C8.fnScope_by (by decide +kernel)
abbrev s_ranks : Stmt := topS 34
abbrev N_ranks : List Str := ["machine", "track", "found", "rank", "state", "row", "behind", "mark", "value"]
theorem sc_ranks : FnScope N_ranks ["machine", "track"] (C8.fnScope s_ranks) := C8.fnScope_by (by decide +kernel)
abbrev s_some : Stmt := topS 35
abbrev N_some : List Str := ["machine", "track"]
theorem sc_some : FnScope N_some ["machine", "track"] (C8.fnScope s_some) := C8.fnScope_by (by decide +kernel)
abbrev s_some_with_sets : Stmt := topS 36
abbrev N_some_with_sets : List Str := ["machine", "track", "found", "follow", "sets", "table", "accepting", "members", "value", "member", "state", "each"]
theorem sc_some_with_sets : FnScope N_some_with_sets ["machine", "track"] (C8.fnScope s_some_with_sets) := C8.fnScope_by (by decide +kernel)
abbrev s_spread : Stmt := topS 39
abbrev N_spread : List Str := ["machine", "places", "width"]
theorem sc_spread : FnScope N_spread ["machine", "places", "width"] (C8.fnScope s_spread) := C8.fnScope_by (by decide +kernel)
abbrev s_spread_with_states : Stmt := topS 40
abbrev N_spread_with_states : List Str := ["machine", "places", "width", "follow", "states", "table", "old_letters", "letter", "place", "state"]
theorem sc_spread_with_states : FnScope N_spread_with_states ["machine", "places", "width"] (C8.fnScope s_spread_with_states) := C8.fnScope_by (by decide +kernel)
abbrev s_fix : Stmt := topS 41
abbrev N_fix : List Str := ["machine", "track", "number", "follow", "pairs", "table", "pair"]
theorem sc_fix : FnScope N_fix ["machine", "track", "number"] (C8.fnScope s_fix) := C8.fnScope_by (by decide +kernel)
abbrev s_accepts_rest : Stmt := topS 42
abbrev N_accepts_rest : List Str := ["machine", "track", "pair", "state", "rest"]
theorem sc_accepts_rest : FnScope N_accepts_rest ["machine", "track", "pair"] (C8.fnScope s_accepts_rest) := C8.fnScope_by (by decide +kernel)
abbrev s__law_draw : Stmt := topS 44
abbrev N__law_draw : List Str := ["state", "many", "place", "cell", "one", "two", "taken"]
theorem sc__law_draw : FnScope N__law_draw ["state", "many"] (C8.fnScope s__law_draw) := C8.fnScope_by (by decide +kernel)
abbrev s__law_table : Stmt := topS 45
abbrev N__law_table : List Str := ["state", "width", "size", "table", "k", "row", "letter"]
theorem sc__law_table : FnScope N__law_table ["state", "width", "size"] (C8.fnScope s__law_table) := C8.fnScope_by (by decide +kernel)
abbrev s__law_marks : Stmt := topS 46
abbrev N__law_marks : List Str := ["state", "table", "group", "turn", "k", "low", "marks"]
theorem sc__law_marks : FnScope N__law_marks ["state", "table"] (C8.fnScope s__law_marks) := C8.fnScope_by (by decide +kernel)
abbrev s__law_parts : Stmt := topS 47
abbrev N__law_parts : List Str := ["state", "width", "most", "size", "table"]
theorem sc__law_parts : FnScope N__law_parts ["state", "width", "most"] (C8.fnScope s__law_parts) := C8.fnScope_by (by decide +kernel)
abbrev s__law_orders : Stmt := topS 48
abbrev N__law_orders : List Str := ["machine", "first", "second", "number", "low", "high"]
theorem sc__law_orders : FnScope N__law_orders ["machine", "first", "second", "number"] (C8.fnScope s__law_orders) := C8.fnScope_by (by decide +kernel)
abbrev s_law : Stmt := topS 49
abbrev N_law : List Str := ["script", "state", "width", "table", "marks", "one", "other", "more", "two", "first", "second", "number", "wide", "rest", "turned", "inside", "track"]
theorem sc_law : FnScope N_law ["script"] (C8.fnScope s_law) := C8.fnScope_by (by decide +kernel)
abbrev s_Machine___init__ : Stmt := (C8.clsBody (topS 13)).getD 0 (.Pass ⟨0, 0, 0, 0⟩)
abbrev N_Machine___init__ : List Str := ["self", "width", "table", "accepting", "state", "row"]
theorem sc_Machine___init__ : FnScope N_Machine___init__ ["self", "width", "table", "accepting"] (C8.fnScope s_Machine___init__) := C8.fnScope_by (by decide +kernel)
abbrev s_Machine_behind : Stmt := (C8.clsBody (topS 13)).getD 2 (.Pass ⟨0, 0, 0, 0⟩)
abbrev N_Machine_behind : List Str := ["self", "word", "state", "letter"]
theorem sc_Machine_behind : FnScope N_Machine_behind ["self", "word"] (C8.fnScope s_Machine_behind) := C8.fnScope_by (by decide +kernel)
abbrev s_Machine_accepts : Stmt := (C8.clsBody (topS 13)).getD 3 (.Pass ⟨0, 0, 0, 0⟩)
abbrev N_Machine_accepts : List Str := ["self", "word"]
theorem sc_Machine_accepts : FnScope N_Machine_accepts ["self", "word"] (C8.fnScope s_Machine_accepts) := C8.fnScope_by (by decide +kernel)
abbrev s_Machine_takes : Stmt := (C8.clsBody (topS 13)).getD 4 (.Pass ⟨0, 0, 0, 0⟩)
abbrev N_Machine_takes : List Str := ["self", "numbers"]
theorem sc_Machine_takes : FnScope N_Machine_takes ["self", "numbers"] (C8.fnScope s_Machine_takes) := C8.fnScope_by (by decide +kernel)
abbrev s_Machine_shape : Stmt := (C8.clsBody (topS 13)).getD 5 (.Pass ⟨0, 0, 0, 0⟩)
abbrev N_Machine_shape : List Str := ["self", "row"]
theorem sc_Machine_shape : FnScope N_Machine_shape ["self"] (C8.fnScope s_Machine_shape) := C8.fnScope_by (by decide +kernel)
abbrev s_some_with_sets_follow : Stmt := (C8.fnBody s_some_with_sets).getD 1 (.Pass ⟨0, 0, 0, 0⟩)
abbrev N_some_with_sets_follow : List Str := ["states", "letter", "machine", "track", "both", "value", "state", "each"]
theorem sc_some_with_sets_follow : NScopeC N_some_with_sets_follow ["states", "letter"] ["machine", "track"] (C8.fnScope s_some_with_sets_follow) := nscopeC_by (by decide +kernel)
abbrev s_least_with_map_follow : Stmt := (C8.fnBody s_least_with_map).getD 2 (.Pass ⟨0, 0, 0, 0⟩)
abbrev N_least_with_map_follow : List Str := ["each", "letter", "found", "machine", "members"]
theorem sc_least_with_map_follow : NdefX.NScope N_least_with_map_follow ["each", "letter"] ["found", "machine", "members"] (C8.fnScope s_least_with_map_follow) := NdefX.nscope_by (by decide +kernel)
abbrev s_both_with_pairs_follow : Stmt := (C8.fnBody s_both_with_pairs).getD 2 (.Pass ⟨0, 0, 0, 0⟩)
abbrev N_both_with_pairs_follow : List Str := ["pair", "letter", "one", "two"]
theorem sc_both_with_pairs_follow : NdefX.NScope N_both_with_pairs_follow ["pair", "letter"] ["one", "two"] (C8.fnScope s_both_with_pairs_follow) := NdefX.nscope_by (by decide +kernel)
abbrev s_spread_with_states_follow : Stmt := (C8.fnBody s_spread_with_states).getD 3 (.Pass ⟨0, 0, 0, 0⟩)
abbrev N_spread_with_states_follow : List Str := ["state", "wide", "machine", "old_letters"]
theorem sc_spread_with_states_follow : NdefX.NScope N_spread_with_states_follow ["state", "wide"] ["machine", "old_letters"] (C8.fnScope s_spread_with_states_follow) := NdefX.nscope_by (by decide +kernel)
abbrev s_fix_follow : Stmt := (C8.fnBody s_fix).getD 2 (.Pass ⟨0, 0, 0, 0⟩)
abbrev N_fix_follow : List Str := ["pair", "letter", "machine", "track", "state", "rest"]
theorem sc_fix_follow : NdefX.NScope N_fix_follow ["pair", "letter"] ["machine", "track"] (C8.fnScope s_fix_follow) := NdefX.nscope_by (by decide +kernel)
local macro_rules | `(tactic| walk_at "rd") => `(tactic| simp only [tSeq, tNext, tAsg, gName, tRet, tRetN, tIfS, tDrop, tVar, tC, tOp, tUn, tTest, tCB, tCons, tNil, tB, tAnd, tOr, tNot, tAndV, tOrV, tNotV, tIf, tCall, tTup, tLst, tSl, tPart, tNoPart, tM0, tM1, tBM, tChain, tBreak, tCont, tNever, tAug, ipI, tPar, tyV_str,
  tFor_eq, tSc2_eq, tDc_eq, tDNewS, rLenNS, tSetdS, StX.tStar, iAny, rSortedSet, rAny, tLc_eq, tYes, wipe, Int.zero_add, gNil, gCons, gTup, gSub, iRng1, iRng2, iList, iTup, iStr, rI0, rI, rU, rEq, rNe, rIxL, rIxT, rIxS, Dw.rLen, rListOf, rTupOf, rNotB, rIsB, rMulS, rIn, rCat, rAppend, rCatA, C8.rSlX, tDGet, tFd, tFs, tMeth, tMake, tMkO, tCb, tDisp1T, tCallG, NdefX.tNdefM, NdefX.startF, nc_w, rKNo, nc_K, nc_prog, ncC_K, ncC_w, ncC_prog, tLstRg, tRg1, tMakeS, Dw.tMethS, tCallS, WE, tProp, rMin, rMax, rRepA, rRep, rSlL, rAll, tCKw, tBits, rSum, rMaxDf, iEnum, iRev, Int.toNat_natCast, tDGet2, tDGet1, tDIn, tDNotIn, rAll, tBM0, rPop, rExtend, tDNewK, tDisp, tPairs, L2.start, cxOf_K, cxOf_w, cxOf_prog,
  List.map_cons, List.map_nil, List.length_cons, List.length_nil, List.replicate, List.cons_append, List.nil_append, Nat.reduceAdd, Nat.reduceSub, Nat.zero_add, List.append_nil,
  List.set_cons_zero, List.set_cons_succ, List.getElem?_cons_zero, List.getElem?_cons_succ, Option.some.injEq, V.int.injEq, V.bl.injEq, V.ref.injEq, V.str.injEq, V.ty.injEq, List.cons.injEq, and_true, true_and, reduceCtorEq, false_and, exists_false, or_false, false_or, exists_eq_left, exists_eq_left', exists_eq', sw_S, an_S, exists_and_left, exists_const, exists_eq, decide_eq_true_eq, Bool.false_eq_true, if_true, if_false, Bool.not_eq_true', decide_eq_false_iff_not, Bool.not_true, Bool.not_false, ite_not, scal, and_false])
local macro_rules | `(tactic| walk_at "ne") => `(tactic| first
  | assumption
  | exact Ne.symm (by assumption)
  | exact Pool.ne (by assumption) (by assumption)
  | exact Ne.symm (Pool.ne (by assumption) (by assumption))
  | (refine ne_of_none ?_ (by assumption); walk_at "hp")
  | (refine Ne.symm (ne_of_none ?_ (by assumption)); walk_at "hp"))
local macro_rules | `(tactic| walk_at "hp") => `(tactic| first
  | assumption
  | exact upd_same
  | (refine Eq.trans (upd_ne (by walk_at "ne")) ?_; walk_at "hp")
  | (refine Same.get (by assumption) ?_; walk_at "hp")
  | (refine But.get (by assumption) (by walk_at "ne") ?_; walk_at "hp"))
section
variable {P : Program} {w : World} {K : PySem.W.Frag} {mg : Str → Option Value} {base : Heap}
def sp_numbered (K : PySem.W.Frag) : Sp := fun vs H Q _ => ∃ (a : Addr) (bs : List Addr) (ks : List (List Int)), vs = [.ref a] ∧ SqL K H a (bs.map V.ref) ∧ bs.length = ks.length ∧ bs.length ≤ 900 ∧ (∀ (i : Nat) (b : Addr) (k : List Int), bs[i]? = some b → ks[i]? = some k → ∃ vs, H b = some (.tup vs) ∧ IntL vs k) ∧ ∀ p H', Same H H' → H p = none → H' p = some (.lst ((numF ks).2.map nv)) → Q (.ref p) H'
theorem c_numbered {f : Addr} {fd : FuncData} (D : C8.Def K mg "numbered" s_numbered f fd) (b : Binds K fd ["signs"] []) (z_len : mg "len" = none) : C8.Cal P w K mg base 1 "numbered" (sp_numbered K) [] := by
  refine C8.cal0 D b .nil sc_numbered (fun vs H Q E h => ?_) (fun cdv A outer s H vs Q E hr h => ?_)
  · obtain ⟨_, _, _, rfl, _⟩ := h
    rfl
  · obtain ⟨a, bs, ks, rfl, ha, hlen, h9, hks, ok⟩ := h
    refine ⟨_, (pss_cons (ps_set (i := 1) sc_numbered.nd rfl (by first | exact Or.inl rfl | exact Or.inr rfl) pe_dnewS) (pss_one (ps_ret (pe_lc (own := [("sign", 2)]) (g := (gName 2)) (tt := tYes) rfl sc_numbered.nd (piL K (pv 0)) (blkOk_by (N := N_numbered) (sc := C8.fnScope s_numbered) (by decide +kernel)) (fun _ _ _ _ _ => (pg_name (i := 2) sc_numbered.nd rfl (by first | exact Or.inl rfl | exact Or.inr rfl))) (fun _ _ _ _ _ => pts_nil) (fun _ _ _ _ _ => (pe_setdS P w (hu64 hr) (pv 1) (pv 2) (pe_callB (lenNSK P w) (by rfl) z_len PySem.boot_len (pa_cons (pv 1) pa_nil)))))))), ?_⟩
    walk_at "rd"
    refine fun p hp => ?_
    have sp : Same H (upd H p (NumS P w p [])) := same_upd hp
    refine ⟨⟨_, sp.seq ha⟩, fun D hD => ?_⟩
    have hD0 : H D = none := sp.free hD
    have nDp : D ≠ p := fun e => by rw [e, upd_same] at hD; cases hD
    refine lc_listN (xs := bs.map V.ref) (fun j H6 => ∃ ksA : List (List Int × Addr), ksA.map (·.1) = (numF (ks.take j)).1 ∧ Same H H6 ∧ H6 p = some (NumS P w p ksA) ∧ KeysT H ksA ∧ H6 D = some (.lst ((numF (ks.take j)).2.map nv)) ∧ (numF (ks.take j)).1.Nodup) ⟨[], rfl, Dw.Same.new sp hD0, by rw [upd_ne (Ne.symm nDp), upd_same], (fun _ h => nomatch h), upd_same, List.nodup_nil⟩ ?_ ?_ ?_
    · rintro j H6 _ ⟨_, _, s6, _⟩
      exact s6.seq ha
    · rintro j x H6 N hx ⟨ksA, e1, s6, e6p, hkA, e6D, hnd⟩ hN
      rw [List.getElem?_map] at hx
      obtain ⟨bj, hbj, rfl⟩ := Option.map_eq_some_iff.mp hx
      have hj := (List.getElem?_eq_some_iff.mp hbj).1
      obtain ⟨k, hk⟩ : ∃ k, ks[j]? = some k := ⟨_, List.getElem?_eq_getElem (by omega)⟩
      obtain ⟨vs, hb, hi⟩ := hks j bj k hbj hk
      have htk : numF (ks.take (j + 1)) = stepL k (numF (ks.take j)) := by
        unfold numF
        rw [List.take_add_one, hk]
        show (ks.take j ++ [k]).foldl _ _ = _
        rw [List.foldl_append]
        rfl
      have hl2 : (numF (ks.take j)).2.length = j := by rw [numF_len, List.length_take, Nat.min_eq_left (by omega)]
      have hl1 : ksA.length ≤ j := by
        have := numF_le (ks.take j)
        rw [← e1, List.length_map, List.length_take] at this
        omega
      walk_at "rd"
      have hkl : ksA.length = (numF (ks.take j)).1.length := by rw [← e1, List.length_map]
      refine ⟨ksA, e6p, ksA, e6p, ksA, rfl, e6p, fun kk hkk => ?_, k, vs, s6 _ _ hb, hi, by omega, fun i hi2 => ?_, fun hno => ?_⟩
      · obtain ⟨v2, h1, h2⟩ := hkA kk hkk
        exact ⟨v2, s6 _ _ h1, h2⟩
      · rw [e1] at hi2
        have est : stepL k (numF (ks.take j)) = ((numF (ks.take j)).1, (numF (ks.take j)).2 ++ [i]) := by
          unfold stepL
          rw [if_pos (List.mem_of_getElem? hi2), ix_at hnd hi2]
        refine ⟨_, e6D, by rw [List.length_map, hl2]; exact smallt (by omega), hN _ ⟨ksA, by rw [htk, est]; exact e1, Dw.Same.new s6 hD0, by rw [upd_ne (Ne.symm nDp)]; exact e6p, hkA, ?_, by rw [htk, est]; exact hnd⟩⟩
        rw [upd_same, htk, est, List.map_append]
        rfl
      · rw [e1] at hno
        have est : stepL k (numF (ks.take j)) = ((numF (ks.take j)).1 ++ [k], (numF (ks.take j)).2 ++ [ksA.length]) := by
          unfold stepL
          rw [if_neg hno, hkl]
        have e7D : (upd H6 p (NumS P w p (ksA ++ [(k, bj)]))) D = some (.lst ((numF (ks.take j)).2.map nv)) := by rw [upd_ne nDp]; exact e6D
        refine ⟨_, e7D, by rw [List.length_map, hl2]; exact smallt (by omega), hN _ ⟨ksA ++ [(k, bj)], ?_, Dw.Same.new (Dw.Same.new s6 hp) hD0, by rw [upd_ne (Ne.symm nDp), upd_same], fun kk hkk => ?_, ?_, ?_⟩⟩
        · rw [htk, est, List.map_append, e1]
          rfl
        · rcases List.mem_append.mp hkk with h | h
          · exact hkA kk h
          · rw [List.mem_singleton.mp h]; exact ⟨vs, hb, hi⟩
        · rw [upd_same, htk, est, List.map_append]
          rfl
        · rw [htk, est]
          exact snoc_nodup hnd hno
    · rintro H6 ⟨ksA, e1, s6, e6p, hkA, e6D, hnd⟩
      rw [List.length_map, hlen, List.take_length] at e6D
      exact ok D H6 s6 hD0 e6D
def sp_rounds (K : PySem.W.Frag) : Sp := fun vs H Q _ => ∃ (tA mA : Addr) (rs : List Addr) (m : Nat) (T : List (List Int)) (acc : List Bool), vs = [.ref tA, .ref mA] ∧ H tA = some (.lst (rs.map V.ref)) ∧ RowsAt H rs T ∧ H mA = some (.lst (acc.map V.bl)) ∧ acc.length = T.length ∧ T.length ≤ 800 ∧ m ≤ 64 ∧ goodT T m = true ∧ ∀ p (qs : List Addr) k H', Same H H' → H p = none → H' p = some (.lst (qs.map V.ref)) → qs.length = k + 1 → (∀ (i : Nat) q, qs[i]? = some q → H' q = some (.lst ((cls T acc i).map nv))) → cls T acc (k + 1) = cls T acc k → (∀ i, i < k → cls T acc (i + 1) ≠ cls T acc i) → Q (.ref p) H'
theorem c_rounds {f : Addr} {fd : FuncData} (D : C8.Def K mg "rounds" s_rounds f fd) (b : Binds K fd ["table", "marks"] []) (c_numbered : C8.Cal P w K mg base 1 "numbered" (sp_numbered K) []) (z_enumerate : mg "enumerate" = none) : C8.Cal P w K mg base 2 "rounds" (sp_rounds K) [] := by
  refine C8.cal0 D b .nil sc_rounds (fun vs H Q E h => ?_) (fun cdv A outer s H vs Q E hr h => ?_)
  · obtain ⟨_, _, _, _, _, _, rfl, _⟩ := h
    rfl
  · obtain ⟨tA, mA, rs, m, T, acc, rfl, htA, hrs, hmA, hal, h800, hm, hg, ok⟩ := h
    refine ⟨_, (pss_cons (ps_set (i := 2) sc_rounds.nd rfl (by first | exact Or.inl rfl | exact Or.inr rfl) (pe_lst (pa_cons (C8.pe_c c_numbered hr (by decide) (by rfl) (pa_cons (pe_lc (own := [("mark", 5)]) (g := (gName 5)) (tt := tYes) rfl sc_rounds.nd (piL K (pv 1)) (blkOk_by (N := N_rounds) (sc := C8.fnScope s_rounds) (by decide +kernel)) (fun _ _ _ _ _ => (pg_name (i := 5) sc_rounds.nd rfl (by first | exact Or.inl rfl | exact Or.inr rfl))) (fun _ _ _ _ _ => pts_nil) (fun _ _ _ _ _ => (pe_tup (pa_cons (pv 5) pa_nil)))) pa_nil)) pa_nil))) (pss_one (ps_while PassesOwn.never (pt_val pe_bl) (pss_cons (ps_set (i := 3) sc_rounds.nd rfl (by first | exact Or.inl rfl | exact Or.inr rfl) (pe_ix (ixL K) (pv 2) (pe_un un_neg pe_int) (fun _ _ => rfl))) (pss_cons (ps_set (i := 4) sc_rounds.nd rfl (by first | exact Or.inl rfl | exact Or.inr rfl) (C8.pe_c c_numbered hr (by decide) (by rfl) (pa_cons (pe_lc (own := [("state", 6), ("row", 7)]) (g := (gTup K 2 (gCons (gName 6) (gCons (gName 7) gNil)))) (tt := tYes) rfl sc_rounds.nd (piE K (by rfl) z_enumerate (pa_cons (pv 0) pa_nil)) (blkOk_by (N := N_rounds) (sc := C8.fnScope s_rounds) (by decide +kernel)) (fun _ _ _ _ _ => (pg_tup (n := 2) rfl (pgs_cons (pg_name (i := 6) sc_rounds.nd rfl (by first | exact Or.inl rfl | exact Or.inr rfl)) (pgs_cons (pg_name (i := 7) sc_rounds.nd rfl (by first | exact Or.inl rfl | exact Or.inr rfl)) pgs_nil)))) (fun _ _ _ _ _ => pts_nil) (fun _ _ _ _ _ => (pe_tup (pa_cons (pe_ix (ixL K) (pv 3) (pv 6) (fun _ _ => rfl)) (pa_starK K (pe_lc (own := [("behind", 8)]) (g := (gName 8)) (tt := tYes) rfl sc_rounds.nd (piL K (pv 7)) (blkOk_nm (N := N_rounds) [(".0", .local), ("state", .local), ("row", .local), ("last", .cell)] (by rfl) (by decide +kernel)) (fun _ _ _ _ _ => (pg_name (i := 8) sc_rounds.nd rfl (by first | exact Or.inl rfl | exact Or.inr rfl))) (fun _ _ _ _ _ => pts_nil) (fun _ _ _ _ _ => (pe_ix (ixL K) (pv 3) (pv 8) (fun _ _ => rfl)))) pa_nil))))) pa_nil))) (pss_cons (ps_if (pt_cmpR (eqDK K (hu64 hr)) (pv 4) (pv 3) (nomark _)) (pss_one (ps_ret (pv 2))) pss_nil) (pss_one (ps_expr (pe_bm PySem.F.plainAttrs_list PySem.F.slot_list_append PySem.F.type_list_append mt_append (pv 2) (pa_cons (pv 4) pa_nil)))))))))), ?_⟩
    walk_at "rd"
    refine ⟨⟨_, SqL.of hmA⟩, fun D hD => ?_⟩
    refine lc_new (walk_list (xs := acc.map V.bl)) (fun s => .tup [.bl (acc.getD s false)]) (by rw [List.length_map]; omega) hD (fun H6 s6 => s6.seq (SqL.of hmA)) ?_ fun H2 bs s2 hbl hbs eD => ?_
    · rintro s x H6 H7 N hs s6 ⟨rfl, ex0⟩ hN
      rw [List.getElem?_map] at ex0
      obtain ⟨v, hv, rfl⟩ := Option.map_eq_some_iff.mp ex0
      have ev : acc.getD s false = v := by rw [List.getD_eq_getElem?_getD, hv]; rfl
      walk_at "rd"
      refine ⟨by decide, fun b hb => hN _ b (same_upd hb) hb ?_⟩
      rw [upd_same, ev]
    rw [List.length_map] at hbl
    refine ⟨D, bs, sig0 acc, rfl, SqL.of eD, by rw [hbl]; unfold sig0; rw [List.length_map], by omega, fun i b k hb hk => ?_, fun p1 H3 s3 hp1 e1 => ?_⟩
    · obtain ⟨h1, _⟩ := hbs i b hb
      unfold sig0 at hk
      rw [List.getElem?_map] at hk
      obtain ⟨v, hv, rfl⟩ := Option.map_eq_some_iff.mp hk
      refine ⟨_, h1, ?_⟩
      rw [List.getD_eq_getElem?_getD, hv]
      rfl
    refine ⟨by decide, fun pF hpF => ?_⟩
    have s03 : Same H H3 := s2.trans s3
    have hpF0 : H pF = none := s03.free hpF
    have n1F : p1 ≠ pF := ne_of_none e1 hpF
    refine while_W (fun mm σ H' => ∃ (qs : List Addr) (i : Nat) (u3 u4 u5 u6 u7 u8 : Option V), T.length + 1 - nC (sg T acc i) = mm ∧ [some (V.ref tA), some (.ref mA), some (.ref pF), u3, u4, u5, u6, u7, u8] = σ ∧ Same H H' ∧ H' pF = some (.lst (qs.map V.ref)) ∧ qs.length = i + 1 ∧ (∀ (j : Nat) q, qs[j]? = some q → H' q = some (.lst ((cls T acc j).map nv)) ∧ q ≠ pF) ∧ ∀ j, j < i → cls T acc (j + 1) ≠ cls T acc j) ⟨_, [p1], 0, none, none, none, none, none, none, rfl, rfl, s03.trans (same_upd hpF), upd_same, rfl, fun j q hq => ?_, fun j hj => absurd hj (Nat.not_lt_zero _)⟩ ?_
    · cases j with
      | zero =>
        cases hq
        exact ⟨by rw [upd_ne n1F]; exact e1, n1F⟩
      | succ j => cases hq
    · rintro mm σ H4 ⟨qs, i, u3, u4, u5, u6, u7, u8, rfl, rfl, s4, eF, hql, hqs, hne⟩
      walk_at "rd"
      refine nxw_of fun N hN => ?_
      obtain ⟨qL, hqL⟩ : ∃ q, qs[i]? = some q := ⟨_, List.getElem?_eq_getElem (by omega)⟩
      have eL := (hqs i qL hqL).1
      have hat : atI (qs.map V.ref) (-1) = some (.ref qL) := by
        have hne0 : qs ≠ [] := fun e => by rw [e] at hql; cases hql
        obtain ⟨r, x, rfl⟩ := snoc_of hne0
        rw [List.map_append]
        rw [List.length_append] at hql
        have : (r ++ [x])[i]? = some x := by rw [List.getElem?_append_right (by have : [x].length = 1 := rfl; omega)]; have : i - r.length = 0 := by (have : [x].length = 1 := rfl); omega
                                             rw [this]; rfl
        rw [hqL] at this
        cases this
        exact atI_last _ _
      walk_at "rd"
      obtain ⟨c, hc⟩ : ∃ c : Nat → Nat, c = fun x => (cls T acc i).getD x 0 := ⟨_, rfl⟩
      refine ⟨_, SqL.of eF, _, hat, _, SqL.of (s4 _ _ htA), fun D2 hD2 => ?_⟩
      refine lc_new (walk_enum (xs := rs.map V.ref)) (fun s => .tup (nv (c s) :: (T.getD s []).map fun q => nv (c q.toNat))) (by rw [List.length_map, hrs.len]; omega) hD2 (fun H6 s6 => SqL.of ((s4.trans s6) _ _ htA)) ?_ fun H5 bs5 s5 hbl5 hbs5 eD5 => ?_
      · rintro s x H6 H7 N6 hs s6 ⟨T', v, z, rfl, hT', rfl, e1', e2'⟩ hN6
        cases e1'
        change (rs.map V.ref)[s]? = some z at e2'
        rw [List.getElem?_map] at e2'
        obtain ⟨ra, hra, rfl⟩ := Option.map_eq_some_iff.mp e2'
        have hsT : s < T.length := by rw [← hrs.len]; exact (List.getElem?_eq_some_iff.mp hra).1
        have s7 : Same H6 (upd H6 T' (.tup [.int (s : Nat), .ref ra])) := same_upd hT'
        have s47 := (s4.trans s6).trans s7
        have er : T[s]? = some (T.getD s []) := by rw [List.getD_eq_getElem?_getD, List.getElem?_eq_getElem hsT]; rfl
        have era := s47 _ _ (hrs.at_ s ra _ hra er)
        have eL7 := (s6.trans s7) _ _ eL
        have clsl : ∀ x, x < T.length → ((cls T acc i).map nv)[x]? = some (nv (c x)) := fun x hx => by
          rw [List.getElem?_map, List.getElem?_eq_getElem (by rw [cls_len hal]; exact hx), hc]
          simp only [Option.map_some]
          rw [List.getD_eq_getElem?_getD, List.getElem?_eq_getElem (by rw [cls_len hal]; exact hx)]
          rfl
        obtain ⟨r', er', hrl, hrb⟩ := goodT_row hg hsT
        rw [er] at er'
        cases er'
        walk_at "rd"
        refine ⟨_, SqT.of upd_same, rfl, _, _, rfl, _, _, rfl, rfl, _, _, rfl, SqL.of eL7, _, atI_nat (clsl s hsT), ?_⟩
        refine ⟨ra, rfl, ⟨_, SqL.of era⟩, fun D3 hD3 => lc_map (walk_list (xs := (T.getD s []).map V.int)) (fun j => nv (c ((T.getD s []).getD j 0).toNat)) (by rw [List.length_map]; omega) hD3 (fun H8 s8 => s8.seq (SqL.of era)) ?_ fun H8 s8 e8 => ?_⟩
        · rintro j x H8 H9 N9 hj s8 ⟨rfl, ex9⟩ hN9
          rw [List.getElem?_map] at ex9
          obtain ⟨y, hy, rfl⟩ := Option.map_eq_some_iff.mp ex9
          obtain ⟨y0, y1⟩ := hrb y (List.mem_of_getElem? hy)
          have h := hN9 _ (Same.refl _)
          rw [List.getD_eq_getElem?_getD (l := T.getD s []), hy, Option.getD_some] at h
          walk_at "rd"
          have hcy := atI_nat (clsl y.toNat (by omega))
          rw [show ((y.toNat : Nat) : Int) = y by omega] at hcy
          exact ⟨_, SqL.of (s8 _ _ eL7), _, hcy, h⟩
        · have e3 : (List.range ((T.getD s []).map V.int).length).map (fun j => nv (c ((T.getD s []).getD j 0).toNat)) = (T.getD s []).map fun q => nv (c q.toNat) := by
            refine List.ext_getElem (by simp) fun j p1 p2 => ?_
            have hi : j < (T.getD s []).length := by simpa using p1
            simp only [List.getElem_map, List.getElem_range]
            rw [List.getD_eq_getElem?_getD (l := T.getD s []), List.getElem?_eq_getElem hi]
            rfl
          rw [e3] at e8
          refine ⟨_, .inr (SqL.of e8), by rw [List.length_map, hrl, sizeLine_eq]; omega, fun pb hpb => hN6 _ pb ((s7.trans s8).trans (same_upd hpb)) ((s7.trans s8).free hpb) upd_same⟩
      · rw [List.length_map, hrs.len] at hbl5
        refine ⟨D2, bs5, sigN T (cls T acc i), rfl, SqL.of eD5, by rw [hbl5]; unfold sigN; rw [List.length_map, List.length_range], by omega, fun s b k hb hk => ?_, fun p2 H6 s6 hp2 e6 => ?_⟩
        · obtain ⟨h1, _⟩ := hbs5 s b hb
          have hs : s < T.length := by rw [← hbl5]; exact (List.getElem?_eq_some_iff.mp hb).1
          unfold sigN at hk
          rw [List.getElem?_map, List.getElem?_range hs] at hk
          cases hk
          refine ⟨_, h1, ?_⟩
          rw [hc]
          unfold IntL
          simp only [List.map_cons, List.map_map]
          rfl
        · have s46 := s4.trans (s5.trans s6)
          have eL6 := (s5.trans s6) _ _ eL
          have e6' : H6 p2 = some (.lst ((cls T acc (i + 1)).map nv)) := e6
          refine eqD_nats e6' eL6 ⟨_, rfl, ?_⟩
          by_cases heq : cls T acc (i + 1) = cls T acc i
          · rw [decide_eq_true heq, if_pos rfl]
            exact ok pF qs i H6 s46 hpF0 ((s5.trans s6) _ _ eF) hql (fun j q hq => (s5.trans s6) _ _ (hqs j q hq).1) heq hne
          · rw [decide_eq_false heq, if_neg (by decide)]
            have eF6 := (s5.trans s6) _ _ eF
            have n2F : p2 ≠ pF := (ne_of_none (s5 _ _ eF) hp2).symm
            have hmore := cls_more hal heq
            have hbd := cls_bound (T := T) (acc := acc) hal (i + 1)
            have hcnt := cls_count hal i hne
            have hmap : (qs.map V.ref).length ≤ 10000 := by rw [List.length_map]; omega
            refine ⟨tyL eF6, _, eF6, smallt hmap, hN (T.length + 1 - nC (sg T acc (i + 1))) _ _ (by omega) ⟨qs ++ [p2], i + 1, rfl, _, _, _, _, _, _, rfl, Dw.Same.new s46 hpF0, by rw [upd_same, List.map_append]; rfl, by rw [List.length_append, hql]; rfl, fun j q hq => ?_, fun j hj => ?_⟩⟩
            · by_cases hj : j < qs.length
              · rw [List.getElem?_append_left hj] at hq
                obtain ⟨h1, h2⟩ := hqs j q hq
                exact ⟨by rw [upd_ne h2]; exact (s5.trans s6) _ _ h1, h2⟩
              · rw [List.getElem?_append_right (by omega)] at hq
                cases hk : j - qs.length with
                | zero =>
                  rw [hk] at hq
                  cases hq
                  exact ⟨by rw [upd_ne n2F, show j = i + 1 by omega]; exact e6', n2F⟩
                | succ z => rw [hk] at hq; cases hq
            · by_cases e : j = i
              · rw [e]; exact heq
              · exact hne j (by omega)
def sp_letters : Sp := fun vs H Q _ => ∃ n : Nat, vs = [nv n] ∧ n ≤ 1000 ∧ Q (nv (2 ^ n)) H
theorem c_letters {f : Addr} {fd : FuncData} (D : C8.Def K mg "letters" s_letters f fd) (b : Binds K fd ["width"] [])  : C8.Cal P w K mg base 1 "letters" sp_letters [] := by
  refine C8.cal0 D b .nil sc_letters (fun vs H Q E h => ?_) (fun cdv A outer s H vs Q E hr h => ?_)
  · obtain ⟨_, rfl, _⟩ := h
    rfl
  · obtain ⟨n, rfl, hn, ok⟩ := h
    refine ⟨_, (pss_one (ps_ret (pe_op op_shlW pe_int (pv 0)))), ?_⟩
    walk_at "rd"
    refine ⟨shlN (n := 1) (b := 1) (by decide) (by omega), ?_⟩
    rw [i_one]
    exact ok
def sp_digit : Sp := fun vs H Q _ => ∃ n k : Nat, vs = [nv n, nv k] ∧ Q (nv (n / 2 ^ k % 2)) H
theorem c_digit {f : Addr} {fd : FuncData} (D : C8.Def K mg "digit" s_digit f fd) (b : Binds K fd ["letter", "track"] [])  : C8.Cal P w K mg base 1 "digit" sp_digit [] := by
  refine C8.cal0 D b .nil sc_digit (fun vs H Q E h => ?_) (fun cdv A outer s H vs Q E hr h => ?_)
  · obtain ⟨_, _, rfl, _⟩ := h
    rfl
  · obtain ⟨n, k, rfl, ok⟩ := h
    refine ⟨_, (pss_one (ps_ret (pe_op op_and (pe_op op_shr (pv 0) (pv 1)) pe_int))), ?_⟩
    walk_at "rd"
    refine ⟨Int.natCast_nonneg _, ?_⟩
    rw [i_dig]
    exact ok
def sp_letter_of (K : PySem.W.Frag) : Sp := fun vs H Q _ => ∃ (a : Addr) (ds : List Nat), vs = [.ref a] ∧ SqL K H a (ds.map nv) ∧ Bits ds ∧ ds.length ≤ 2000 ∧ ∀ H', Same H H' → Q (nv (lo ds)) H'
theorem c_letter_of {f : Addr} {fd : FuncData} (D : C8.Def K mg "letter_of" s_letter_of f fd) (b : Binds K fd ["digits"] []) (z_sum : mg "sum" = none) (z_enumerate : mg "enumerate" = none) : C8.Cal P w K mg base 1 "letter_of" (sp_letter_of K) [] := by
  refine C8.cal0 D b .nil sc_letter_of (fun vs H Q E h => ?_) (fun cdv A outer s H vs Q E hr h => ?_)
  · obtain ⟨_, _, rfl, _⟩ := h
    rfl
  · obtain ⟨a, ds, rfl, hl, hb, hn, ok⟩ := h
    refine ⟨_, (pss_one (ps_ret (pe_callB (sumK K) (by rfl) z_sum (by decide +kernel) (pa_cons (pe_lc (own := [("track", 1), ("value", 2)]) (g := (gTup K 2 (gCons (gName 1) (gCons (gName 2) gNil)))) (tt := tYes) rfl sc_letter_of.nd (piE K (by rfl) z_enumerate (pa_cons (pv 0) pa_nil)) (blkOk_by (N := N_letter_of) (sc := C8.fnScope s_letter_of) (by decide +kernel)) (fun _ _ _ _ _ => (pg_tup (n := 2) rfl (pgs_cons (pg_name (i := 1) sc_letter_of.nd rfl (by first | exact Or.inl rfl | exact Or.inr rfl)) (pgs_cons (pg_name (i := 2) sc_letter_of.nd rfl (by first | exact Or.inl rfl | exact Or.inr rfl)) pgs_nil)))) (fun _ _ _ _ _ => pts_nil) (fun _ _ _ _ _ => (pe_op op_shlW (pv 2) (pv 1)))) pa_nil)))), ?_⟩
    walk_at "rd"
    refine ⟨_, hl, fun D hD => ?_⟩
    refine lc_map (walk_enum (xs := ds.map nv)) (fun i => .int (((ds.getD i 0 : Nat) : Int) * 2 ^ (i + 0))) (by rw [List.length_map]; omega) hD (fun H s => s.seq hl) ?_ ?_
    · rintro i x H1 H2 N hi s1 ⟨T, y, z, rfl, hT, rfl, ey, ez⟩ hN
      cases ey
      rw [List.length_map] at hi
      replace ez : (ds.map nv)[i]? = some z := ez
      rw [List.getElem?_map, List.getElem?_eq_getElem hi] at ez
      cases ez
      walk_at "rd"
      refine ⟨_, SqT.of upd_same, rfl, _, _, rfl, _, _, rfl, rfl, _, rfl, _, rfl, shlN (b := 1) (hb _ (List.getElem_mem hi)) (by omega), ?_⟩
      have h := hN _ (same_upd (o := .tup [V.int (i : Nat), V.int ((ds[i] : Nat) : Int)]) hT)
      rw [List.getD_eq_getElem?_getD, List.getElem?_eq_getElem hi] at h
      exact h
    · intro H1 s1 h1
      refine ⟨(List.range ds.length).map fun i => ((ds.getD i 0 : Nat) : Int) * 2 ^ (i + 0), ?_, ?_⟩
      · rw [List.length_map] at h1
        rw [List.map_map]
        exact SqL.of h1
      · rw [lo_sum]
        have e : (lo ds : Int) * 2 ^ 0 = (lo ds : Int) := by rw [Int.pow_zero, Int.mul_one]
        rw [e]
        exact ok _ s1
def sp_word_of (K : PySem.W.Frag) : Sp := fun vs H Q _ => ∃ (a : Addr) (ns : List Nat), vs = [.ref a] ∧ SqL K H a (ns.map nv) ∧ ns.length ≤ 64 ∧ (∀ n ∈ ns, n < 2 ^ 1000) ∧ ∀ p H', Same H H' → H p = none → H' p = some (.lst ((wd ns).map nv)) → Q (.ref p) H'
theorem c_word_of {f : Addr} {fd : FuncData} (D : C8.Def K mg "word_of" s_word_of f fd) (b : Binds K fd ["numbers"] []) (c_digit : C8.Cal P w K mg base 1 "digit" sp_digit []) (c_letter_of : C8.Cal P w K mg base 1 "letter_of" (sp_letter_of K) []) (z_max : mg "max" = none) (z_range : mg "range" = none) : C8.Cal P w K mg base 2 "word_of" (sp_word_of K) [] := by
  refine C8.cal0 D b .nil sc_word_of (fun vs H Q E h => ?_) (fun cdv A outer s H vs Q E hr h => ?_)
  · obtain ⟨_, _, rfl, _⟩ := h
    rfl
  · obtain ⟨a, ns, rfl, hl, hn, hb, ok⟩ := h
    refine ⟨_, (pss_cons (ps_set (i := 1) sc_word_of.nd rfl (by first | exact Or.inl rfl | exact Or.inr rfl) (pe_callBK (cr_maxDf K) (by rfl) z_max (by decide +kernel) (pa_cons (pe_lc (own := [("number", 3)]) (g := (gName 3)) (tt := tYes) rfl sc_word_of.nd (piL K (pv 0)) (blkOk_by (N := N_word_of) (sc := C8.fnScope s_word_of) (by decide +kernel)) (fun _ _ _ _ _ => (pg_name (i := 3) sc_word_of.nd rfl (by first | exact Or.inl rfl | exact Or.inr rfl))) (fun _ _ _ _ _ => pts_nil) (fun _ _ _ _ _ => (pe_bits (pv 3)))) pa_nil) (pk_cons pe_int pk_nil))) (pss_one (ps_ret (pe_lc (own := [("place", 2)]) (g := (gName 2)) (tt := tYes) rfl sc_word_of.nd (pi_range1 (by rfl) z_range (pa_cons (pv 1) pa_nil)) (blkOk_by (N := N_word_of) (sc := C8.fnScope s_word_of) (by decide +kernel)) (fun _ _ _ _ _ => (pg_name (i := 2) sc_word_of.nd rfl (by first | exact Or.inl rfl | exact Or.inr rfl))) (fun _ _ _ _ _ => pts_nil) (fun _ _ _ _ _ => (C8.pe_c c_letter_of hr (by decide) (by rfl) (pa_cons (pe_lc (own := [("number", 3)]) (g := (gName 3)) (tt := tYes) rfl sc_word_of.nd (piL K (pv 0)) (blkOk_nm (N := N_word_of) [(".0", .local), ("place", .cell), ("letter_of", .globalImplicit), ("numbers", .cell)] (by rfl) (by decide +kernel)) (fun _ _ _ _ _ => (pg_name (i := 3) sc_word_of.nd rfl (by first | exact Or.inl rfl | exact Or.inr rfl))) (fun _ _ _ _ _ => pts_nil) (fun _ _ _ _ _ => (C8.pe_c c_digit hr (by decide) (by rfl) (pa_cons (pv 3) (pa_cons (pv 2) pa_nil))))) pa_nil))))))), ?_⟩
    walk_at "rd"
    have hk : ∀ H', Same H H' → SqL K H' a (ns.map nv) := fun H' s => Same.seq s hl
    have hbl : bls ns ≤ 1000 := bls_le hb
    refine ⟨⟨_, hl⟩, fun D hD => ?_⟩
    refine lc_map (walk_list (xs := ns.map nv)) (fun i => nv (blen (ns.getD i 0))) (by rw [List.length_map]; omega) hD hk ?_ ?_
    · rintro i x H1 H2 N hi s1 ⟨rfl, ez⟩ hN
      rw [List.length_map] at hi
      rw [List.getElem?_map, List.getElem?_eq_getElem hi] at ez
      cases ez
      walk_at "rd"
      have h := hN _ (Same.refl _)
      rw [List.getD_eq_getElem?_getD, List.getElem?_eq_getElem hi] at h
      exact h
    · intro H1 s1 h1
      have e1 : (List.range ns.length).map (fun i => nv (blen (ns.getD i 0))) = (ns.map fun n => ((blen n : Nat) : Int)).map V.int := by
        refine List.ext_getElem (by simp) fun i p q => ?_
        have hi : i < ns.length := by simpa using p
        simp only [List.getElem_map, List.getElem_range]
        rw [List.getD_eq_getElem?_getD, List.getElem?_eq_getElem hi]
        rfl
      rw [List.length_map, e1] at h1
      refine ⟨ns.map fun n => ((blen n : Nat) : Int), SqL.of h1, fun m hm1 hm2 => ?_⟩
      have em := bls_max hm1 hm2
      subst em
      refine ⟨by omega, by omega, fun D2 hD2 => ?_⟩
      refine lc_map walk_range (fun k => nv (lo (bitAt ns k))) (by omega) hD2 (fun _ _ => trivial) ?_ ?_
      · rintro k x H3 H4 N hk4 s3 ⟨rfl, rfl⟩ hN
        walk_at "rd"
        refine ⟨⟨_, hk _ (s1.trans s3)⟩, fun D3 hD3 => ?_⟩
        refine lc_map (walk_list (xs := ns.map nv)) (fun i => nv ((ns.getD i 0) / 2 ^ k % 2)) (by rw [List.length_map]; omega) hD3 (fun H5 s5 => hk _ ((s1.trans s3).trans s5)) ?_ ?_
        · rintro i x H5 H6 N2 hi s5 ⟨rfl, ez⟩ hN2
          rw [List.length_map] at hi
          rw [List.getElem?_map, List.getElem?_eq_getElem hi] at ez
          cases ez
          walk_at "rd"
          refine ⟨ns[i], k, by simp, ?_⟩
          have h := hN2 _ (Same.refl _)
          rw [List.getD_eq_getElem?_getD, List.getElem?_eq_getElem hi] at h
          exact h
        · intro H5 s5 h5
          have e2 : (List.range ns.length).map (fun i => nv ((ns.getD i 0) / 2 ^ k % 2)) = (bitAt ns k).map nv := by
            refine List.ext_getElem (by simp [bitAt]) fun i p q => ?_
            have hi : i < ns.length := by simpa using p
            simp only [List.getElem_map, List.getElem_range, bitAt]
            rw [List.getD_eq_getElem?_getD, List.getElem?_eq_getElem hi]
            rfl
          rw [List.length_map, e2] at h5
          exact ⟨D3, bitAt ns k, rfl, SqL.of h5, bitAt_bits ns k, by rw [bitAt_len]; omega, fun H6 s6 => hN _ (s5.trans s6)⟩
      · intro H3 s3 h3
        rw [Int.toNat_natCast] at h3
        refine ok _ _ (s1.trans s3) (s1.free hD2) ?_
        unfold wd
        rw [List.map_map]
        exact h3
def sp_is_state : Sp := fun vs H Q _ => ∃ (i : Int) (n : Nat), vs = [.int i, nv n] ∧ Q (.bl (decide (0 ≤ i) && decide (i < (n : Int)))) H
theorem c_is_state {f : Addr} {fd : FuncData} (D : C8.Def K mg "is_state" s_is_state f fd) (b : Binds K fd ["value", "size"] []) (z_isinstance : mg "isinstance" = none) (z_int : mg "int" = none) (z_bool : mg "bool" = none) : C8.Cal P w K mg base 1 "is_state" sp_is_state [] := by
  refine C8.cal0 D b .nil sc_is_state (fun vs H Q E h => ?_) (fun cdv A outer s H vs Q E hr h => ?_)
  · obtain ⟨_, _, rfl, _⟩ := h
    rfl
  · obtain ⟨i, n, rfl, ok⟩ := h
    refine ⟨_, (pss_one (ps_ret (pe_and (pe_callB (isiK K) (by rfl) z_isinstance (by decide +kernel) (pa_cons (pv 0) (pa_cons (pe_bltn (by rfl) z_int (by decide +kernel) (v := .ty "int") rfl) pa_nil))) (pe_and (pe_not (pe_callB (isiK K) (by rfl) z_isinstance (by decide +kernel) (pa_cons (pv 0) (pa_cons (pe_bltn (by rfl) z_bool (by decide +kernel) (v := .ty "bool") rfl) pa_nil)))) (pe_one (pe_chain op_le op_lt pe_int (pv 0) (pv 1))))))), ?_⟩
    walk_at "rd"
    refine isi_of (.base (.int i)) (kit_ty (by decide +kernel) : _ = some true) ?_
    walk_at "rd"
    refine isi_of (.base (.int i)) (kit_ty (by decide +kernel) : _ = some false) ?_
    walk_at "rd"
    by_cases h : 0 ≤ i
    · rw [if_pos h]
      rw [decide_eq_true h, Bool.true_and] at ok
      exact ok
    · rw [if_neg h]
      rw [decide_eq_false h, Bool.false_and] at ok
      exact ok
def sp_is_table : Sp := fun vs H Q _ => ∃ (t : Addr) (rs : List Addr) (T : List (List Int)) (l : Nat), vs = [.ref t, nv l] ∧ H t = some (.lst (rs.map V.ref)) ∧ RowsAt H rs T ∧ T.length ≤ 500 ∧ (∀ r ∈ T, r.length ≤ 500) ∧ ∀ H', Same H H' → Q (.bl (goodT T l)) H'
theorem c_is_table {f : Addr} {fd : FuncData} (D : C8.Def K mg "is_table" s_is_table f fd) (b : Binds K fd ["table", "length"] []) (c_is_state : C8.Cal P w K mg base 1 "is_state" sp_is_state []) (z_len : mg "len" = none) (z_all : mg "all" = none) : C8.Cal P w K mg base 2 "is_table" sp_is_table [] := by
  refine C8.cal0 D b .nil sc_is_table (fun vs H Q E h => ?_) (fun cdv A outer s H vs Q E hr h => ?_)
  · obtain ⟨_, _, _, _, rfl, _⟩ := h
    rfl
  · obtain ⟨t, rs, T, l, rfl, ht, hr1, hn, hrn, ok⟩ := h
    refine ⟨_, (pss_cons (ps_for PassesOwn.never rfl (piL K (pv 0)) (pg_name (i := 2) sc_is_table.nd rfl (by first | exact Or.inl rfl | exact Or.inr rfl)) (pss_one (ps_if (PW.pt (pw_or (pt_cmpR (op_ne) (pe_callB (lenS K) (by rfl) z_len PySem.boot_len (pa_cons (pv 2) pa_nil)) (pv 1) (nomark _)) (pw_or1 (pt_not (pt_val (pe_callB (allQ K) (by rfl) z_all (by decide +kernel) (pa_cons (pe_lc (own := [("successor", 3)]) (g := (gName 3)) (tt := tYes) rfl sc_is_table.nd (piL K (pv 2)) (blkOk_by (N := N_is_table) (sc := C8.fnScope s_is_table) (by decide +kernel)) (fun _ _ _ _ _ => (pg_name (i := 3) sc_is_table.nd rfl (by first | exact Or.inl rfl | exact Or.inr rfl))) (fun _ _ _ _ _ => pts_nil) (fun _ _ _ _ _ => (C8.pe_c c_is_state hr (by decide) (by rfl) (pa_cons (pv 3) (pa_cons (pe_callB (lenS K) (by rfl) z_len PySem.boot_len (pa_cons (pv 0) pa_nil)) pa_nil))))) pa_nil))))))) (pss_one (ps_ret pe_bl)) pss_nil))) (pss_one (ps_ret pe_bl))), ?_⟩
    walk_at "rd"
    refine ⟨⟨_, SqL.of ht⟩, for_listN (xs := rs.map V.ref) (fun i σ H2 => (∃ o, σ = [some (.ref t), some (nv l), o, none]) ∧ Same H H2 ∧ (T.take i).all (goodRow T.length l) = true) ?_ ?_ ?_ ?_⟩
    · exact ⟨⟨none, rfl⟩, Same.refl _, rfl⟩
    · rintro i σ H2 _ ⟨_, s2, _⟩
      exact SqL.of (s2 _ _ ht)
    · rintro i x σ H2 N hx ⟨⟨o, rfl⟩, s2, hg⟩ hN
      rw [List.getElem?_map] at hx
      obtain ⟨a, ha, rfl⟩ := Option.map_eq_some_iff.mp hx
      have hi : i < T.length := by rw [← hr1.len]; exact (List.getElem?_eq_some_iff.mp ha).1
      have hT : T[i]? = some T[i] := List.getElem?_eq_getElem hi
      obtain ⟨r, hr0⟩ : ∃ r, r = T[i] := ⟨_, rfl⟩
      rw [← hr0] at hT
      have hrow := s2 _ _ (hr1.at_ i a r ha hT)
      have hrl := hrn r (List.mem_of_getElem? hT)
      have htk : (T.take (i + 1)).all (goodRow T.length l) = goodRow T.length l r := by
        rw [List.take_add_one, hT, List.all_append, hg]
        simp
      have bad : goodRow T.length l r = false → goodT T l = false := fun e => by
        unfold goodT
        rw [List.all_eq_false]
        exact ⟨r, List.mem_of_getElem? hT, by rw [e]; decide⟩
      walk_at "rd"
      refine ⟨_, .inl (SqL.of hrow), ?_⟩
      rw [List.length_map]
      by_cases hl : r.length = l
      · rw [if_pos (by omega)]
        refine ⟨⟨_, SqL.of hrow⟩, fun D hD => ?_⟩
        refine lc_map (walk_list (xs := r.map V.int)) (fun j => .bl (decide (0 ≤ r.getD j 0) && decide (r.getD j 0 < (T.length : Int)))) (by rw [List.length_map]; omega) hD (fun H5 s5 => s5.seq (SqL.of hrow)) ?_ ?_
        · rintro j x H5 H6 N2 hj s5 ⟨rfl, ez⟩ hN2
          rw [List.length_map] at hj
          rw [List.getElem?_map, List.getElem?_eq_getElem hj] at ez
          cases ez
          walk_at "rd"
          refine ⟨_, .inl (SqL.of ((s2.trans s5) _ _ ht)), r[j], T.length, ?_, ?_⟩
          · rw [List.length_map, hr1.len]
          · have h := hN2 _ (Same.refl _)
            rw [List.getD_eq_getElem?_getD, List.getElem?_eq_getElem hj] at h
            exact h
        · intro H5 s5 h5
          have e2 : (List.range r.length).map (fun j => V.bl (decide (0 ≤ r.getD j 0) && decide (r.getD j 0 < (T.length : Int)))) = (r.map fun x => decide (0 ≤ x) && decide (x < (T.length : Int))).map V.bl := by
            refine List.ext_getElem (by simp) fun j p q => ?_
            have hj : j < r.length := by simpa using p
            simp only [List.getElem_map, List.getElem_range]
            rw [List.getD_eq_getElem?_getD, List.getElem?_eq_getElem hj]
            rfl
          rw [List.length_map, e2] at h5
          refine ⟨_, SqL.of h5, ?_⟩
          have e3 : (r.map fun x => decide (0 ≤ x) && decide (x < (T.length : Int))).all id = goodRow T.length l r := by
            unfold goodRow
            rw [List.all_map, decide_eq_true hl, Bool.true_and]
            rfl
          rw [e3]
          cases hb : goodRow T.length l r with
          | true =>
            exact hN _ _ ⟨⟨_, rfl⟩, s2.trans s5, by rw [htk, hb]⟩
          | false =>
            have h := ok _ (s2.trans s5)
            rw [bad hb] at h
            exact h
      · rw [if_neg (by omega)]
        have h := ok _ s2
        rw [bad (by unfold goodRow; rw [decide_eq_false hl, Bool.false_and])] at h
        exact h
    · rintro σ H2 ⟨⟨o, rfl⟩, s2, hg⟩
      walk_at "rd"
      rw [List.length_map, hr1.len, List.take_length] at hg
      have h := ok _ s2
      unfold goodT at h
      rw [hg] at h
      exact h
def sp_check_width : Sp := fun vs H Q _ => ∃ w : Nat, vs = [nv w] ∧ w ≤ 6 ∧ Q .non H
theorem c_check_width {f : Addr} {fd : FuncData} (D : C8.Def K mg "check_width" s_check_width f fd) (b : Binds K fd ["width"] []) (g_TRACKS : ∃ u, mg "TRACKS" = some u ∧ RelV (.int 6) u) : C8.Cal P w K mg base 1 "check_width" sp_check_width [] := by
  refine C8.cal0 D b .nil sc_check_width (fun vs H Q E h => ?_) (fun cdv A outer s H vs Q E hr h => ?_)
  · obtain ⟨_, rfl, _⟩ := h
    rfl
  · obtain ⟨w, rfl, hw, ok⟩ := h
    refine ⟨_, (pss_one (ps_if (pt_not (pt_chain op_le op_le pe_int (pv 0) (C8.pe_gc (by rfl) g_TRACKS))) (pss_one ps_never) pss_nil)), ?_⟩
    walk_at "rd"
    rw [if_pos (by omega), if_pos (by omega)]
    exact ok
def sp_minit (C : Addr) : Sp := fun vs H Q _ => ∃ (m dx t a : Addr) (rs : List Addr) (w : Nat) (T : List (List Int)) (acc : List Bool), vs = [.ref m, nv w, .ref t, .ref a] ∧ H m = some (.ins C dx []) ∧ H t = some (.lst (rs.map V.ref)) ∧ RowsAt H rs T ∧ H a = some (.lst (acc.map V.bl)) ∧ MOk w T acc ∧
  ∀ H', But m H H' → MachNew C H H' m w T acc → Q .non H'
theorem k_Machine {f : Addr} {fd : FuncData} {CM : Addr} (M : Mk K CM f) (hm : mg "Machine" = some (.ref CM)) (c_M : Cls K CM) (F : C8.Fun K "__init__" "Machine.__init__" s_Machine___init__ f fd) (b : Binds K fd ["self", "width", "table", "accepting"] []) (n_width : NoAttr K CM "width") (n_table : NoAttr K CM "table") (n_accepting : NoAttr K CM "accepting") (c_check_width : C8.Cal P w K mg base 1 "check_width" sp_check_width []) (c_is_table : C8.Cal P w K mg base 2 "is_table" sp_is_table []) (c_letters : C8.Cal P w K mg base 1 "letters" sp_letters []) (z_len : mg "len" = none) (z_enumerate : mg "enumerate" = none) (z_list : mg "list" = none) (g_STATES : ∃ u, mg "STATES" = some u ∧ RelV (.int 400) u) : C8.Mak P w K mg base 3 "Machine" CM (sp_minit CM) [] := by
  refine C8.mak0 M hm F b .nil sc_Machine___init__ (fun vs H Q E h => ?_) (fun cdv A outer s H vs Q E hr h => ?_)
  · obtain ⟨_, _, _, _, _, _, _, _, rfl, _⟩ := h
    rfl
  · obtain ⟨m, dx, t, a, rs, w, T, acc, rfl, hm, ht, hr1, ha, ok0, ok⟩ := h
    refine ⟨_, (pss_cons (ps_expr (C8.pe_c c_check_width hr (by decide) (by rfl) (pa_cons (pv 1) pa_nil))) (pss_cons (ps_if (pt_cmpR (op_gt) (pe_callB (lenS K) (by rfl) z_len PySem.boot_len (pa_cons (pv 2) pa_nil)) (C8.pe_gc (by rfl) g_STATES) (nomark _)) (pss_one ps_never) pss_nil) (pss_cons (ps_if (PW.pt (pw_or (pt_cmpR (op_eq) (pe_callB (lenS K) (by rfl) z_len PySem.boot_len (pa_cons (pv 2) pa_nil)) pe_int (nomark _)) (pw_or (pt_cmpR (op_ne) (pe_callB (lenS K) (by rfl) z_len PySem.boot_len (pa_cons (pv 3) pa_nil)) (pe_callB (lenS K) (by rfl) z_len PySem.boot_len (pa_cons (pv 2) pa_nil)) (nomark _)) (pw_or1 (pt_not (pt_val (C8.pe_c c_is_table hr (by decide) (by rfl) (pa_cons (pv 2) (pa_cons (C8.pe_c c_letters hr (by decide) (by rfl) (pa_cons (pv 1) pa_nil)) pa_nil))))))))) (pss_one ps_never) pss_nil) (C8.pss_cut (ps_for PassesOwn.never rfl (piE K (by rfl) z_enumerate (pa_cons (pv 2) pa_nil)) (pg_tup (n := 2) rfl (pgs_cons (pg_name (i := 4) sc_Machine___init__.nd rfl (by first | exact Or.inl rfl | exact Or.inr rfl)) (pgs_cons (pg_name (i := 5) sc_Machine___init__.nd rfl (by first | exact Or.inl rfl | exact Or.inr rfl)) pgs_nil))) (pss_one (ps_if (pt_cmpR (op_ne) (pe_ix (ixL K) (pv 3) (pv 4) (fun _ _ => rfl)) (pe_ix (ixL K) (pv 3) (pe_ix (ixL K) (pv 5) pe_int (fun _ _ => rfl)) (fun _ _ => rfl)) (nomark _)) (pss_one ps_never) pss_nil))) (pss_cons (ps_fldK K (pv 0) (pv 1) (by rfl)) (pss_cons (ps_fldK K (pv 0) (pe_lc (own := [("row", 5)]) (g := (gName 5)) (tt := tYes) rfl sc_Machine___init__.nd (piL K (pv 2)) (blkOk_by (N := N_Machine___init__) (sc := C8.fnScope s_Machine___init__) (by decide +kernel)) (fun _ _ _ _ _ => (pg_name (i := 5) sc_Machine___init__.nd rfl (by first | exact Or.inl rfl | exact Or.inr rfl))) (fun _ _ _ _ _ => pts_nil) (fun _ _ _ _ _ => (pe_callTy (listOf K) (by rfl) z_list (by decide +kernel) (pa_cons (pv 5) pa_nil)))) (by rfl)) (pss_one (ps_fldK K (pv 0) (pe_callTy (listOf K) (by rfl) z_list (by decide +kernel) (pa_cons (pv 3) pa_nil)) (by rfl))))))))), ?_⟩
    walk_at "rd"
    have hT0 : ((rs.map V.ref).length : Int) = (T.length : Int) := by rw [List.length_map, hr1.len]
    have hacc : ((acc.map V.bl).length : Int) = (T.length : Int) := by rw [List.length_map, ok0.al]
    have hpos := ok0.pos
    have hle := ok0.le
    have hrw : ∀ r ∈ T, r.length = 2 ^ w := fun r hr2 => by
      have h1 := List.all_eq_true.mp ok0.good r hr2
      unfold goodRow at h1
      rw [Bool.and_eq_true, decide_eq_true_eq] at h1
      exact h1.1
    have h64 : 2 ^ w ≤ 64 := Nat.pow_le_pow_right (by decide) ok0.w6
    refine ⟨w, rfl, ok0.w6, _, .inl (SqL.of ht), ?_⟩
    rw [hT0, if_neg (by omega)]
    refine ⟨_, .inl (SqL.of ht), ?_⟩
    rw [hT0, if_neg (by omega)]
    refine ⟨_, .inl (SqL.of ha), _, .inl (SqL.of ht), ?_⟩
    rw [hT0, hacc, if_pos rfl]
    refine ⟨w, rfl, by have := ok0.w6; omega, t, rs, T, 2 ^ w, rfl, ht, hr1, by omega, fun r hr2 => by rw [hrw r hr2]; omega, fun H1 s1 => ?_⟩
    rw [ok0.good]
    refine ⟨true, rfl, ?_⟩
    rw [if_neg (by decide)]
    refine cut_by (fun σ' H' => (∃ o1 o2, σ' = [some (V.ref m), some (nv w), some (.ref t), some (.ref a), o1, o2]) ∧ Same H1 H') (fun N hN => ?_) ?_
    · walk_at "rd"
      refine ⟨_, SqL.of (s1 _ _ ht), for_enumN (xs := rs.map V.ref) (fun i σ H2 => (∃ o1 o2, σ = [some (V.ref m), some (nv w), some (.ref t), some (.ref a), o1, o2]) ∧ Same H1 H2) ?_ ?_ ?_ ?_⟩
      · exact ⟨⟨_, _, rfl⟩, Same.refl _⟩
      · rintro i σ H2 _ ⟨_, s2⟩
        exact SqL.of (s2 _ _ (s1 _ _ ht))
      · rintro i x Tp σ H2 N2 hx ⟨⟨o1, o2, rfl⟩, s2⟩ hTp hN2
        rw [List.getElem?_map] at hx
        obtain ⟨ra, hra, rfl⟩ := Option.map_eq_some_iff.mp hx
        have hi : i < T.length := by rw [← hr1.len]; exact (List.getElem?_eq_some_iff.mp hra).1
        obtain ⟨r, er, e0, lt0⟩ := goodT_at ok0.good hi (a := 0) (Nat.two_pow_pos w)
        have s3 : Same H2 (upd H2 Tp (.tup [V.int (i : Nat), V.ref ra])) := same_upd hTp
        have sA := (s1.trans s2).trans s3
        have hrow := sA _ _ (hr1.at_ i ra r hra er)
        have haA := sA _ _ ha
        have hset := ok0.set i hi
        have hia : i < acc.length := by rw [ok0.al]; exact hi
        obtain ⟨bb, hbb⟩ : ∃ bb, acc[i]? = some bb := ⟨acc[i], List.getElem?_eq_getElem hia⟩
        walk_at "rd"
        refine ⟨_, SqT.of upd_same, rfl, _, _, rfl, _, _, rfl, rfl, _, _, rfl, SqL.of haA, .bl bb, at_map hbb, ?_⟩
        refine ⟨ra, rfl, _, SqL.of hrow, _, at_map e0, _, _, rfl, SqL.of haA, .bl bb, at_map (hset ▸ hbb), rfl, ?_⟩
        rw [if_pos rfl]
        exact hN2 _ _ ⟨⟨_, _, rfl⟩, s2.trans s3⟩
      · rintro σ H2 ⟨⟨o1, o2, rfl⟩, s2⟩
        exact hN _ _ ⟨⟨_, _, rfl⟩, s2⟩
    · rintro σ' H2 ⟨⟨o1, o2, rfl⟩, s2⟩
      walk_at "rd"
      have sA := s1.trans s2
      have hm2 := sA _ _ hm
      refine flds_of c_M n_width hm2 (by decide) ?_
      obtain ⟨H3, hH3⟩ : ∃ H3, H3 = upd H2 m (.ins CM dx (putF "width" (nv w) [])) := ⟨_, rfl⟩
      have e3 : upd H2 m (.ins CM dx (putF (Str.ofString "width") (nv w) [])) = H3 := hH3.symm
      rw [e3]
      have hm3 : H3 m = some (.ins CM dx (putF "width" (nv w) [])) := by rw [hH3, upd_same]
      have b3 : But m H2 H3 := hH3 ▸ But.upd
      have ntm : t ≠ m := ne_of ht hm (by intro z; cases z)
      have nam : a ≠ m := ne_of ha hm (by intro z; cases z)
      have ht3 := b3 _ _ ntm (sA _ _ ht)
      have nrm : ∀ r ∈ rs, r ≠ m := fun r hr2 => by
        obtain ⟨i, hi, e⟩ := List.mem_iff_getElem.mp hr2
        have hi2 : i < T.length := by rw [← hr1.len]; exact hi
        have h1 := hr1.at_ i r T[i] (by rw [List.getElem?_eq_getElem hi, e]) (List.getElem?_eq_getElem hi2)
        exact ne_of h1 hm (by intro z; cases z)
      have hr3 : RowsAt H3 rs T := (hr1.same sA).but b3 nrm
      walk_at "rd"
      refine ⟨⟨_, SqL.of ht3⟩, fun D hD => ?_⟩
      refine lc_listN (xs := rs.map V.ref) (fun i H4 => ∃ qs : List Addr, H4 D = some (.lst (qs.map V.ref)) ∧ RowsAt H4 qs (T.take i) ∧ Same H3 H4 ∧ ∀ q ∈ qs, H3 q = none ∧ q ≠ D) ?_ ?_ ?_ ?_
      · exact ⟨[], upd_same, ⟨rfl, fun i a r h _ => nomatch h⟩, same_upd hD, fun _ h => nomatch h⟩
      · rintro i H4 _ ⟨qs, _, _, s4, _⟩
        exact SqL.of (s4 _ _ ht3)
      · rintro i x H4 N2 hx ⟨qs, h4, q4, s4, n4⟩ hN2
        rw [List.getElem?_map] at hx
        obtain ⟨ra, hra, rfl⟩ := Option.map_eq_some_iff.mp hx
        have hi : i < T.length := by rw [← hr1.len]; exact (List.getElem?_eq_some_iff.mp hra).1
        have hTi : T[i]? = some T[i] := List.getElem?_eq_getElem hi
        have hrow := s4 _ _ (hr3.at_ i ra T[i] hra hTi)
        have hql : qs.length ≤ 400 := by
          have := q4.len
          rw [List.length_take] at this
          omega
        walk_at "rd"
        refine ⟨_, .inl (SqL.of hrow), fun L hL => ⟨_, (same_upd hL) _ _ h4, smallt (by rw [List.length_map]; omega), hN2 _ ⟨qs ++ [L], ?_, ?_, ?_, ?_⟩⟩⟩
        · rw [upd_same, List.map_append]
          rfl
        · have hLD : L ≠ D := (ne_of_none h4 hL).symm
          rw [List.take_add_one, hTi]
          refine RowsAt.but (RowsAt.snoc (q4.same (same_upd hL)) upd_same) But.upd fun q hq => ?_
          rcases List.mem_append.mp hq with hq | hq
          · exact (n4 q hq).2
          · rw [List.mem_singleton.mp hq]
            exact hLD
        · exact Dw.Same.new (s4.trans (same_upd hL)) hD
        · intro q hq
          rcases List.mem_append.mp hq with hq | hq
          · exact n4 q hq
          · rw [List.mem_singleton.mp hq]
            exact ⟨s4.free hL, (ne_of_none h4 hL).symm⟩
      · rintro H4 ⟨qs, h4, q4, s4, n4⟩
        rw [List.length_map, hr1.len, List.take_length] at q4
        have hm4 := s4 _ _ hm3
        refine flds_of c_M n_table hm4 (by rw [show (putF "width" (nv w) []).length = 1 from rfl]; decide) ?_
        obtain ⟨H5, hH5⟩ : ∃ H5, H5 = upd H4 m (.ins CM dx (putF "table" (.ref D) (putF "width" (nv w) []))) := ⟨_, rfl⟩
        have e5 : upd H4 m (.ins CM dx (putF (Str.ofString "table") (.ref D) (putF "width" (nv w) []))) = H5 := hH5.symm
        rw [e5]
        have hm5 : H5 m = some (.ins CM dx (putF "table" (.ref D) (putF "width" (nv w) []))) := by rw [hH5, upd_same]
        have b5 : But m H4 H5 := hH5 ▸ But.upd
        have nDm : D ≠ m := (ne_of_none hm3 hD).symm
        have nqm : ∀ q ∈ qs, q ≠ m := fun q hq => (ne_of_none hm3 (n4 q hq).1).symm
        have ha5 := b5 _ _ nam (s4 _ _ (b3 _ _ nam (sA _ _ ha)))
        walk_at "rd"
        refine ⟨_, .inl (SqL.of ha5), fun L hL => ?_⟩
        have hm6 := (same_upd (o := .lst (acc.map V.bl)) hL) _ _ hm5
        refine flds_of c_M n_accepting hm6 (by
          have : (putF "table" (.ref D) (putF "width" (nv w) [])).length = 2 := by
            show (if (("width" : Str) = "table") then _ else _ : List (Str × V)).length = 2
            rw [if_neg kwt]
            rfl
          rw [this]
          decide) ?_
        have nLm : L ≠ m := (ne_of_none hm5 hL).symm
        have b34 : But m H2 H4 := b3.trans (But.of s4)
        have bAll : But m H (upd (upd H5 L (.lst (acc.map V.bl))) m (.ins CM dx (mflds w D L))) := ((((But.of sA).trans b34).trans b5).trans (But.of (same_upd hL))).trans But.upd
        have free : ∀ q, q ≠ m → H3 q = none → H q = none := fun q nq hq => by
          cases e : H q with
          | none => rfl
          | some o =>
            have := b3 _ _ nq (sA _ _ e)
            rw [hq] at this
            cases this
        have frL : H L = none := by
          cases e : H L with
          | none => rfl
          | some o =>
            have := b5 _ _ nLm (b34 _ _ nLm (sA _ _ e))
            rw [hL] at this
            cases this
        have bE : But m H4 (upd (upd H5 L (.lst (acc.map V.bl))) m (.ins CM dx (mflds w D L))) := (b5.trans (But.of (same_upd hL))).trans But.upd
        refine ok _ bAll ⟨dx, D, L, qs, upd_same, bE _ _ nDm h4, q4.but bE nqm, ?_, free D nDm hD, frL, fun q hq => free q (nqm q hq) (n4 q hq).1⟩
        rw [upd_ne nLm, upd_same]
def sp_behind (K : PySem.W.Frag) (C : Addr) : Sp := fun vs H Q _ => ∃ (m a : Addr) (w : Nat) (T : List (List Int)) (acc : List Bool) (ls : List Nat), vs = [.ref m, .ref a] ∧ MachAt C H m w T acc ∧ MOk w T acc ∧ SqL K H a (ls.map nv) ∧ (∀ l ∈ ls, l < 2 ^ w) ∧ Q (nv (runT T 0 ls)) H
theorem m_Machine_behind {f : Addr} {fd : FuncData} {CM : Addr} (c_M : Cls K CM) (me : Meth K CM "behind" f) (F : C8.Fun K "behind" "Machine.behind" s_Machine_behind f fd) (b : Binds K fd ["self", "word"] []) (n_width : NoAttr K CM "width") (n_table : NoAttr K CM "table") (n_accepting : NoAttr K CM "accepting") : C8.Met P w K mg base 1 CM "behind" (sp_behind K CM) [] := by
  refine C8.met0 c_M me F b sc_Machine_behind (fun vs H Q E h => ?_) (fun cdv A outer s H vs Q E hr h => ?_)
  · obtain ⟨_, _, _, _, _, _, rfl, _⟩ := h
    rfl
  · obtain ⟨m, a, w, T, acc, ls, rfl, hm, hk, ha, hl, ok⟩ := h
    refine ⟨_, (pss_cons (ps_set (i := 2) sc_Machine_behind.nd rfl (by first | exact Or.inl rfl | exact Or.inr rfl) pe_int) (pss_cons (ps_for PassesOwn.never rfl (piL K (pv 1)) (pg_name (i := 3) sc_Machine_behind.nd rfl (by first | exact Or.inl rfl | exact Or.inr rfl)) (pss_one (ps_set (i := 2) sc_Machine_behind.nd rfl (by first | exact Or.inl rfl | exact Or.inr rfl) (pe_ix (ixL K) (pe_ix (ixL K) (pe_fd K (pv 0) (by rfl)) (pv 2) (fun _ _ => rfl)) (pv 3) (fun _ _ => rfl))))) (pss_one (ps_ret (pv 2))))), ?_⟩
    walk_at "rd"
    obtain ⟨dx, t, b, rs, h1, h2, h3, h4⟩ := hm.ex
    refine ⟨⟨_, ha⟩, for_listN (xs := ls.map nv) (fun i σ H2 => (∃ o, σ = [some (.ref m), some (.ref a), some (nv (runT T 0 (ls.take i))), o]) ∧ H2 = H) ?_ ?_ ?_ ?_⟩
    · exact ⟨⟨_, rfl⟩, rfl⟩
    · rintro i σ H2 _ ⟨_, rfl⟩
      exact ha
    · rintro i x σ H2 N hx ⟨⟨o, rfl⟩, rfl⟩ hN
      rw [List.getElem?_map] at hx
      obtain ⟨l, hli, rfl⟩ := Option.map_eq_some_iff.mp hx
      have hlt := hl l (List.mem_of_getElem? hli)
      have hs := runT_lt hk.good (ls.take i) 0 (fun x hx => hl x (List.mem_of_mem_take hx)) hk.pos
      obtain ⟨r, er, e0, lt0⟩ := goodT_at hk.good hs hlt
      obtain ⟨ra, hra, hrow⟩ := h3.get er
      walk_at "rd"
      refine fld_of c_M n_table h1 (mf_t _ _ _) ?_
      refine ⟨t, rfl, _, SqL.of h2, _, at_map hra, ra, rfl, _, SqL.of hrow, _, at_map e0, hN _ _ ⟨⟨some (nv l), ?_⟩, rfl⟩⟩
      rw [List.take_add_one, hli]
      show _ = [_, _, some (nv (runT T 0 (ls.take i ++ [l]))), _]
      rw [runT_snoc]
    · rintro σ H2 ⟨⟨o, rfl⟩, rfl⟩
      rw [List.length_map, List.take_length]
      walk_at "rd"
      exact ok
def sp_accepts (K : PySem.W.Frag) (C : Addr) : Sp := fun vs H Q _ => ∃ (m a : Addr) (w : Nat) (T : List (List Int)) (acc : List Bool) (ls : List Nat), vs = [.ref m, .ref a] ∧ MachAt C H m w T acc ∧ MOk w T acc ∧ SqL K H a (ls.map nv) ∧ (∀ l ∈ ls, l < 2 ^ w) ∧ Q (.bl (acc.getD (runT T 0 ls) false)) H
theorem m_Machine_accepts {f : Addr} {fd : FuncData} {CM : Addr} (c_M : Cls K CM) (me : Meth K CM "accepts" f) (F : C8.Fun K "accepts" "Machine.accepts" s_Machine_accepts f fd) (b : Binds K fd ["self", "word"] []) (n_width : NoAttr K CM "width") (n_table : NoAttr K CM "table") (n_accepting : NoAttr K CM "accepting") (m_Machine_behind : C8.Met P w K mg base 1 CM "behind" (sp_behind K CM) []) : C8.Met P w K mg base 2 CM "accepts" (sp_accepts K CM) [] := by
  refine C8.met0 c_M me F b sc_Machine_accepts (fun vs H Q E h => ?_) (fun cdv A outer s H vs Q E hr h => ?_)
  · obtain ⟨_, _, _, _, _, _, rfl, _⟩ := h
    rfl
  · obtain ⟨m, a, w, T, acc, ls, rfl, hm, hk, ha, hl, ok⟩ := h
    refine ⟨_, (pss_one (ps_ret (pe_ix (ixL K) (pe_fd K (pv 0) (by rfl)) (C8.pe_mt m_Machine_behind hr (by decide) (pv 0) (pa_cons (pv 1) pa_nil)) (fun _ _ => rfl)))), ?_⟩
    walk_at "rd"
    obtain ⟨dx, t, b, rs, h1, h2, h3, h4⟩ := hm.ex
    refine fld_of c_M n_accepting h1 (mf_a _ _ _) ?_
    have hs := runT_lt hk.good ls 0 hl hk.pos
    have hsa : runT T 0 ls < acc.length := by rw [hk.al]; exact hs
    have e := List.getElem?_eq_getElem hsa
    rw [List.getD_eq_getElem?_getD, e] at ok
    exact ⟨_, _, h1, mf_no _ _ _ (by decide +kernel) (by decide +kernel) (by decide +kernel), m, a, w, T, acc, ls, rfl, hm, hk, ha, hl, b, rfl, _, _, rfl, SqL.of h4, _, at_map e, ok⟩
def sp_takes (K : PySem.W.Frag) (C : Addr) : Sp := fun vs H Q _ => ∃ (m a : Addr) (w : Nat) (T : List (List Int)) (acc : List Bool) (ns : List Nat), vs = [.ref m, .ref a] ∧ MachAt C H m w T acc ∧ MOk w T acc ∧ SqL K H a (ns.map nv) ∧ ns.length = w ∧ (∀ n ∈ ns, n < 2 ^ 1000) ∧ ∀ H', Same H H' → Q (.bl (acc.getD (runT T 0 (wd ns)) false)) H'
theorem m_Machine_takes {f : Addr} {fd : FuncData} {CM : Addr} (c_M : Cls K CM) (me : Meth K CM "takes" f) (F : C8.Fun K "takes" "Machine.takes" s_Machine_takes f fd) (b : Binds K fd ["self", "numbers"] []) (n_width : NoAttr K CM "width") (n_table : NoAttr K CM "table") (n_accepting : NoAttr K CM "accepting") (m_Machine_accepts : C8.Met P w K mg base 2 CM "accepts" (sp_accepts K CM) []) (c_word_of : C8.Cal P w K mg base 2 "word_of" (sp_word_of K) []) (z_len : mg "len" = none) : C8.Met P w K mg base 3 CM "takes" (sp_takes K CM) [] := by
  refine C8.met0 c_M me F b sc_Machine_takes (fun vs H Q E h => ?_) (fun cdv A outer s H vs Q E hr h => ?_)
  · obtain ⟨_, _, _, _, _, _, rfl, _⟩ := h
    rfl
  · obtain ⟨m, a, w, T, acc, ns, rfl, hm, hk, ha, hw, hn, ok⟩ := h
    refine ⟨_, (pss_cons (ps_if (pt_cmpR (op_ne) (pe_callB (lenS K) (by rfl) z_len PySem.boot_len (pa_cons (pv 1) pa_nil)) (pe_fd K (pv 0) (by rfl)) (nomark _)) (pss_one ps_never) pss_nil) (pss_one (ps_ret (C8.pe_mt m_Machine_accepts hr (by decide) (pv 0) (pa_cons (C8.pe_c c_word_of hr (by decide) (by rfl) (pa_cons (pv 1) pa_nil)) pa_nil))))), ?_⟩
    walk_at "rd"
    obtain ⟨dx, t, b, rs, h1, h2, h3, h4⟩ := hm.ex
    have hlen : ((ns.map nv).length : Int) = (w : Int) := by rw [List.length_map, hw]
    have h6 := hk.w6
    refine ⟨_, .inl ha, fld_of c_M n_width h1 (mf_w _ _ _) ⟨rfl, ?_⟩⟩
    rw [hlen, if_pos rfl]
    refine ⟨_, _, h1, mf_no _ _ _ (by decide +kernel) (by decide +kernel) (by decide +kernel), a, ns, rfl, ha, by omega, hn, fun p H1 s1 hp0 hp => ?_⟩
    exact ⟨m, p, w, T, acc, wd ns, rfl, hm.same s1, hk, SqL.of hp, fun l hl => by have := wd_lt hl; rwa [hw] at this, ok _ s1⟩
def sp_shape (C : Addr) : Sp := fun vs H Q _ => ∃ (m : Addr) (w : Nat) (T : List (List Int)) (acc : List Bool), vs = [.ref m] ∧ MachAt C H m w T acc ∧ MOk w T acc ∧ ∀ s H', Same H H' → ShapeAt H' s w T acc → Q (.ref s) H'
theorem m_Machine_shape {f : Addr} {fd : FuncData} {CM : Addr} (c_M : Cls K CM) (me : Meth K CM "shape" f) (F : C8.Fun K "shape" "Machine.shape" s_Machine_shape f fd) (b : Binds K fd ["self"] []) (n_width : NoAttr K CM "width") (n_table : NoAttr K CM "table") (n_accepting : NoAttr K CM "accepting") (z_tuple : mg "tuple" = none) : C8.Met P w K mg base 1 CM "shape" (sp_shape CM) [] := by
  refine C8.met0 c_M me F b sc_Machine_shape (fun vs H Q E h => ?_) (fun cdv A outer s H vs Q E hr h => ?_)
  · obtain ⟨_, _, _, _, rfl, _⟩ := h
    rfl
  · obtain ⟨m, w, T, acc, rfl, hm, hk, ok⟩ := h
    refine ⟨_, (pss_one (ps_ret (pe_tup (pa_cons (pe_fd K (pv 0) (by rfl)) (pa_cons (pe_callTy (tupOf K) (by rfl) z_tuple (by decide +kernel) (pa_cons (pe_lc (own := [("row", 1)]) (g := (gName 1)) (tt := tYes) rfl sc_Machine_shape.nd (piL K (pe_fd K (pv 0) (by rfl))) (blkOk_by (N := N_Machine_shape) (sc := C8.fnScope s_Machine_shape) (by decide +kernel)) (fun _ _ _ _ _ => (pg_name (i := 1) sc_Machine_shape.nd rfl (by first | exact Or.inl rfl | exact Or.inr rfl))) (fun _ _ _ _ _ => pts_nil) (fun _ _ _ _ _ => (pe_callTy (tupOf K) (by rfl) z_tuple (by decide +kernel) (pa_cons (pv 1) pa_nil)))) pa_nil)) (pa_cons (pe_callTy (tupOf K) (by rfl) z_tuple (by decide +kernel) (pa_cons (pe_fd K (pv 0) (by rfl)) pa_nil)) pa_nil)))))), ?_⟩
    walk_at "rd"
    obtain ⟨dx, t, b, rs, h1, h2, h3, h4⟩ := hm.ex
    have hle := hk.le
    refine fld_of c_M n_width h1 (mf_w _ _ _) ?_
    refine fld_of c_M n_table h1 (mf_t _ _ _) ⟨t, rfl, ⟨_, SqL.of h2⟩, fun D hD => ?_⟩
    refine lc_listN (xs := rs.map V.ref) (fun i H4 => ∃ qs : List Addr, H4 D = some (.lst (qs.map V.ref)) ∧ TupsAt H4 qs (T.take i) ∧ Same H H4) ?_ ?_ ?_ ?_
    · exact ⟨[], upd_same, ⟨rfl, fun i a r h _ => nomatch h⟩, same_upd hD⟩
    · rintro i H4 _ ⟨qs, _, _, s4⟩
      exact SqL.of (s4 _ _ h2)
    · rintro i x H4 N2 hx ⟨qs, e4, q4, s4⟩ hN2
      rw [List.getElem?_map] at hx
      obtain ⟨ra, hra, rfl⟩ := Option.map_eq_some_iff.mp hx
      have hi : i < T.length := by rw [← h3.len]; exact (List.getElem?_eq_some_iff.mp hra).1
      have hTi : T[i]? = some T[i] := List.getElem?_eq_getElem hi
      have hrow := s4 _ _ (h3.at_ i ra T[i] hra hTi)
      have hql : qs.length ≤ 500 := by
        have := q4.len
        rw [List.length_take] at this
        omega
      walk_at "rd"
      refine ⟨_, .inl ⟨SqL.of hrow, fun L hL => ⟨_, (same_upd hL) _ _ e4, smallt (by rw [List.length_map]; omega), hN2 _ ⟨qs ++ [L], ?_, ?_, Dw.Same.new (s4.trans (same_upd hL)) hD⟩⟩⟩⟩
      · rw [upd_same, List.map_append]
        rfl
      · have hLD : L ≠ D := (ne_of_none e4 hL).symm
        rw [List.take_add_one, hTi]
        have q5 := TupsAt.snoc (q4.same (same_upd hL)) (r := T[i]) upd_same
        refine ⟨q5.len, fun j a' r' e1 e2 => ?_⟩
        have h5 := q5.at_ j a' r' e1 e2
        rw [upd_ne]
        · exact h5
        · intro z
          subst z
          rw [(same_upd hL) _ _ e4] at h5
          cases h5
    · rintro H4 ⟨qs, e4, q4, s4⟩
      rw [List.length_map, h3.len, List.take_length] at q4
      refine ⟨_, .inl ⟨SqL.of e4, fun tt htt => ?_⟩⟩
      have s5 := s4.trans (same_upd (o := .tup (qs.map V.ref)) htt)
      refine fld_of c_M n_accepting (s5 _ _ h1) (mf_a _ _ _) ⟨b, rfl, _, .inl ⟨SqL.of (s5 _ _ h4), fun ta hta => ⟨by decide, fun z hz => ?_⟩⟩⟩
      have s6 := same_upd (o := .tup (acc.map V.bl)) hta
      have s7 := same_upd (o := .tup [nv w, .ref tt, .ref ta]) hz
      refine ok z _ ((s5.trans s6).trans s7) ⟨tt, ta, qs, upd_same, s7 _ _ (s6 _ _ upd_same), ((q4.same (same_upd htt)).same s6).same s7, s7 _ _ upd_same⟩
def sp_with_track : Sp := fun vs H Q _ => ∃ (l t v : Nat), vs = [nv l, nv t, nv v] ∧ l < 2 ^ 1000 ∧ t ≤ 1000 ∧ v < 2 ∧ Q (nv (wt l t v)) H
theorem c_with_track {f : Addr} {fd : FuncData} (D : C8.Def K mg "with_track" s_with_track f fd) (b : Binds K fd ["letter", "track", "value"] [])  : C8.Cal P w K mg base 1 "with_track" sp_with_track [] := by
  refine C8.cal0 D b .nil sc_with_track (fun vs H Q E h => ?_) (fun cdv A outer s H vs Q E hr h => ?_)
  · obtain ⟨_, _, _, rfl, _⟩ := h
    rfl
  · obtain ⟨l, t, v, rfl, hl, ht, hv, ok⟩ := h
    refine ⟨_, (pss_cons (ps_set (i := 3) sc_with_track.nd rfl (by first | exact Or.inl rfl | exact Or.inr rfl) (pe_op op_and (pv 0) (pe_op op_sub (pe_op op_shlW pe_int (pv 1)) pe_int))) (pss_one (ps_ret (pe_op op_or (pe_op op_or (pv 3) (pe_op op_shlW (pv 2) (pv 1))) (pe_op op_shlW (pe_op op_shr (pv 0) (pv 1)) (pe_op op_add (pv 1) pe_int)))))), ?_⟩
    walk_at "rd"
    refine ⟨shlN (n := 1) (b := 1) (by decide) (by omega), shlN (b := 1) hv (by omega), Int.natCast_nonneg _, ?_⟩
    have e1 : ((t : Int) + 1) = ((t + 1 : Nat) : Int) := by omega
    have h2 : l / 2 ^ t < 2 ^ 1000 := Nat.lt_of_le_of_lt (Nat.div_le_self _ _) hl
    rw [i_shr, e1, Int.one_mul, i_low, Int.toNat_natCast, i_shl, i_shl, i_or, i_or, wt_or hv]
    exact ⟨shlN h2 (by omega), ok⟩
def sp_check_track (C CMis : Addr) : Sp := fun vs H Q E => ∃ (m : Addr) (L : List Addr) (w : Nat) (T : List (List Int)) (acc : List Bool) (t : Int), vs = [.ref m, .int t] ∧ MachP C H L m w T acc ∧ (0 ≤ t ∧ t < w → Q .non H) ∧ (¬ (0 ≤ t ∧ t < w) → Rz CMis "why" (.str "track") H E)
theorem c_check_track {f : Addr} {fd : FuncData} (D : C8.Def K mg "check_track" s_check_track f fd) (b : Binds K fd ["machine", "track"] []) {CM : Addr} (c_M : Cls K CM) (n_width : NoAttr K CM "width")  {CMis : Addr} (x_Misused : ExF P w K mg base "Misused" CMis "why") : CalX P w K mg base 3 "check_track" (sp_check_track CM CMis) := by
  refine calX0 D b sc_check_track (fun vs H Q E h => ?_) (fun cdv A outer s H vs Q E hr h => ?_)
  · obtain ⟨_, _, _, _, _, _, rfl, _⟩ := h
    rfl
  · obtain ⟨m, L, w, T, acc, t, rfl, hm, ok, bad⟩ := h
    refine ⟨_, (pss_one (ps_if (pt_not (pt_chain op_le op_lt pe_int (pv 1) (pe_fd K (pv 0) (by rfl)))) (pss_one (ps_raise rfl (takes_of rfl rfl rfl rfl) (pmk_ex x_Misused hr (by decide) (by rfl) (pa_cons pe_str pa_nil)))) pss_nil)), ?_⟩
    walk_at "rd"
    obtain ⟨dx, tb, ab, rs, h1, h2, h3, h4⟩ := hm.at_.ex
    refine ite2 (fun h0 => fld_of c_M n_width h1 (mf_w _ _ _) ⟨_, rfl, ite2 (fun h5 => ok ⟨h0, h5⟩) (fun h5 => ⟨by decide, fun a ha => raise_rz (bad fun z => h5 z.2) ha⟩)⟩) (fun h0 => ⟨by decide, fun a ha => raise_rz (bad fun z => h0 z.1) ha⟩)
def sp_ranks (C CMis : Addr) : Sp := fun vs H Q E => ∃ (m : Addr) (L : List Addr) (w : Nat) (T : List (List Int)) (acc : List Bool) (t : Int), vs = [.ref m, .int t] ∧ MachP C H L m w T acc ∧ MOk w T acc ∧
  (∀ tn : Nat, t = tn → tn < w → ∀ (f0 : Addr) (rk : Nat → Option Nat) H', Same H H' → (∀ s, s < T.length → IsRank (fun s => acc.getD s false) (fun s => nxt T s 0) (fun s => nxt T s (2 ^ tn)) s (rk s)) → H' f0 = some (.lst ((List.range T.length).map fun s => oV (rk s))) → Q (.ref f0) H') ∧
  (¬ (0 ≤ t ∧ t < w) → Rz CMis "why" (.str "track") H E)
theorem c_ranks {f : Addr} {fd : FuncData} (D : C8.Def K mg "ranks" s_ranks f fd) (b : Binds K fd ["machine", "track"] []) {CM : Addr} (c_M : Cls K CM) (n_width : NoAttr K CM "width") (n_table : NoAttr K CM "table") (n_accepting : NoAttr K CM "accepting") {CMis : Addr} (c_check_track : CalX P w K mg base 3 "check_track" (sp_check_track CM CMis)) (c_with_track : C8.Cal P w K mg base 1 "with_track" sp_with_track []) (z_enumerate : mg "enumerate" = none) : CalX P w K mg base 4 "ranks" (sp_ranks CM CMis) := by
  refine calX0 D b sc_ranks (fun vs H Q E h => ?_) (fun cdv A outer s H vs Q E hr h => ?_)
  · obtain ⟨_, _, _, _, _, _, rfl, _⟩ := h
    rfl
  · obtain ⟨m, L, w, T, acc, t, rfl, hm, hk, ok, bad⟩ := h
    refine ⟨_, (pss_cons (ps_expr (pe_cx c_check_track hr (by decide) (passes_call (takes_of rfl rfl rfl rfl) (fun _ _ _ _ h => h)) (by rfl) (pa_cons (pv 0) (pa_cons (pv 1) pa_nil)))) (pss_cons (ps_set (i := 2) sc_ranks.nd rfl (by first | exact Or.inl rfl | exact Or.inr rfl) (pe_lc (own := [("mark", 7)]) (g := (gName 7)) (tt := tYes) rfl sc_ranks.nd (piL K (pe_fd K (pv 0) (by rfl))) (blkOk_by (N := N_ranks) (sc := C8.fnScope s_ranks) (by decide +kernel)) (fun _ _ _ _ _ => (pg_name (i := 7) sc_ranks.nd rfl (by first | exact Or.inl rfl | exact Or.inr rfl))) (fun _ _ _ _ _ => pts_nil) (fun _ _ _ _ _ => (pe_ifExp (pt_val (pv 7)) pe_int pe_non)))) (pss_cons (ps_set (i := 3) sc_ranks.nd rfl (by first | exact Or.inl rfl | exact Or.inr rfl) pe_int) (pss_cons (ps_while (passes_of rfl) (pt_cmpR (inQ K) (pv 3) (pv 2) (by with_unfolding_all rfl)) (pss_cons (ps_for (passes_of rfl) rfl (piE K (by rfl) z_enumerate (pa_cons (pe_fd K (pv 0) (by rfl)) pa_nil)) (pg_tup (n := 2) rfl (pgs_cons (pg_name (i := 4) sc_ranks.nd rfl (by first | exact Or.inl rfl | exact Or.inr rfl)) (pgs_cons (pg_name (i := 5) sc_ranks.nd rfl (by first | exact Or.inl rfl | exact Or.inr rfl)) pgs_nil))) (pss_cons (ps_setLc (i := 6) (own := [("value", 8)]) (g := (gName 8)) (tt := tYes) rfl sc_ranks.nd rfl rfl (sw_true rfl rfl rfl (by decide +kernel)) (piT K (pe_tup (pa_cons pe_int (pa_cons pe_int pa_nil)))) (blkOk_by (N := N_ranks) (sc := C8.fnScope s_ranks) (by decide +kernel)) (fun _ _ _ _ _ => (pg_name (i := 8) sc_ranks.nd rfl (by first | exact Or.inl rfl | exact Or.inr rfl))) (fun _ _ _ _ _ => pts_nil) (fun _ _ _ _ _ => (pe_ix (ixL K) (pv 2) (pe_ix (ixL K) (pv 5) (C8.pe_c c_with_track hr (by decide) (by rfl) (pa_cons pe_int (pa_cons (pv 1) (pa_cons (pv 8) pa_nil)))) (fun _ _ => rfl)) (fun _ _ => rfl)))) (pss_one (ps_if (PW.pt (pw_and (pt_cmpR (op_isN) (pe_ix (ixL K) (pv 2) (pv 4) (fun _ _ => rfl)) pe_non (nomark _)) (pw_and1 (pt_cmpR (inQ K) (pv 3) (pv 6) (by with_unfolding_all rfl))))) (pss_one (ps_asg (pe_op op_add (pv 3) pe_int) (pg_sub (pv 2) (pv 4) set_list))) pss_nil)))) (pss_one (ps_aug (i := 3) sc_ranks.nd rfl (by first | exact Or.inl rfl | exact Or.inr rfl) pe_int ip_add)))) (pss_one (ps_ret (pv 2))))))), ?_⟩
    walk_at "rd"
    obtain ⟨dx, tb, ab, rs, h1, h2, h3, h4⟩ := hm.at_.ex
    refine ⟨m, L, w, T, acc, t, rfl, hm, fun ht => ?_, bad⟩
    obtain ⟨tn, rfl⟩ : ∃ tn : Nat, t = tn := ⟨t.toNat, by omega⟩
    have htw : tn < w := by omega
    have ok := ok tn rfl htw
    clear bad
    obtain ⟨n, hnT⟩ : ∃ n, n = T.length := ⟨_, rfl⟩
    rw [← hnT] at ok
    obtain ⟨A, hA⟩ : ∃ A : Nat → Bool, A = fun s => acc.getD s false := ⟨_, rfl⟩
    obtain ⟨f, hf0⟩ : ∃ f : Nat → Nat, f = fun s => nxt T s 0 := ⟨_, rfl⟩
    obtain ⟨g, hg0⟩ : ∃ g : Nat → Nat, g = fun s => nxt T s (2 ^ tn) := ⟨_, rfl⟩
    rw [← hA, ← hf0, ← hg0] at ok
    have hpt : 2 ^ tn < 2 ^ w := Nat.pow_lt_pow_right (by decide) htw
    have hf : ∀ x, x < n → f x < n := fun x hx => by
      obtain ⟨_, _, _, h⟩ := goodT_at hk.good (s := x) (a := 0) (by omega) (Nat.two_pow_pos w)
      rw [hf0, hnT]
      exact h
    have hg : ∀ x, x < n → g x < n := fun x hx => by
      obtain ⟨_, _, _, h⟩ := goodT_at hk.good (s := x) (a := 2 ^ tn) (by omega) hpt
      rw [hg0, hnT]
      exact h
    have hal : acc.length = n := by rw [hk.al, hnT]
    have hn4 : n ≤ 400 := by rw [hnT]; exact hk.le
    have htn : tn ≤ 6 := by have := hk.w6; omega
    refine fld_of c_M n_accepting h1 (mf_a _ _ _) ⟨ab, rfl, ⟨_, SqL.of h4⟩, fun D hD => ?_⟩
    refine lc_map (walk_list (xs := acc.map V.bl)) (fun s => oV (rkUp A f g 0 s)) (by rw [List.length_map]; omega) hD (fun H5 s5 => s5.seq (SqL.of h4)) ?_ ?_
    · rintro j x H5 H6 N2 hj s5 ⟨rfl, ez⟩ hN2
      rw [List.length_map] at hj
      rw [List.getElem?_map, List.getElem?_eq_getElem hj] at ez
      cases ez
      walk_at "rd"
      have h := hN2 _ (Same.refl _)
      have eA : A j = acc[j] := by
        rw [hA]
        show acc.getD j false = _
        rw [List.getD_eq_getElem?_getD, List.getElem?_eq_getElem hj]
        rfl
      rw [rkUp_zero, eA] at h
      cases hb : acc[j] with
      | true => rw [hb] at h; exact h
      | false => rw [hb] at h; exact h
    intro H1 s1 e1
    rw [List.length_map, hal] at e1
    have atF : ∀ (h : Nat → Option Nat) (x : Nat), x < n → atI ((List.range n).map fun s => oV (h s)) (x : Int) = some (oV (h x)) := fun h x hx => at_map (by rw [List.getElem?_range hx])
    have lenF : ∀ h : Nat → Option Nat, ((List.range n).map fun s => oV (h s)).length = n := fun h => by rw [List.length_map, List.length_range]
    have hmapF : ∀ h : Nat → Option Nat, ((List.range n).map fun s => oV (h s)) = ((List.range n).map h).map oV := fun h => by rw [List.map_map]; rfl
    obtain ⟨W, hW⟩ : ∃ W, W = fun (k : Nat) (σ : L2.St) (H2 : Hp) => ∃ (r : Nat) (u4 u5 u6 : Option V), k = n + 1 - r ∧ r ≤ n ∧ σ = [some (V.ref m), some (.int (tn : Nat)), some (.ref D), some (nv r), u4, u5, u6, none, none] ∧ But D H1 H2 ∧ H2 D = some (.lst ((List.range n).map fun s => oV (rkUp A f g r s))) := ⟨_, rfl⟩
    have nDm : m ≠ D := ne_of_none h1 hD
    have nDt : tb ≠ D := ne_of_none h2 hD
    have nDr : ∀ y ∈ rs, y ≠ D := fun y hy e => h3.free hD (e ▸ hy)
    refine while_W W ?_ ?_
    · rw [hW]
      exact ⟨_, 0, none, none, none, rfl, Nat.zero_le _, rfl, But.refl _ _, e1⟩
    · intro k σ H2 hw
      rw [hW] at hw
      obtain ⟨r, u4, u5, u6, hkr, hrn, rfl, b2, e2⟩ := hw
      have h2m := b2 _ _ nDm (s1 _ _ h1)
      have h2t := b2 _ _ nDt (s1 _ _ h2)
      have h2r := (h3.same s1).but b2 nDr
      walk_at "rd"
      refine ⟨_, .inl (SqL.of e2), rfl, ?_, ?_⟩
      · rw [hmapF]
        exact flat_o _
      rw [hmapF, inV_o]
      by_cases hin : some r ∈ (List.range n).map (rkUp A f g r)
      rotate_left 1
      · rw [decide_eq_false hin, if_neg (by decide)]
        have s12 : Same H H2 := same_of_but hD ((But.of s1).trans b2)
        refine ok D (fun s => rkUp A f g r s) H2 s12 (fun s hs => rkUp_done hf hg (fun x hx e => hin ?_) hs) e2
        exact List.mem_map.mpr ⟨x, List.mem_range.mpr hx, e⟩
      · rw [decide_eq_true hin, if_pos rfl]
        obtain ⟨x0, hx0, ex0⟩ := List.mem_map.mp hin
        have hrl : r < n := rank_lt hf hg (List.mem_range.mp hx0) (rkUp_some.mp ex0).2
        refine nxw_of fun N hN => ?_
        walk_at "rd"
        refine fld_of c_M n_table h2m (mf_t _ _ _) ⟨tb, rfl, _, SqL.of h2t, ?_⟩
        obtain ⟨F, hF⟩ : ∃ F : Nat → Nat → Option Nat, F = fun i s => if s < i then rkUp A f g (r + 1) s else rkUp A f g r s := ⟨_, rfl⟩
        have hF0 : F 0 = rkUp A f g r := by
          rw [hF]
          funext s
          exact if_neg (Nat.not_lt_zero s)
        refine for_enumN (xs := rs.map V.ref) (fun i σ H3 => (∃ u4 u5 u6, σ = [some (V.ref m), some (.int (tn : Nat)), some (.ref D), some (nv r), u4, u5, u6, none, none]) ∧ But D H1 H3 ∧ H3 D = some (.lst ((List.range n).map fun s => oV (F i s)))) ?_ ?_ ?_ ?_
        · refine ⟨⟨_, _, _, rfl⟩, b2, ?_⟩
          rw [hF0]
          exact e2
        · rintro i σ H3 _ ⟨_, b3, _⟩
          exact SqL.of (b3 _ _ nDt (s1 _ _ h2))
        · rintro i x Tp σ H3 N2 hx ⟨⟨u4, u5, u6, rfl⟩, b3, e3⟩ hTp hN2
          rw [List.getElem?_map] at hx
          obtain ⟨ra, hra, rfl⟩ := Option.map_eq_some_iff.mp hx
          have hi : i < n := by rw [hnT, ← h3.len]; exact (List.getElem?_eq_some_iff.mp hra).1
          obtain ⟨row, er, e0, lt0⟩ := goodT_at hk.good (s := i) (a := 0) (by omega) (Nat.two_pow_pos w)
          obtain ⟨row', er', e1', lt1⟩ := goodT_at hk.good (s := i) (a := 2 ^ tn) (by omega) hpt
          rw [er] at er'
          cases er'
          have s4 : Same H3 (upd H3 Tp (.tup [V.int (i : Nat), V.ref ra])) := same_upd hTp
          obtain ⟨H4, hH4⟩ : ∃ H4, H4 = upd H3 Tp (.tup [V.int (i : Nat), V.ref ra]) := ⟨_, rfl⟩
          have h4T : H4 Tp = some (.tup [V.int (i : Nat), V.ref ra]) := by rw [hH4, upd_same]
          rw [← hH4] at s4 ⊢
          have h4r := s4 _ _ (((h3.same s1).but b3 nDr).at_ i ra row hra er)
          have e4 := s4 _ _ e3
          walk_at "rd"
          refine ⟨_, SqT.of h4T, rfl, _, _, rfl, _, _, rfl, rfl, by decide, fun P hP => ?_⟩
          obtain ⟨H5, hH5⟩ : ∃ H5, H5 = upd H4 P (.tup [V.int 0, V.int 1]) := ⟨_, rfl⟩
          have s5 : Same H4 H5 := by rw [hH5]; exact same_upd hP
          have h5P : H5 P = some (.tup [V.int 0, V.int 1]) := by rw [hH5, upd_same]
          rw [← hH5]
          have hfi : nxt T i 0 = f i := by rw [hf0]
          have hgi : nxt T i (2 ^ tn) = g i := by rw [hg0]
          rw [hfi] at e0
          rw [hgi] at e1'
          have hF1 : ∀ s, F (i + 1) s = if s = i then rkUp A f g (r + 1) i else F i s := fun s => by
            rw [hF]
            show (if s < i + 1 then _ else _) = if s = i then _ else if s < i then _ else _
            by_cases hs : s = i
            · subst hs
              rw [if_pos (by omega), if_pos rfl]
            · rw [if_neg hs]
              by_cases hs2 : s < i
              · rw [if_pos hs2, if_pos (by omega)]
              · rw [if_neg hs2, if_neg (by omega)]
          have hFi : F i i = rkUp A f g r i := by
            rw [hF]
            exact if_neg (Nat.lt_irrefl i)
          have hFr : ∀ x, F i x = some r ↔ rkUp A f g r x = some r := fun x => by
            rw [hF]
            show (if x < i then _ else _) = some r ↔ _
            split
            · exact rkUp_same
            · exact Iff.rfl
          have e5 := s5 _ _ e4
          refine ⟨⟨_, SqT.of h5P⟩, fun Bh hBh => ?_⟩
          refine lc_map (walk_tup (xs := [V.int 0, V.int 1])) (fun j => oV (F i (if j = 0 then f i else g i))) (by decide) hBh (fun H6 s6 => SqT.of (s6 _ _ h5P)) ?_ ?_
          · rintro j x H6 H7 N3 hj s6 ⟨rfl, ez⟩ hN3
            have h6r := s6 _ _ (s5 _ _ h4r)
            have e6 := s6 _ _ e5
            walk_at "rd"
            have hj2 : j = 0 ∨ j = 1 := by
              have : j < 2 := hj
              omega
            rcases hj2 with rfl | rfl
            · cases ez
              refine ⟨0, tn, 0, rfl, Nat.two_pow_pos _, by omega, by decide, ?_⟩
              rw [wt0, Nat.mul_zero]
              refine ⟨_, _, rfl, SqL.of h6r, nv (f i), at_map e0, _, _, rfl, SqL.of e6, oV (F i (f i)), atF _ _ (hf i hi), hN3 _ (Same.refl _)⟩
            · cases ez
              refine ⟨0, tn, 1, rfl, Nat.two_pow_pos _, by omega, by decide, ?_⟩
              rw [wt0, Nat.mul_one]
              refine ⟨_, _, rfl, SqL.of h6r, nv (g i), at_map e1', _, _, rfl, SqL.of e6, oV (F i (g i)), atF _ _ (hg i hi), hN3 _ (Same.refl _)⟩
          intro H6 s6 e6
          have eB : (List.range [V.int 0, V.int 1].length).map (fun j => oV (F i (if j = 0 then f i else g i))) = [F i (f i), F i (g i)].map oV := rfl
          rw [eB] at e6
          have h6D := s6 _ _ e5
          have b6 : But D H1 H6 := ((b3.trans (But.of s4)).trans (But.of s5)).trans (But.of s6)
          have keep : rkUp A f g (r + 1) i = rkUp A f g r i → H6 D = some (.lst ((List.range n).map fun s => oV (F (i + 1) s))) := fun e => by
            have : (fun s => oV (F (i + 1) s)) = fun s => oV (F i s) := by
              funext s
              rw [hF1]
              split
              · rename_i z
                rw [z, e, hFi]
              · rfl
            rw [this]
            exact h6D
          refine ⟨_, _, rfl, SqL.of h6D, oV (F i i), atF _ _ hi, ?_⟩
          rw [hFi]
          cases hri : rkUp A f g r i with
          | some d =>
            rw [if_neg (fun z => nomatch z)]
            exact hN2 _ _ ⟨⟨_, _, _, rfl⟩, b6, keep ((rkUp_keep hri).trans hri.symm)⟩
          | none =>
            rw [if_pos (show oV none = V.non from rfl)]
            refine ⟨_, .inl (SqL.of e6), rfl, flat_o _, ?_⟩
            rw [inV_o]
            have hnew := rkUp_new hri
            by_cases hmem : some r ∈ [F i (f i), F i (g i)]
            · rw [decide_eq_true hmem, if_pos rfl]
              have hor : rkUp A f g r (f i) = some r ∨ rkUp A f g r (g i) = some r := by
                simp only [List.mem_cons, List.not_mem_nil, or_false] at hmem
                rcases hmem with h | h
                · exact .inl ((hFr _).mp h.symm)
                · exact .inr ((hFr _).mp h.symm)
              rw [if_pos hor] at hnew
              refine setL_of h6D (by rw [lenF]; exact hi) (hN2 _ _ ⟨⟨_, _, _, rfl⟩, b6.trans But.upd, ?_⟩)
              rw [upd_same]
              have eo : V.int ((r : Int) + 1) = oV (some (r + 1)) := rfl
              rw [eo, oset]
              refine congrArg (fun z => some (HO.lst z)) (List.map_congr_left fun s _ => ?_)
              rw [hF1, hnew]
            · rw [decide_eq_false hmem, if_neg (by decide)]
              have hor : ¬ (rkUp A f g r (f i) = some r ∨ rkUp A f g r (g i) = some r) := fun z => hmem (by
                simp only [List.mem_cons, List.not_mem_nil, or_false]
                rcases z with h | h
                · exact .inl ((hFr _).mpr h).symm
                · exact .inr ((hFr _).mpr h).symm)
              rw [if_neg hor] at hnew
              exact hN2 _ _ ⟨⟨_, _, _, rfl⟩, b6, keep (hnew.trans hri.symm)⟩
        · rintro σ H3 ⟨⟨u4, u5, u6, rfl⟩, b3, e3⟩
          walk_at "rd"
          have eFn : (List.range n).map (fun s => oV (F (rs.map V.ref).length s)) = (List.range n).map fun s => oV (rkUp A f g (r + 1) s) := by
            refine List.map_congr_left fun s hs => ?_
            rw [hF]
            show oV (if s < (rs.map V.ref).length then _ else _) = _
            rw [if_pos (by rw [List.length_map, h3.len, ← hnT]; exact List.mem_range.mp hs)]
          rw [eFn] at e3
          refine hN (n + 1 - (r + 1)) _ _ (by omega) ?_
          rw [hW]
          exact ⟨r + 1, _, _, _, rfl, by omega, rfl, b3, e3⟩
def sp_reachedI (COv : Addr) (mk : Addr → NdefX.NF) (g : Int → Nat → Int) (spF : Sp) : Sp := fun vs H Q E => ∃ (fA c' : Addr) (w : Nat) (l0 : Int) (U : List Int), vs = [.int l0, nv w, .ref fA] ∧ H fA = some (NdefX.FnO fA (mk c')) ∧ H (mk c').c = some (LamX.CodeO (mk c').c (mk c').qual) ∧ w ≤ 6 ∧ l0 ∈ U ∧ (∀ l ∈ U, ∀ j, j < 2 ^ w → g l j ∈ U) ∧ FolOkI g U (2 ^ w) spF H ∧ (∀ ls T l j ls2 row, BfsI g U (2 ^ w) l0 ls T → ls[T.length]? = some l → RowI g U ls l j ls2 row → j < 2 ^ w → ls2.length = 400 → g l j ∉ ls2 → Rz COv "limit" (.str "states") H E) ∧ ∀ p ls T H', Same H H' → ls.length ≤ 400 → RchAtI H H' g U (2 ^ w) l0 p ls T → Q (.ref p) H'
theorem c_reached {f : Addr} {fd : FuncData} (D : C8.Def K mg "reached" s_reached f fd) (b : Binds K fd ["start", "width", "follow"] []) {mk : Addr → NdefX.NF} {cl : List (Str × Addr)} (hcl : ∀ c, (mk c).cl = cl) {ps fr : List Str} {ws : List (Option V)} {gF : Int → Nat → Int} {spF : List (Option V) → Sp} (Fn : ∀ f c, NdefX.NOk P w K mg base (L2.CX P w) 2 f (mk c) ps fr spF) {COv : Addr} (x_Oversized : ExF P w K mg base "Oversized" COv "limit") (c_letters : C8.Cal P w K mg base 1 "letters" sp_letters []) (g_STATES : ∃ u, mg "STATES" = some u ∧ RelV (.int 400) u) (z_len : mg "len" = none) (z_range : mg "range" = none) : CalG P w K mg base 3 "reached" (CbG cl fr ws) (sp_reachedI COv mk gF (spF ws)) := by
  refine calG0 D b sc_reached (fun vs H Q E h => ?_) (fun cdv A outer s H vs Q E hr gg h => ?_)
  · obtain ⟨_, _, _, _, _, rfl, _⟩ := h
    rfl
  · obtain ⟨fA, c', w, l0, U, rfl, hf, hc, hw, hl0, hcl2, hfol, bad, ok⟩ := h
    have Fn1 := fun f => Fn f c'
    have gg1 : CbG (mk c').cl fr ws outer s.heap H := by rw [hcl]; exact gg
    refine ⟨_, (pss_cons (ps_set (i := 3) sc_reached.nd rfl (by first | exact Or.inl rfl | exact Or.inr rfl) (pe_lst (pa_cons (pv 0) pa_nil))) (pss_cons (ps_set (i := 4) sc_reached.nd rfl (by first | exact Or.inl rfl | exact Or.inr rfl) (pe_disp (pps_cons (pv 0) pe_int pps_nil) (by rfl) (by rfl) (by simp) (by decide))) (pss_cons (ps_set (i := 5) sc_reached.nd rfl (by first | exact Or.inl rfl | exact Or.inr rfl) (pe_lst pa_nil)) (pss_cons (ps_while (passes_of rfl) (pt_cmpR (op_lt) (pe_callB (lenS K) (by rfl) z_len PySem.boot_len (pa_cons (pv 5) pa_nil)) (pe_callB (lenS K) (by rfl) z_len PySem.boot_len (pa_cons (pv 3) pa_nil)) (nomark _)) (pss_cons (ps_set (i := 6) sc_reached.nd rfl (by first | exact Or.inl rfl | exact Or.inr rfl) (pe_ix (ixL K) (pv 3) (pe_callB (lenS K) (by rfl) z_len PySem.boot_len (pa_cons (pv 5) pa_nil)) (fun _ _ => rfl))) (pss_cons (ps_set (i := 7) sc_reached.nd rfl (by first | exact Or.inl rfl | exact Or.inr rfl) (pe_lst pa_nil)) (pss_cons (ps_for (passes_of rfl) rfl (pi_range1 (by rfl) z_range (pa_cons (C8.pe_c c_letters hr (by decide) (by rfl) (pa_cons (pv 1) pa_nil)) pa_nil)) (pg_name (i := 8) sc_reached.nd rfl (by first | exact Or.inl rfl | exact Or.inr rfl)) (pss_cons (ps_set (i := 9) sc_reached.nd rfl (by first | exact Or.inl rfl | exact Or.inr rfl) (pe_cb (i := 2) Fn1 gg1 rfl hr (by decide) (passes_call (takes_of rfl rfl rfl rfl) (fun _ _ _ _ h => h)) rfl (Or.inl rfl) (pa_cons (pv 6) (pa_cons (pv 8) pa_nil)))) (pss_cons (ps_if (pt_cmp (pc_dnotin (hu1 hr) (pv 9) (pv 4))) (pss_cons (ps_if (pt_cmpR (op_eq) (pe_callB (lenS K) (by rfl) z_len PySem.boot_len (pa_cons (pv 3) pa_nil)) (C8.pe_gc (by rfl) g_STATES) (nomark _)) (pss_one (ps_raise rfl (takes_of rfl rfl rfl rfl) (pmk_ex x_Oversized hr (by decide) (by rfl) (pa_cons pe_str pa_nil)))) pss_nil) (pss_cons (ps_asg (pe_callB (lenS K) (by rfl) z_len PySem.boot_len (pa_cons (pv 3) pa_nil)) (pg_sub (pv 4) (pv 9) (set_dict (hu1 hr)))) (pss_one (ps_expr (pe_bm PySem.F.plainAttrs_list PySem.F.slot_list_append PySem.F.type_list_append mt_append (pv 3) (pa_cons (pv 9) pa_nil)))))) pss_nil) (pss_one (ps_expr (pe_bm PySem.F.plainAttrs_list PySem.F.slot_list_append PySem.F.type_list_append mt_append (pv 7) (pa_cons (pe_dget (hu1 hr) (pv 4) (pv 9) (fun _ _ => rfl)) pa_nil))))))) (pss_one (ps_expr (pe_bm PySem.F.plainAttrs_list PySem.F.slot_list_append PySem.F.type_list_append mt_append (pv 5) (pa_cons (pv 7) pa_nil)))))))) (pss_one (ps_ret (pe_tup (pa_cons (pv 3) (pa_cons (pv 5) pa_nil))))))))), ?_⟩
    walk_at "rd"
    refine ⟨by decide, fun pF hpF => fun pN hpN => ⟨upd_same, [(.inl l0, .int 0)], rfl, (by rw [List.length_singleton]; decide), by decide, fun pT hpT => ?_⟩⟩
    have hpN0 : H pN = none := (same_upd hpF).free hpN
    have nNF : pN ≠ pF := fun e => by rw [e, upd_same] at hpN; cases hpN
    have n3 : pT ≠ pN := fun e => by rw [e, upd_same] at hpT; cases hpT
    rw [upd_ne n3, upd_ne n3] at hpT
    have n4 : pT ≠ pF := fun e => by rw [e, upd_same] at hpT; cases hpT
    have hpT0 : H pT = none := by rwa [upd_ne n4] at hpT
    obtain ⟨H0, hH0⟩ : ∃ H0, H0 = upd (upd (upd (upd H pF (HO.lst [V.int l0])) pN (HO.dK [])) pN (HO.dK (mergeK [] [(.inl l0, .int 0)]))) pT (HO.lst []) := ⟨_, rfl⟩
    have s0 : Same H H0 := by rw [hH0]; exact Dw.Same.new (Dw.Same.new (Dw.Same.new (same_upd hpF) hpN0) hpN0) hpT0
    have e0F : H0 pF = some (HO.lst [V.int l0]) := by rw [hH0, upd_ne (Ne.symm n4), upd_ne (Ne.symm nNF), upd_ne (Ne.symm nNF), upd_same]
    have e0N : H0 pN = some (HO.dK (numI 0 [l0])) := by rw [hH0, upd_ne (Ne.symm n3), upd_same]; rfl
    have e0T : H0 pT = some (HO.lst []) := by rw [hH0, upd_same]
    rw [← hH0]
    refine while_W (fun m σ H1 => ∃ rs ls T u6 u7 u8 u9, U.length - T.length = m ∧ ls.length ≤ 400 ∧ [some (V.int l0), some (nv w), some (V.ref fA), some (V.ref pF), some (V.ref pN), some (V.ref pT), u6, u7, u8, u9] = σ ∧ RSI H H1 gF U (2 ^ w) l0 pF pN pT rs ls T) ⟨_, [], [l0], [], none, none, none, none, rfl, (by rw [List.length_singleton]; decide), rfl, s0, e0F, e0N, e0T, ⟨rfl, (fun _ _ _ h => nomatch h)⟩, (fun _ h => nomatch h), BfsI.zero hl0⟩ ?_
    · rintro m σ H1 ⟨rs, ls, T, u6, u7, u8, u9, rfl, h400, rfl, R1⟩
      obtain ⟨s1, hF1, hN1, hT1, rows1, nr1, bfs1⟩ := R1
      have lT : rs.length = T.length := by rw [rows1.len]; unfold natT; rw [List.length_map]
      have hb := bfs1.bound
      walk_at "rd"
      refine ⟨_, .inl (SqL.of hT1), _, .inl (SqL.of hF1), ?_⟩
      rw [List.length_map, List.length_map, lT]
      refine ite2 (fun hlt => nxw_of fun N hN => ?_) (fun hge => ⟨by decide, fun p hp => ?_⟩)
      rotate_left 1
      · have s2 : Same H1 (upd H1 p (HO.tup [V.ref pF, V.ref pT])) := same_upd hp
        exact ok p ls T _ (Dw.Same.new s1 (Dw.Same.none s1 hp)) h400 ⟨⟨pF, pT, rs, upd_same, s2 _ _ hF1, s2 _ _ hT1, rows1.same s2, hpF, hpT0, n4, fun y hy => ⟨(nr1 y hy).1, (nr1 y hy).2.1, (nr1 y hy).2.2.2⟩⟩, bfs1, by have := bfs1.le; omega⟩
      · have hTl : T.length < ls.length := by omega
        obtain ⟨l, hl⟩ : ∃ l, ls[T.length]? = some l := ⟨_, List.getElem?_eq_getElem hTl⟩
        have hlU : l ∈ U := bfs1.sub l (List.mem_of_getElem? hl)
        walk_at "rd"
        have h64 : 2 ^ w ≤ 64 := Nat.pow_le_pow_right (by decide) hw
        refine ⟨_, .inl (SqL.of hT1), _, SqL.of hF1, V.int l, by rw [List.length_map, lT]; exact at_map hl, by decide, fun R hR => ⟨w, rfl, by omega, _, rfl, Int.le_trans (by decide) (Int.natCast_nonneg _), Int.lt_of_le_of_lt (Int.ofNat_le.mpr h64) (by decide), ?_⟩⟩
        rw [Int.toNat_natCast]
        have hR0 : H R = none := Dw.Same.none s1 hR
        have nRF : R ≠ pF := (ne_of_none hF1 hR).symm
        have nRN : R ≠ pN := (ne_of_none hN1 hR).symm
        have nRT : R ≠ pT := (ne_of_none hT1 hR).symm
        have nRr : ∀ y ∈ rs, y ≠ R := fun y hy e => rows1.free hR (e ▸ hy)
        have sR : Same H1 (upd H1 R (.lst [])) := same_upd hR
        refine for_rangeN (fun j σ H2 => ∃ ls2 row u8 u9, [some (V.int l0), some (nv w), some (V.ref fA), some (V.ref pF), some (V.ref pN), some (V.ref pT), some (V.int l), some (V.ref R), u8, u9] = σ ∧ Same H H2 ∧ ls2.length ≤ 400 ∧ H2 pF = some (.lst (ls2.map V.int)) ∧ H2 pN = some (.dK (numI 0 ls2)) ∧ H2 pT = some (.lst (rs.map V.ref)) ∧ RowsAt H2 rs (natT T) ∧ H2 R = some (.lst (row.map nv)) ∧ RowI gF U ls l j ls2 row) ?_ ?_ ?_
        · exact ⟨ls, [], _, _, rfl, Dw.Same.new s1 hR0, h400, sR _ _ hF1, sR _ _ hN1, sR _ _ hT1, rows1.same sR, upd_same, RowI.zero bfs1.nd bfs1.sub⟩
        · rintro j σ H2 N2 hj ⟨ls2, row, u8, u9, rfl, s2, h2le, hF2, hD2, hT2, rows2, hR2, ri⟩ hN2
          have hlr := ri.len
          have hbd := ri.bound
          walk_at "rd"
          refine ⟨s2 _ _ hf, s2 _ _ hf, s2 _ _ hc, hfol H2 l j _ _ s2 hlU hj fun H3 s3 => ?_⟩
          have hF3 := s3 _ _ hF2
          have hD3 := s3 _ _ hD2
          have hT3 := s3 _ _ hT2
          have rows3 := rows2.same s3
          have hR3 := s3 _ _ hR2
          have s4 : Same H H3 := s2.trans s3
          refine ⟨_, numI_in hD3, ?_⟩
          by_cases hm : gF l j ∈ ls2
          · obtain ⟨i, hi, hv⟩ := numI_at 0 ls2 _ hm
            rw [Nat.zero_add] at hv
            have hg := numI_in (l := gF l j) hD3
            rw [hv] at hg
            rw [hv, if_neg (by simp)]
            refine ⟨tyL hR3, nv i, hg, _, hR3, smallt (by rw [List.length_map]; omega), hN2 _ _ ⟨ls2, row ++ [i], _, _, rfl, Dw.Same.new s4 hR0, h2le, ?_, ?_, ?_, rows3.but But.upd nRr, ?_, ri.old hi⟩⟩
            · rw [upd_ne (Ne.symm nRF)]; exact hF3
            · rw [upd_ne (Ne.symm nRN)]; exact hD3
            · rw [upd_ne (Ne.symm nRT)]; exact hT3
            · rw [upd_same, List.map_append]; rfl
          · have hlt2 := ri.bound1 hm (hcl2 l hlU j hj)
            have hv := numI_no 0 ls2 _ hm
            rw [hv, if_pos (show (none : Option V).isSome = false from rfl)]
            refine ⟨_, .inl (SqL.of hF3), ?_⟩
            rw [List.length_map]
            refine ite2 (fun e4 => ⟨by decide, fun a ha => raise_rz (Rz.same (bad ls T l j ls2 row bfs1 hl ri hj (by omega) hm) s4) ha⟩) (fun ne4 => ?_)
            refine ⟨_, .inl (SqL.of hF3), ?_⟩
            rw [List.length_map]
            refine ⟨pN, _, rfl, numI_put hD3 hm (by omega), ?_⟩
            obtain ⟨H4, hH4⟩ : ∃ H4, H4 = upd H3 pN (HO.dK (numI 0 (ls2 ++ [gF l j]))) := ⟨_, rfl⟩
            rw [← hH4]
            have hF4 : H4 pF = some (.lst (ls2.map V.int)) := by rw [hH4, upd_ne (Ne.symm nNF)]; exact hF3
            obtain ⟨H5, hH5⟩ : ∃ H5, H5 = upd H4 pF (HO.lst (ls2.map V.int ++ [V.int (gF l j)])) := ⟨_, rfl⟩
            have hR5 : H5 R = some (.lst (row.map nv)) := by rw [hH5, upd_ne nRF, hH4, upd_ne nRN]; exact hR3
            have hD5 : H5 pN = some (.dK (numI 0 (ls2 ++ [gF l j]))) := by rw [hH5, upd_ne nNF, hH4, upd_same]
            have s5 : Same H H5 := by rw [hH5, hH4]; exact Dw.Same.new (Dw.Same.new s4 hpN0) hpF
            have hg := numI_in (l := gF l j) hD5
            rw [numI_last hm] at hg
            refine ⟨tyL hF4, _, hF4, smallt (by rw [List.length_map]; omega), ?_⟩
            rw [← hH5]
            refine ⟨tyL hR5, _, hg, _, hR5, smallt (by rw [List.length_map]; omega), hN2 _ _ ⟨ls2 ++ [gF l j], row ++ [ls2.length], _, _, rfl, Dw.Same.new s5 hR0, ?_, ?_, ?_, ?_, ?_, ?_, ri.new hm (hcl2 l hlU j hj)⟩⟩
            · rw [List.length_append]; show ls2.length + 1 ≤ 400; omega
            · rw [upd_ne (Ne.symm nRF), hH5, upd_same, List.map_append]; rfl
            · rw [upd_ne (Ne.symm nRN)]; exact hD5
            · rw [upd_ne (Ne.symm nRT), hH5, upd_ne n4, hH4, upd_ne n3]; exact hT3
            · rw [hH5, hH4]; exact ((rows3.but But.upd fun y hy => (nr1 y hy).2.2.1).but But.upd fun y hy => (nr1 y hy).2.1).but But.upd nRr
            · rw [upd_same, List.map_append]; rfl
        · rintro σ H2 ⟨ls2, row, u8, u9, rfl, s2, h2le, hF2, hN2, hT2, rows2, hR2, ri⟩
          have hlr := ri.len
          walk_at "rd"
          have hlT : T.length < 400 := by omega
          refine ⟨tyL hT2, _, hT2, smallt (by rw [List.length_map]; omega), hN (U.length - (T.length + 1)) _ _ (by omega) ⟨rs ++ [R], ls2, T ++ [row], (by rw [List.length_append]; rfl), h2le, _, _, _, _, rfl, Dw.Same.new s2 hpT0, ?_, ?_, ?_, ?_, ?_, bfs1.step hl ri⟩⟩
          · rw [upd_ne (Ne.symm n4)]; exact hF2
          · rw [upd_ne (Ne.symm n3)]; exact hN2
          · rw [upd_same, List.map_append]; rfl
          · have e : natT (T ++ [row]) = natT T ++ [row.map fun (x : Nat) => (x : Int)] := by unfold natT; rw [List.map_append]; rfl
            rw [e]
            refine RowsAt.but (RowsAt.snoc rows2 (by rw [List.map_map]; exact hR2)) But.upd fun y hy => ?_
            rcases List.mem_append.mp hy with hy | hy
            · exact (nr1 y hy).2.2.2
            · rw [List.mem_singleton.mp hy]; exact nRT
          · intro y hy
            rcases List.mem_append.mp hy with hy | hy
            · exact nr1 y hy
            · rw [List.mem_singleton.mp hy]; exact ⟨hR0, nRF, nRN, nRT⟩
def sp_reachedT (COv : Addr) (mk : Addr → NdefX.NF) (g : List Int → Nat → List Int) (spF : Sp) : Sp := fun vs H Q E => ∃ (a0 fA c' : Addr) (w : Nat) (l0 : List Int) (U : List (List Int)), vs = [.ref a0, nv w, .ref fA] ∧ H fA = some (NdefX.FnO fA (mk c')) ∧ H (mk c').c = some (LamX.CodeO (mk c').c (mk c').qual) ∧ H a0 = some (.tup (l0.map V.int)) ∧ w ≤ 6 ∧ l0 ∈ U ∧ (∀ l ∈ U, ∀ j, j < 2 ^ w → g l j ∈ U) ∧ FolOk g U (2 ^ w) spF H ∧ (∀ ls T l j ls2 row, BfsI g U (2 ^ w) l0 ls T → ls[T.length]? = some l → RowI g U ls l j ls2 row → j < 2 ^ w → ls2.length = 400 → g l j ∉ ls2 → Rz COv "limit" (.str "states") H E) ∧ ∀ p ls T H', Same H H' → ls.length ≤ 400 → RchAt H H' g U (2 ^ w) l0 p ls T → Q (.ref p) H'
theorem cT_reached {f : Addr} {fd : FuncData} (D : C8.Def K mg "reached" s_reached f fd) (b : Binds K fd ["start", "width", "follow"] []) {mk : Addr → NdefX.NF} {cl : List (Str × Addr)} (hcl : ∀ c, (mk c).cl = cl) {ps fr : List Str} {ws : List (Option V)} {gF : List Int → Nat → List Int} {spF : List (Option V) → Sp} (Fn : ∀ f c, NdefX.NOk P w K mg base (L2.CX P w) 2 f (mk c) ps fr spF) {COv : Addr} (x_Oversized : ExF P w K mg base "Oversized" COv "limit") (c_letters : C8.Cal P w K mg base 1 "letters" sp_letters []) (g_STATES : ∃ u, mg "STATES" = some u ∧ RelV (.int 400) u) (z_len : mg "len" = none) (z_range : mg "range" = none) : CalG P w K mg base 3 "reached" (CbG cl fr ws) (sp_reachedT COv mk gF (spF ws)) := by
  refine calG0 D b sc_reached (fun vs H Q E h => ?_) (fun cdv A outer s H vs Q E hr gg h => ?_)
  · obtain ⟨_, _, _, _, _, _, rfl, _⟩ := h
    rfl
  · obtain ⟨a0, fA, c', w, l0, U, rfl, hf, hc, ha, hw, hl0, hcl2, hfol, bad, ok⟩ := h
    have Fn1 := fun f => Fn f c'
    have gg1 : CbG (mk c').cl fr ws outer s.heap H := by rw [hcl]; exact gg
    refine ⟨_, (pss_cons (ps_set (i := 3) sc_reached.nd rfl (by first | exact Or.inl rfl | exact Or.inr rfl) (pe_lst (pa_cons (pv 0) pa_nil))) (pss_cons (ps_set (i := 4) sc_reached.nd rfl (by first | exact Or.inl rfl | exact Or.inr rfl) (pe_disp1T (hu1 hr) (pv 0) pe_int)) (pss_cons (ps_set (i := 5) sc_reached.nd rfl (by first | exact Or.inl rfl | exact Or.inr rfl) (pe_lst pa_nil)) (pss_cons (ps_while (passes_of rfl) (pt_cmpR (op_lt) (pe_callB (lenS K) (by rfl) z_len PySem.boot_len (pa_cons (pv 5) pa_nil)) (pe_callB (lenS K) (by rfl) z_len PySem.boot_len (pa_cons (pv 3) pa_nil)) (nomark _)) (pss_cons (ps_set (i := 6) sc_reached.nd rfl (by first | exact Or.inl rfl | exact Or.inr rfl) (pe_ix (ixL K) (pv 3) (pe_callB (lenS K) (by rfl) z_len PySem.boot_len (pa_cons (pv 5) pa_nil)) (fun _ _ => rfl))) (pss_cons (ps_set (i := 7) sc_reached.nd rfl (by first | exact Or.inl rfl | exact Or.inr rfl) (pe_lst pa_nil)) (pss_cons (ps_for (passes_of rfl) rfl (pi_range1 (by rfl) z_range (pa_cons (C8.pe_c c_letters hr (by decide) (by rfl) (pa_cons (pv 1) pa_nil)) pa_nil)) (pg_name (i := 8) sc_reached.nd rfl (by first | exact Or.inl rfl | exact Or.inr rfl)) (pss_cons (ps_set (i := 9) sc_reached.nd rfl (by first | exact Or.inl rfl | exact Or.inr rfl) (pe_cb (i := 2) Fn1 gg1 rfl hr (by decide) (passes_call (takes_of rfl rfl rfl rfl) (fun _ _ _ _ h => h)) rfl (Or.inl rfl) (pa_cons (pv 6) (pa_cons (pv 8) pa_nil)))) (pss_cons (ps_if (pt_cmp (pc_dnotin (hu1 hr) (pv 9) (pv 4))) (pss_cons (ps_if (pt_cmpR (op_eq) (pe_callB (lenS K) (by rfl) z_len PySem.boot_len (pa_cons (pv 3) pa_nil)) (C8.pe_gc (by rfl) g_STATES) (nomark _)) (pss_one (ps_raise rfl (takes_of rfl rfl rfl rfl) (pmk_ex x_Oversized hr (by decide) (by rfl) (pa_cons pe_str pa_nil)))) pss_nil) (pss_cons (ps_asg (pe_callB (lenS K) (by rfl) z_len PySem.boot_len (pa_cons (pv 3) pa_nil)) (pg_sub (pv 4) (pv 9) (set_dict (hu1 hr)))) (pss_one (ps_expr (pe_bm PySem.F.plainAttrs_list PySem.F.slot_list_append PySem.F.type_list_append mt_append (pv 3) (pa_cons (pv 9) pa_nil)))))) pss_nil) (pss_one (ps_expr (pe_bm PySem.F.plainAttrs_list PySem.F.slot_list_append PySem.F.type_list_append mt_append (pv 7) (pa_cons (pe_dget (hu1 hr) (pv 4) (pv 9) (fun _ _ => rfl)) pa_nil))))))) (pss_one (ps_expr (pe_bm PySem.F.plainAttrs_list PySem.F.slot_list_append PySem.F.type_list_append mt_append (pv 5) (pa_cons (pv 7) pa_nil)))))))) (pss_one (ps_ret (pe_tup (pa_cons (pv 3) (pa_cons (pv 5) pa_nil))))))))), ?_⟩
    walk_at "rd"
    refine ⟨by decide, fun pF hpF => fun pN hpN => ⟨upd_same, kyT l0, ?_, by decide, fun pT hpT => ?_⟩⟩
    · have n1 : a0 ≠ pF := ne_of_none ha hpF
      have e1 : upd H pF (HO.lst [V.ref a0]) a0 = some (HO.tup (l0.map V.int)) := by rw [upd_ne n1]; exact ha
      rw [kyT_V, upd_ne (ne_of_none e1 hpN)]
      exact e1
    have hpN0 : H pN = none := (same_upd hpF).free hpN
    have nNF : pN ≠ pF := fun e => by rw [e, upd_same] at hpN; cases hpN
    have n3 : pT ≠ pN := fun e => by rw [e, upd_same] at hpT; cases hpT
    rw [upd_ne n3, upd_ne n3] at hpT
    have n4 : pT ≠ pF := fun e => by rw [e, upd_same] at hpT; cases hpT
    have hpT0 : H pT = none := by rwa [upd_ne n4] at hpT
    have s0 : Same H (upd (upd (upd (upd H pF (HO.lst [V.ref a0])) pN (HO.dT [])) pN (HO.dT [(kyT l0, V.int 0)])) pT (HO.lst [])) := Dw.Same.new (Dw.Same.new (Dw.Same.new (same_upd hpF) hpN0) hpN0) hpT0
    refine while_W (fun m σ H1 => ∃ fs rs ls T u6 u7 u8 u9, U.length - T.length = m ∧ ls.length ≤ 400 ∧ [some (V.ref a0), some (nv w), some (V.ref fA), some (V.ref pF), some (V.ref pN), some (V.ref pT), u6, u7, u8, u9] = σ ∧ RS H H1 gF U (2 ^ w) l0 pF pN pT fs rs ls T) ⟨_, [a0], [], [l0], [], none, none, none, none, rfl, (by rw [List.length_singleton]; decide), rfl, s0, ?_, ?_, ?_, upd_same, ⟨rfl, (fun _ _ _ h => nomatch h)⟩, (fun _ h => nomatch h), BfsI.zero hl0⟩ ?_
    · rw [upd_ne (Ne.symm n4), upd_ne (Ne.symm nNF), upd_ne (Ne.symm nNF), upd_same]
      rfl
    · refine ⟨rfl, fun i a r h1 h2 => ?_⟩
      match i, h1, h2 with
      | 0, h1, h2 =>
        cases h1
        cases h2
        exact s0 _ _ ha
    · rw [upd_ne (Ne.symm n3), upd_same]
      rfl
    · rintro m σ H1 ⟨fs, rs, ls, T, u6, u7, u8, u9, rfl, h400, rfl, R1⟩
      obtain ⟨s1, hF1, tF1, hN1, hT1, rows1, nr1, bfs1⟩ := R1
      have lT : rs.length = T.length := by rw [rows1.len]; unfold natT; rw [List.length_map]
      have lF : fs.length = ls.length := tF1.len
      have hb := bfs1.bound
      walk_at "rd"
      refine ⟨_, .inl (SqL.of hT1), _, .inl (SqL.of hF1), ?_⟩
      rw [List.length_map, List.length_map, lT, lF]
      refine ite2 (fun hlt => nxw_of fun N hN => ?_) (fun hge => ⟨by decide, fun p hp => ?_⟩)
      rotate_left 1
      · have s2 : Same H1 (upd H1 p (HO.tup [V.ref pF, V.ref pT])) := same_upd hp
        exact ok p ls T _ (Dw.Same.new s1 (Dw.Same.none s1 hp)) h400 ⟨⟨pF, pT, fs, rs, upd_same, s2 _ _ hF1, tF1.same s2, s2 _ _ hT1, rows1.same s2, hpF, hpT0, n4, fun y hy => ⟨(nr1 y hy).1, (nr1 y hy).2.1, (nr1 y hy).2.2.2⟩⟩, bfs1, by have := bfs1.le; omega⟩
      · have hTl : T.length < ls.length := by omega
        obtain ⟨l, hl⟩ : ∃ l, ls[T.length]? = some l := ⟨_, List.getElem?_eq_getElem hTl⟩
        obtain ⟨b, hb1, hb2⟩ := tF1.get hl
        have hlU : l ∈ U := bfs1.sub l (List.mem_of_getElem? hl)
        walk_at "rd"
        have h64 : 2 ^ w ≤ 64 := Nat.pow_le_pow_right (by decide) hw
        refine ⟨_, .inl (SqL.of hT1), _, SqL.of hF1, V.ref b, by rw [List.length_map, lT]; exact at_map hb1, by decide, fun R hR => ⟨w, rfl, by omega, _, rfl, Int.le_trans (by decide) (Int.natCast_nonneg _), Int.lt_of_le_of_lt (Int.ofNat_le.mpr h64) (by decide), ?_⟩⟩
        rw [Int.toNat_natCast]
        have hR0 : H R = none := Dw.Same.none s1 hR
        have nRF : R ≠ pF := (ne_of_none hF1 hR).symm
        have nRN : R ≠ pN := (ne_of_none hN1 hR).symm
        have nRT : R ≠ pT := (ne_of_none hT1 hR).symm
        have nRr : ∀ y ∈ rs, y ≠ R := fun y hy e => rows1.free hR (e ▸ hy)
        have sR : Same H1 (upd H1 R (.lst [])) := same_upd hR
        refine for_rangeN (fun j σ H2 => ∃ fs2 ls2 row u8 u9, [some (V.ref a0), some (nv w), some (V.ref fA), some (V.ref pF), some (V.ref pN), some (V.ref pT), some (V.ref b), some (V.ref R), u8, u9] = σ ∧ Same H H2 ∧ ls2.length ≤ 400 ∧ H2 pF = some (.lst (fs2.map V.ref)) ∧ TupsAt H2 fs2 ls2 ∧ H2 pN = some (.dT (numT 0 ls2)) ∧ H2 pT = some (.lst (rs.map V.ref)) ∧ RowsAt H2 rs (natT T) ∧ H2 b = some (.tup (l.map V.int)) ∧ H2 R = some (.lst (row.map nv)) ∧ RowI gF U ls l j ls2 row) ?_ ?_ ?_
        · exact ⟨fs, ls, [], _, _, rfl, Dw.Same.new s1 hR0, h400, sR _ _ hF1, tF1.same sR, sR _ _ hN1, sR _ _ hT1, rows1.same sR, sR _ _ hb2, upd_same, RowI.zero bfs1.nd bfs1.sub⟩
        · rintro j σ H2 N2 hj ⟨fs2, ls2, row, u8, u9, rfl, s2, h2le, hF2, tF2, hD2, hT2, rows2, hb3, hR2, ri⟩ hN2
          have lF2 : fs2.length = ls2.length := tF2.len
          have hlr := ri.len
          have hbd := ri.bound
          walk_at "rd"
          refine ⟨s2 _ _ hf, s2 _ _ hf, s2 _ _ hc, hfol H2 b l j _ _ s2 hb3 hlU hj fun c H3 s3 hc3 => ?_⟩
          have hF3 := s3 _ _ hF2
          have tF3 := tF2.same s3
          have hD3 := s3 _ _ hD2
          have hT3 := s3 _ _ hT2
          have rows3 := rows2.same s3
          have hb4 := s3 _ _ hb3
          have hR3 := s3 _ _ hR2
          have s4 : Same H H3 := s2.trans s3
          refine ⟨_, numT_in hD3 hc3, ?_⟩
          by_cases hm : gF l j ∈ ls2
          · obtain ⟨i, hi, hv⟩ := numT_at 0 ls2 _ hm
            rw [Nat.zero_add] at hv
            have hg := numT_in hD3 hc3
            rw [hv] at hg
            rw [hv, if_neg (by simp)]
            refine ⟨tyL hR3, nv i, hg, _, hR3, smallt (by rw [List.length_map]; omega), hN2 _ _ ⟨fs2, ls2, row ++ [i], _, _, rfl, Dw.Same.new s4 hR0, h2le, ?_, tF3.upd hR3 (by nofun), ?_, ?_, rows3.but But.upd nRr, ?_, ?_, ri.old hi⟩⟩
            · rw [upd_ne (Ne.symm nRF)]; exact hF3
            · rw [upd_ne (Ne.symm nRN)]; exact hD3
            · rw [upd_ne (Ne.symm nRT)]; exact hT3
            · rw [upd_ne (ne_of hb4 hR3 (by nofun))]; exact hb4
            · rw [upd_same, List.map_append]; rfl
          · have hlt2 := ri.bound1 hm (hcl2 l hlU j hj)
            have hv := numT_no 0 ls2 _ hm
            rw [hv, if_pos (show (none : Option V).isSome = false from rfl)]
            refine ⟨_, .inl (SqL.of hF3), ?_⟩
            rw [List.length_map, lF2]
            refine ite2 (fun e4 => ⟨by decide, fun a ha => raise_rz (Rz.same (bad ls T l j ls2 row bfs1 hl ri hj (by omega) hm) s4) ha⟩) (fun ne4 => ?_)
            refine ⟨_, .inl (SqL.of hF3), ?_⟩
            rw [List.length_map, lF2]
            refine ⟨pN, _, rfl, numT_put hD3 hc3 hm (by omega), ?_⟩
            obtain ⟨H4, hH4⟩ : ∃ H4, H4 = upd H3 pN (HO.dT (numT 0 (ls2 ++ [gF l j]))) := ⟨_, rfl⟩
            rw [← hH4]
            have hF4 : H4 pF = some (.lst (fs2.map V.ref)) := by rw [hH4, upd_ne (Ne.symm nNF)]; exact hF3
            obtain ⟨H5, hH5⟩ : ∃ H5, H5 = upd H4 pF (HO.lst (fs2.map V.ref ++ [V.ref c])) := ⟨_, rfl⟩
            have hR5 : H5 R = some (.lst (row.map nv)) := by rw [hH5, upd_ne nRF, hH4, upd_ne nRN]; exact hR3
            have hD5 : H5 pN = some (.dT (numT 0 (ls2 ++ [gF l j]))) := by rw [hH5, upd_ne nNF, hH4, upd_same]
            have s5 : Same H H5 := by rw [hH5, hH4]; exact Dw.Same.new (Dw.Same.new s4 hpN0) hpF
            have nc1 : c ≠ pN := ne_of hc3 hD3 (by nofun)
            have nc2 : c ≠ pF := ne_of hc3 hF3 (by nofun)
            have hc5 : H5 c = some (.tup ((gF l j).map V.int)) := by rw [hH5, upd_ne nc2, hH4, upd_ne nc1]; exact hc3
            have tF5 : TupsAt H5 fs2 ls2 := by rw [hH5, hH4]; exact (tF3.upd hD3 (by nofun)).upd (by rw [← hH4]; exact hF4) (by nofun)
            have hg := numT_in hD5 hc5
            rw [numT_last hm] at hg
            refine ⟨tyL hF4, _, hF4, smallt (by rw [List.length_map]; omega), ?_⟩
            rw [← hH5]
            refine ⟨tyL hR5, _, hg, _, hR5, smallt (by rw [List.length_map]; omega), hN2 _ _ ⟨fs2 ++ [c], ls2 ++ [gF l j], row ++ [ls2.length], _, _, rfl, Dw.Same.new s5 hR0, (by rw [List.length_append]; show ls2.length + 1 ≤ 400; omega), ?_, (tF5.snoc hc5).upd hR5 (by nofun), ?_, ?_, ?_, ?_, ?_, ri.new hm (hcl2 l hlU j hj)⟩⟩
            · rw [upd_ne (Ne.symm nRF), hH5, upd_same, List.map_append]; rfl
            · rw [upd_ne (Ne.symm nRN)]; exact hD5
            · rw [upd_ne (Ne.symm nRT), hH5, upd_ne n4, hH4, upd_ne n3]; exact hT3
            · rw [hH5, hH4]; exact ((rows3.but But.upd fun y hy => (nr1 y hy).2.2.1).but But.upd fun y hy => (nr1 y hy).2.1).but But.upd nRr
            · have hb5 : H5 b = some (.tup (l.map V.int)) := by rw [hH5, upd_ne (ne_of hb4 hF3 (by nofun)), hH4, upd_ne (ne_of hb4 hD3 (by nofun))]; exact hb4
              rw [upd_ne (ne_of hb5 hR5 (by nofun))]; exact hb5
            · rw [upd_same, List.map_append]; rfl
        · rintro σ H2 ⟨fs2, ls2, row, u8, u9, rfl, s2, h2le, hF2, tF2, hN2, hT2, rows2, hb3, hR2, ri⟩
          have hlr := ri.len
          walk_at "rd"
          have hlT : T.length < 400 := by omega
          refine ⟨tyL hT2, _, hT2, smallt (by rw [List.length_map]; omega), hN (U.length - (T.length + 1)) _ _ (by omega) ⟨fs2, rs ++ [R], ls2, T ++ [row], (by rw [List.length_append]; rfl), h2le, _, _, _, _, rfl, Dw.Same.new s2 hpT0, ?_, tF2.upd hT2 (by nofun), ?_, ?_, ?_, ?_, bfs1.step hl ri⟩⟩
          · rw [upd_ne (Ne.symm n4)]; exact hF2
          · rw [upd_ne (Ne.symm n3)]; exact hN2
          · rw [upd_same, List.map_append]; rfl
          · have e : natT (T ++ [row]) = natT T ++ [row.map fun (x : Nat) => (x : Int)] := by unfold natT; rw [List.map_append]; rfl
            rw [e]
            refine RowsAt.but (RowsAt.snoc rows2 (by rw [List.map_map]; exact hR2)) But.upd fun y hy => ?_
            rcases List.mem_append.mp hy with hy | hy
            · exact (nr1 y hy).2.2.2
            · rw [List.mem_singleton.mp hy]; exact nRT
          · intro y hy
            rcases List.mem_append.mp hy with hy | hy
            · exact nr1 y hy
            · rw [List.mem_singleton.mp hy]; exact ⟨hR0, nRF, nRN, nRT⟩
def sp_reached (mk : Addr → NdefX.NF) (g : List Int → Nat → List Int) (spF : Sp) : Sp := fun vs H Q _ => ∃ (a0 fA c' : Addr) (w : Nat) (l0 : List Int) (U : List (List Int)), vs = [.ref a0, nv w, .ref fA] ∧ H fA = some (NdefX.FnO fA (mk c')) ∧ H (mk c').c = some (LamX.CodeO (mk c').c (mk c').qual) ∧ H a0 = some (.tup (l0.map V.int)) ∧ w ≤ 6 ∧ U.length ≤ 400 ∧ l0 ∈ U ∧ (∀ l ∈ U, ∀ j, j < 2 ^ w → g l j ∈ U) ∧ FolOk g U (2 ^ w) spF H ∧ ∀ p ls T H', Same H H' → RchAt H H' g U (2 ^ w) l0 p ls T → Q (.ref p) H'
theorem c_reachedP {f : Addr} {fd : FuncData} (D : C8.Def K mg "reached" s_reached f fd) (b : Binds K fd ["start", "width", "follow"] []) {mk : Addr → NdefX.NF} {cl : List (Str × Addr)} (hcl : ∀ c, (mk c).cl = cl) {ps fr : List Str} {ws : List (Option V)} {gF : List Int → Nat → List Int} {spF : List (Option V) → Sp} (Fn : ∀ f c, NdefX.NOk P w K mg base (L2.CX P w) 1 f (mk c) ps fr spF) {COv : Addr} (x_Oversized : ExF P w K mg base "Oversized" COv "limit") (c_letters : C8.Cal P w K mg base 1 "letters" sp_letters []) (g_STATES : ∃ u, mg "STATES" = some u ∧ RelV (.int 400) u) (z_len : mg "len" = none) (z_range : mg "range" = none) : CalG P w K mg base 3 "reached" (CbG cl fr ws) (sp_reached mk gF (spF ws)) := by
  refine calG0 D b sc_reached (fun vs H Q E h => ?_) (fun cdv A outer s H vs Q E hr gg h => ?_)
  · obtain ⟨_, _, _, _, _, _, rfl, _⟩ := h
    rfl
  · obtain ⟨a0, fA, c', w, l0, U, rfl, hf, hc, ha, hw, hU, hl0, hcl2, hfol, ok⟩ := h
    have Fn1 := fun f => Fn f c'
    have gg1 : CbG (mk c').cl fr ws outer s.heap H := by rw [hcl]; exact gg
    refine ⟨_, (pss_cons (ps_set (i := 3) sc_reached.nd rfl (by first | exact Or.inl rfl | exact Or.inr rfl) (pe_lst (pa_cons (pv 0) pa_nil))) (pss_cons (ps_set (i := 4) sc_reached.nd rfl (by first | exact Or.inl rfl | exact Or.inr rfl) (pe_disp1T (hu1 hr) (pv 0) pe_int)) (pss_cons (ps_set (i := 5) sc_reached.nd rfl (by first | exact Or.inl rfl | exact Or.inr rfl) (pe_lst pa_nil)) (pss_cons (ps_while (passes_of rfl) (pt_cmpR (op_lt) (pe_callB (lenS K) (by rfl) z_len PySem.boot_len (pa_cons (pv 5) pa_nil)) (pe_callB (lenS K) (by rfl) z_len PySem.boot_len (pa_cons (pv 3) pa_nil)) (nomark _)) (pss_cons (ps_set (i := 6) sc_reached.nd rfl (by first | exact Or.inl rfl | exact Or.inr rfl) (pe_ix (ixL K) (pv 3) (pe_callB (lenS K) (by rfl) z_len PySem.boot_len (pa_cons (pv 5) pa_nil)) (fun _ _ => rfl))) (pss_cons (ps_set (i := 7) sc_reached.nd rfl (by first | exact Or.inl rfl | exact Or.inr rfl) (pe_lst pa_nil)) (pss_cons (ps_for (passes_of rfl) rfl (pi_range1 (by rfl) z_range (pa_cons (C8.pe_c c_letters hr (by decide) (by rfl) (pa_cons (pv 1) pa_nil)) pa_nil)) (pg_name (i := 8) sc_reached.nd rfl (by first | exact Or.inl rfl | exact Or.inr rfl)) (pss_cons (ps_set (i := 9) sc_reached.nd rfl (by first | exact Or.inl rfl | exact Or.inr rfl) (pe_cb (i := 2) Fn1 gg1 rfl hr (by decide) (passes_call (takes_of rfl rfl rfl rfl) (fun _ _ _ _ h => h)) rfl (Or.inl rfl) (pa_cons (pv 6) (pa_cons (pv 8) pa_nil)))) (pss_cons (ps_if (pt_cmp (pc_dnotin (hu1 hr) (pv 9) (pv 4))) (pss_cons (ps_if (pt_cmpR (op_eq) (pe_callB (lenS K) (by rfl) z_len PySem.boot_len (pa_cons (pv 3) pa_nil)) (C8.pe_gc (by rfl) g_STATES) (nomark _)) (pss_one (ps_raise rfl (takes_of rfl rfl rfl rfl) (pmk_ex x_Oversized hr (by decide) (by rfl) (pa_cons pe_str pa_nil)))) pss_nil) (pss_cons (ps_asg (pe_callB (lenS K) (by rfl) z_len PySem.boot_len (pa_cons (pv 3) pa_nil)) (pg_sub (pv 4) (pv 9) (set_dict (hu1 hr)))) (pss_one (ps_expr (pe_bm PySem.F.plainAttrs_list PySem.F.slot_list_append PySem.F.type_list_append mt_append (pv 3) (pa_cons (pv 9) pa_nil)))))) pss_nil) (pss_one (ps_expr (pe_bm PySem.F.plainAttrs_list PySem.F.slot_list_append PySem.F.type_list_append mt_append (pv 7) (pa_cons (pe_dget (hu1 hr) (pv 4) (pv 9) (fun _ _ => rfl)) pa_nil))))))) (pss_one (ps_expr (pe_bm PySem.F.plainAttrs_list PySem.F.slot_list_append PySem.F.type_list_append mt_append (pv 5) (pa_cons (pv 7) pa_nil)))))))) (pss_one (ps_ret (pe_tup (pa_cons (pv 3) (pa_cons (pv 5) pa_nil))))))))), ?_⟩
    walk_at "rd"
    refine ⟨by decide, fun pF hpF => fun pN hpN => ⟨upd_same, kyT l0, ?_, by decide, fun pT hpT => ?_⟩⟩
    · have n1 : a0 ≠ pF := ne_of_none ha hpF
      have e1 : upd H pF (HO.lst [V.ref a0]) a0 = some (HO.tup (l0.map V.int)) := by rw [upd_ne n1]; exact ha
      rw [kyT_V, upd_ne (ne_of_none e1 hpN)]
      exact e1
    have hpN0 : H pN = none := (same_upd hpF).free hpN
    have nNF : pN ≠ pF := fun e => by rw [e, upd_same] at hpN; cases hpN
    have n3 : pT ≠ pN := fun e => by rw [e, upd_same] at hpT; cases hpT
    rw [upd_ne n3, upd_ne n3] at hpT
    have n4 : pT ≠ pF := fun e => by rw [e, upd_same] at hpT; cases hpT
    have hpT0 : H pT = none := by rwa [upd_ne n4] at hpT
    have s0 : Same H (upd (upd (upd (upd H pF (HO.lst [V.ref a0])) pN (HO.dT [])) pN (HO.dT [(kyT l0, V.int 0)])) pT (HO.lst [])) := Dw.Same.new (Dw.Same.new (Dw.Same.new (same_upd hpF) hpN0) hpN0) hpT0
    refine while_W (fun m σ H1 => ∃ fs rs ls T u6 u7 u8 u9, U.length - T.length = m ∧ [some (V.ref a0), some (nv w), some (V.ref fA), some (V.ref pF), some (V.ref pN), some (V.ref pT), u6, u7, u8, u9] = σ ∧ RS H H1 gF U (2 ^ w) l0 pF pN pT fs rs ls T) ⟨_, [a0], [], [l0], [], none, none, none, none, rfl, rfl, s0, ?_, ?_, ?_, upd_same, ⟨rfl, (fun _ _ _ h => nomatch h)⟩, (fun _ h => nomatch h), BfsI.zero hl0⟩ ?_
    · rw [upd_ne (Ne.symm n4), upd_ne (Ne.symm nNF), upd_ne (Ne.symm nNF), upd_same]
      rfl
    · refine ⟨rfl, fun i a r h1 h2 => ?_⟩
      match i, h1, h2 with
      | 0, h1, h2 =>
        cases h1
        cases h2
        exact s0 _ _ ha
    · rw [upd_ne (Ne.symm n3), upd_same]
      rfl
    · rintro m σ H1 ⟨fs, rs, ls, T, u6, u7, u8, u9, rfl, rfl, R1⟩
      obtain ⟨s1, hF1, tF1, hN1, hT1, rows1, nr1, bfs1⟩ := R1
      have lT : rs.length = T.length := by rw [rows1.len]; unfold natT; rw [List.length_map]
      have lF : fs.length = ls.length := tF1.len
      have hb := bfs1.bound
      walk_at "rd"
      refine ⟨_, .inl (SqL.of hT1), _, .inl (SqL.of hF1), ?_⟩
      rw [List.length_map, List.length_map, lT, lF]
      refine ite2 (fun hlt => nxw_of fun N hN => ?_) (fun hge => ⟨by decide, fun p hp => ?_⟩)
      rotate_left 1
      · have s2 : Same H1 (upd H1 p (HO.tup [V.ref pF, V.ref pT])) := same_upd hp
        exact ok p ls T _ (Dw.Same.new s1 (Dw.Same.none s1 hp)) ⟨⟨pF, pT, fs, rs, upd_same, s2 _ _ hF1, tF1.same s2, s2 _ _ hT1, rows1.same s2, hpF, hpT0, n4, fun y hy => ⟨(nr1 y hy).1, (nr1 y hy).2.1, (nr1 y hy).2.2.2⟩⟩, bfs1, by have := bfs1.le; omega⟩
      · have hTl : T.length < ls.length := by omega
        obtain ⟨l, hl⟩ : ∃ l, ls[T.length]? = some l := ⟨_, List.getElem?_eq_getElem hTl⟩
        obtain ⟨b, hb1, hb2⟩ := tF1.get hl
        have hlU : l ∈ U := bfs1.sub l (List.mem_of_getElem? hl)
        walk_at "rd"
        have h64 : 2 ^ w ≤ 64 := Nat.pow_le_pow_right (by decide) hw
        refine ⟨_, .inl (SqL.of hT1), _, SqL.of hF1, V.ref b, by rw [List.length_map, lT]; exact at_map hb1, by decide, fun R hR => ⟨w, rfl, by omega, _, rfl, Int.le_trans (by decide) (Int.natCast_nonneg _), Int.lt_of_le_of_lt (Int.ofNat_le.mpr h64) (by decide), ?_⟩⟩
        rw [Int.toNat_natCast]
        have hR0 : H R = none := Dw.Same.none s1 hR
        have nRF : R ≠ pF := (ne_of_none hF1 hR).symm
        have nRN : R ≠ pN := (ne_of_none hN1 hR).symm
        have nRT : R ≠ pT := (ne_of_none hT1 hR).symm
        have nRr : ∀ y ∈ rs, y ≠ R := fun y hy e => rows1.free hR (e ▸ hy)
        have sR : Same H1 (upd H1 R (.lst [])) := same_upd hR
        refine for_rangeN (fun j σ H2 => ∃ fs2 ls2 row u8 u9, [some (V.ref a0), some (nv w), some (V.ref fA), some (V.ref pF), some (V.ref pN), some (V.ref pT), some (V.ref b), some (V.ref R), u8, u9] = σ ∧ Same H H2 ∧ H2 pF = some (.lst (fs2.map V.ref)) ∧ TupsAt H2 fs2 ls2 ∧ H2 pN = some (.dT (numT 0 ls2)) ∧ H2 pT = some (.lst (rs.map V.ref)) ∧ RowsAt H2 rs (natT T) ∧ H2 b = some (.tup (l.map V.int)) ∧ H2 R = some (.lst (row.map nv)) ∧ RowI gF U ls l j ls2 row) ?_ ?_ ?_
        · exact ⟨fs, ls, [], _, _, rfl, Dw.Same.new s1 hR0, sR _ _ hF1, tF1.same sR, sR _ _ hN1, sR _ _ hT1, rows1.same sR, sR _ _ hb2, upd_same, RowI.zero bfs1.nd bfs1.sub⟩
        · rintro j σ H2 N2 hj ⟨fs2, ls2, row, u8, u9, rfl, s2, hF2, tF2, hD2, hT2, rows2, hb3, hR2, ri⟩ hN2
          have lF2 : fs2.length = ls2.length := tF2.len
          have hlr := ri.len
          have hbd := ri.bound
          walk_at "rd"
          refine ⟨s2 _ _ hf, s2 _ _ hf, s2 _ _ hc, hfol H2 b l j _ _ s2 hb3 hlU hj fun c H3 s3 hc3 => ?_⟩
          have hF3 := s3 _ _ hF2
          have tF3 := tF2.same s3
          have hD3 := s3 _ _ hD2
          have hT3 := s3 _ _ hT2
          have rows3 := rows2.same s3
          have hb4 := s3 _ _ hb3
          have hR3 := s3 _ _ hR2
          have s4 : Same H H3 := s2.trans s3
          refine ⟨_, numT_in hD3 hc3, ?_⟩
          by_cases hm : gF l j ∈ ls2
          · obtain ⟨i, hi, hv⟩ := numT_at 0 ls2 _ hm
            rw [Nat.zero_add] at hv
            have hg := numT_in hD3 hc3
            rw [hv] at hg
            rw [hv, if_neg (by simp)]
            refine ⟨tyL hR3, nv i, hg, _, hR3, smallt (by rw [List.length_map]; omega), hN2 _ _ ⟨fs2, ls2, row ++ [i], _, _, rfl, Dw.Same.new s4 hR0, ?_, tF3.upd hR3 (by nofun), ?_, ?_, rows3.but But.upd nRr, ?_, ?_, ri.old hi⟩⟩
            · rw [upd_ne (Ne.symm nRF)]; exact hF3
            · rw [upd_ne (Ne.symm nRN)]; exact hD3
            · rw [upd_ne (Ne.symm nRT)]; exact hT3
            · rw [upd_ne (ne_of hb4 hR3 (by nofun))]; exact hb4
            · rw [upd_same, List.map_append]; rfl
          · have hlt2 := ri.bound1 hm (hcl2 l hlU j hj)
            have hv := numT_no 0 ls2 _ hm
            rw [hv, if_pos (show (none : Option V).isSome = false from rfl)]
            refine ⟨_, .inl (SqL.of hF3), ?_⟩
            rw [List.length_map, lF2, if_neg (by omega)]
            refine ⟨_, .inl (SqL.of hF3), ?_⟩
            rw [List.length_map, lF2]
            refine ⟨pN, _, rfl, numT_put hD3 hc3 hm (by omega), ?_⟩
            obtain ⟨H4, hH4⟩ : ∃ H4, H4 = upd H3 pN (HO.dT (numT 0 (ls2 ++ [gF l j]))) := ⟨_, rfl⟩
            rw [← hH4]
            have hF4 : H4 pF = some (.lst (fs2.map V.ref)) := by rw [hH4, upd_ne (Ne.symm nNF)]; exact hF3
            obtain ⟨H5, hH5⟩ : ∃ H5, H5 = upd H4 pF (HO.lst (fs2.map V.ref ++ [V.ref c])) := ⟨_, rfl⟩
            have hR5 : H5 R = some (.lst (row.map nv)) := by rw [hH5, upd_ne nRF, hH4, upd_ne nRN]; exact hR3
            have hD5 : H5 pN = some (.dT (numT 0 (ls2 ++ [gF l j]))) := by rw [hH5, upd_ne nNF, hH4, upd_same]
            have s5 : Same H H5 := by rw [hH5, hH4]; exact Dw.Same.new (Dw.Same.new s4 hpN0) hpF
            have nc1 : c ≠ pN := ne_of hc3 hD3 (by nofun)
            have nc2 : c ≠ pF := ne_of hc3 hF3 (by nofun)
            have hc5 : H5 c = some (.tup ((gF l j).map V.int)) := by rw [hH5, upd_ne nc2, hH4, upd_ne nc1]; exact hc3
            have tF5 : TupsAt H5 fs2 ls2 := by rw [hH5, hH4]; exact (tF3.upd hD3 (by nofun)).upd (by rw [← hH4]; exact hF4) (by nofun)
            have hg := numT_in hD5 hc5
            rw [numT_last hm] at hg
            refine ⟨tyL hF4, _, hF4, smallt (by rw [List.length_map]; omega), ?_⟩
            rw [← hH5]
            refine ⟨tyL hR5, _, hg, _, hR5, smallt (by rw [List.length_map]; omega), hN2 _ _ ⟨fs2 ++ [c], ls2 ++ [gF l j], row ++ [ls2.length], _, _, rfl, Dw.Same.new s5 hR0, ?_, (tF5.snoc hc5).upd hR5 (by nofun), ?_, ?_, ?_, ?_, ?_, ri.new hm (hcl2 l hlU j hj)⟩⟩
            · rw [upd_ne (Ne.symm nRF), hH5, upd_same, List.map_append]; rfl
            · rw [upd_ne (Ne.symm nRN)]; exact hD5
            · rw [upd_ne (Ne.symm nRT), hH5, upd_ne n4, hH4, upd_ne n3]; exact hT3
            · rw [hH5, hH4]; exact ((rows3.but But.upd fun y hy => (nr1 y hy).2.2.1).but But.upd fun y hy => (nr1 y hy).2.1).but But.upd nRr
            · have hb5 : H5 b = some (.tup (l.map V.int)) := by rw [hH5, upd_ne (ne_of hb4 hF3 (by nofun)), hH4, upd_ne (ne_of hb4 hD3 (by nofun))]; exact hb4
              rw [upd_ne (ne_of hb5 hR5 (by nofun))]; exact hb5
            · rw [upd_same, List.map_append]; rfl
        · rintro σ H2 ⟨fs2, ls2, row, u8, u9, rfl, s2, hF2, tF2, hN2, hT2, rows2, hb3, hR2, ri⟩
          have hlr := ri.len
          walk_at "rd"
          have hlT : T.length < 400 := by omega
          refine ⟨tyL hT2, _, hT2, smallt (by rw [List.length_map]; omega), hN (U.length - (T.length + 1)) _ _ (by omega) ⟨fs2, rs ++ [R], ls2, T ++ [row], by rw [List.length_append]; rfl, _, _, _, _, rfl, Dw.Same.new s2 hpT0, ?_, tF2.upd hT2 (by nofun), ?_, ?_, ?_, ?_, bfs1.step hl ri⟩⟩
          · rw [upd_ne (Ne.symm n4)]; exact hF2
          · rw [upd_ne (Ne.symm n3)]; exact hN2
          · rw [upd_same, List.map_append]; rfl
          · have e : natT (T ++ [row]) = natT T ++ [row.map fun (x : Nat) => (x : Int)] := by unfold natT; rw [List.map_append]; rfl
            rw [e]
            refine RowsAt.but (RowsAt.snoc rows2 (by rw [List.map_map]; exact hR2)) But.upd fun y hy => ?_
            rcases List.mem_append.mp hy with hy | hy
            · exact (nr1 y hy).2.2.2
            · rw [List.mem_singleton.mp hy]; exact nRT
          · intro y hy
            rcases List.mem_append.mp hy with hy | hy
            · exact nr1 y hy
            · rw [List.mem_singleton.mp hy]; exact ⟨hR0, nRF, nRN, nRT⟩
/-- classes that no letter parts -/
def StabC (T : List (List Int)) (acc : List Bool) (C : List Nat) : Prop := ∃ k, C = cls T acc k ∧ cls T acc (k + 1) = cls T acc k ∧ ∀ i, i < k → cls T acc (i + 1) ≠ cls T acc i
def sp_classes (K : PySem.W.Frag) (CM : Addr) : Sp := fun vs H Q _ => ∃ (m : Addr) (w : Nat) (T : List (List Int)) (acc : List Bool), vs = [.ref m] ∧ MachAt CM H m w T acc ∧ MOk w T acc ∧ ∀ q C H', Same H H' → H' q = some (.lst (C.map nv)) → StabC T acc C → Q (.ref q) H'
theorem c_classes {f : Addr} {fd : FuncData} (D : C8.Def K mg "classes" s_classes f fd) (b : Binds K fd ["machine"] []) {CM : Addr} (c_M : Cls K CM) (n_width : NoAttr K CM "width") (n_table : NoAttr K CM "table") (n_accepting : NoAttr K CM "accepting") (c_rounds : C8.Cal P w K mg base 2 "rounds" (sp_rounds K) []) : C8.Cal P w K mg base 3 "classes" (sp_classes K CM) [] := by
  refine C8.cal0 D b .nil sc_classes (fun vs H Q E h => ?_) (fun cdv A outer s H vs Q E hr h => ?_)
  · obtain ⟨_, _, _, _, rfl, _⟩ := h
    rfl
  · obtain ⟨m, w0, T, acc, rfl, M, hk, ok⟩ := h
    refine ⟨_, (pss_one (ps_ret (pe_ix (ixL K) (C8.pe_c c_rounds hr (by decide) (by rfl) (pa_cons (pe_fd K (pv 0) (by rfl)) (pa_cons (pe_fd K (pv 0) (by rfl)) pa_nil))) (pe_un un_neg pe_int) (fun _ _ => rfl)))), ?_⟩
    walk_at "rd"
    obtain ⟨dx, tA, mA, rs, v1, v2, v3, v4⟩ := M.ex
    refine fld_of c_M n_table v1 (mf_t _ _ _) ?_
    refine fld_of c_M n_accepting v1 (mf_a _ _ _) ?_
    have h64 : 2 ^ w0 ≤ 2 ^ 6 := Nat.pow_le_pow_right (by decide) hk.w6
    refine ⟨tA, mA, rs, 2 ^ w0, T, acc, rfl, v2, v3, v4, hk.al, by have := hk.le; omega, h64, hk.good, fun p qs k H' s' hp ep hql hqs hst hne => ?_⟩
    obtain ⟨qL, hqL⟩ : ∃ q, qs[k]? = some q := ⟨_, List.getElem?_eq_getElem (by omega)⟩
    have hat : atI (qs.map V.ref) (-1) = some (.ref qL) := by
      have hne0 : qs ≠ [] := fun e => by rw [e] at hql; cases hql
      obtain ⟨r, x, rfl⟩ := snoc_of hne0
      rw [List.map_append]
      rw [List.length_append] at hql
      have h1 : [x].length = 1 := rfl
      have : (r ++ [x])[k]? = some x := by
        rw [List.getElem?_append_right (by omega), show k - r.length = 0 by omega]
        rfl
      rw [hqL] at this
      cases this
      exact atI_last _ _
    exact ⟨_, rfl, _, SqL.of ep, _, hat, ok qL _ H' s' (hqs k qL hqL) ⟨k, rfl, hst, hne⟩⟩
/-- where a class leads -/
def gC (T : List (List Int)) (C : List Nat) (x : Int) (j : Nat) : Int := ((C.getD (nxt T (ixL1 x.toNat C) j) 0 : Nat) : Int)
def MemOk (C : List Nat) (kvs : List (L2.Key × V)) : Prop := ∀ s, s < C.length → ∃ t, t < C.length ∧ C.getD t 0 = C.getD s 0 ∧ valV kvs (.inl ((C.getD s 0 : Nat) : Int)) = some (nv t)
section
variable {w : Nat} {T : List (List Int)} {acc : List Bool} {C : List Nat}
theorem StabC.len (h : StabC T acc C) (hal : acc.length = T.length) : C.length = T.length := by
  obtain ⟨k, rfl, _⟩ := h
  exact cls_len hal k
/-- alike states have alike successors and one mark -/
theorem StabC.alike (h : StabC T acc C) (hal : acc.length = T.length) {s t : Nat} (hs : s < T.length) (ht : t < T.length) (e : C.getD s 0 = C.getD t 0) : acc.getD s false = acc.getD t false ∧ (T.getD s []).map (fun q => C.getD q.toNat 0) = (T.getD t []).map fun q => C.getD q.toNat 0 := by
  obtain ⟨k, rfl, hst, _⟩ := h
  have e1 : cN (sg T acc (k + 1)) s = cN (sg T acc (k + 1)) t := by rw [← cls_getD, ← cls_getD, hst]; exact e
  have e2 := (cN_iff (sg_succ hs) (sg_succ ht)).mp e1
  obtain ⟨_, e3⟩ := List.cons.inj e2
  refine ⟨?_, ?_⟩
  · have down : ∀ i, cN (sg T acc i) s = cN (sg T acc i) t → acc.getD s false = acc.getD t false := fun i => by
      induction i with
      | zero =>
        intro e
        have hs' : s < acc.length := by omega
        have ht' : t < acc.length := by omega
        have a1 : (sg T acc 0)[s]? = some [if acc.getD s false = true then (1 : Int) else 0] := by
          show (acc.map _)[s]? = _
          rw [List.getElem?_map, List.getD_eq_getElem?_getD, List.getElem?_eq_getElem hs']; rfl
        have a2 : (sg T acc 0)[t]? = some [if acc.getD t false = true then (1 : Int) else 0] := by
          show (acc.map _)[t]? = _
          rw [List.getElem?_map, List.getD_eq_getElem?_getD, List.getElem?_eq_getElem ht']; rfl
        have e4 := (List.cons.inj ((cN_iff a1 a2).mp e)).1
        cases h1 : acc.getD s false <;> cases h2 : acc.getD t false <;> rw [h1, h2] at e4 <;> first | rfl | (simp at e4)
      | succ i ih =>
        intro e
        have e4 := (cN_iff (sg_succ hs) (sg_succ ht)).mp e
        exact ih (Int.ofNat.inj (List.cons.inj e4).1)
    exact down k (by rw [← cls_getD, ← cls_getD]; exact e)
  · have e5 := congrArg (List.map Int.toNat) e3
    rw [List.map_map, List.map_map] at e5
    simp only [cls_getD]
    exact e5
theorem StabC.next (h : StabC T acc C) (k : MOk w T acc) {s t j : Nat} (hs : s < T.length) (ht : t < T.length) (hj : j < 2 ^ w) (e : C.getD s 0 = C.getD t 0) : C.getD (nxt T s j) 0 = C.getD (nxt T t j) 0 := by
  have e2 := (h.alike k.al hs ht e).2
  obtain ⟨r, er, ej, _⟩ := goodT_at k.good hs hj
  obtain ⟨r', er', ej', _⟩ := goodT_at k.good ht hj
  have d1 : T.getD s [] = r := by rw [List.getD_eq_getElem?_getD, er]; rfl
  have d2 : T.getD t [] = r' := by rw [List.getD_eq_getElem?_getD, er']; rfl
  rw [d1, d2] at e2
  have e3 := congrArg (fun l => l[j]?) e2
  simp only [List.getElem?_map, ej, ej', Option.map_some] at e3
  simpa using e3
theorem ix_mem {x : Nat} : ∀ {C : List Nat}, x ∈ C → ixL1 x C < C.length ∧ C.getD (ixL1 x C) 0 = x
  | y :: C, h => by
    unfold ixL1
    by_cases e : y = x
    · rw [if_pos e]
      exact ⟨Nat.succ_pos _, e⟩
    · rw [if_neg e]
      obtain ⟨h1, h2⟩ := ix_mem ((List.mem_cons.mp h).resolve_left fun z => e z.symm)
      exact ⟨Nat.succ_lt_succ h1, h2⟩
/-- the labels: the classes of states -/
def clsU (C : List Nat) : List Int := C.map fun x => ((x : Nat) : Int)
theorem mem_clsU {l : Int} : l ∈ clsU C ↔ ∃ s, s < C.length ∧ l = ((C.getD s 0 : Nat) : Int) := by
  unfold clsU
  rw [List.mem_map]
  constructor
  · rintro ⟨x, hx, rfl⟩
    obtain ⟨h1, h2⟩ := ix_mem hx
    exact ⟨_, h1, by rw [h2]⟩
  · rintro ⟨s, hs, rfl⟩
    exact ⟨C.getD s 0, by rw [List.getD_eq_getElem?_getD, List.getElem?_eq_getElem hs]; exact List.getElem_mem hs, rfl⟩
theorem gC_at (h : StabC T acc C) (k : MOk w T acc) {s j : Nat} (hs : s < T.length) (hj : j < 2 ^ w) : gC T C ((C.getD s 0 : Nat) : Int) j = ((C.getD (nxt T s j) 0 : Nat) : Int) := by
  have hl := h.len k.al
  unfold gC
  rw [Int.toNat_natCast]
  obtain ⟨h1, h2⟩ := ix_mem (x := C.getD s 0) (C := C) (by rw [List.getD_eq_getElem?_getD, List.getElem?_eq_getElem (by omega)]; exact List.getElem_mem _)
  rw [h.next k (by omega) hs hj h2]
theorem gC_in (h : StabC T acc C) (k : MOk w T acc) {l : Int} (hlU : l ∈ clsU C) {j : Nat} (hj : j < 2 ^ w) : gC T C l j ∈ clsU C := by
  have hl := h.len k.al
  obtain ⟨s, hs, rfl⟩ := mem_clsU.mp hlU
  rw [gC_at h k (by omega) hj]
  obtain ⟨_, _, _, h3⟩ := goodT_at k.good (show s < T.length by omega) hj
  exact mem_clsU.mpr ⟨_, by omega, rfl⟩
end
def sp_followC (CM : Addr) (ws : List (Option V)) : Sp := fun vs H Q _ => ∃ (fA mA dA : Addr) (w : Nat) (T : List (List Int)) (acc : List Bool) (C : List Nat) (kvs : List (L2.Key × V)) (s j : Nat), ws = [some (.ref fA), some (.ref mA), some (.ref dA)] ∧ vs = [.int ((C.getD s 0 : Nat) : Int), nv j] ∧ H fA = some (.lst (C.map nv)) ∧ MachAt CM H mA w T acc ∧ MOk w T acc ∧ H dA = some (.dK kvs) ∧ MemOk C kvs ∧ StabC T acc C ∧ s < T.length ∧ j < 2 ^ w ∧ Q (.int (gC T C ((C.getD s 0 : Nat) : Int) j)) H
theorem n_least_with_map_follow {q : Str} {cl : List (Str × Addr)} {c' : Addr} {CM : Addr} (c_M : Cls K CM) (n_width : NoAttr K CM "width") (n_table : NoAttr K CM "table") (n_accepting : NoAttr K CM "accepting") : ∀ f, NdefX.NOk P w K mg base (L2.CX P w) 2 f (NdefX.NF.of s_least_with_map_follow "follow" q cl c') ["each", "letter"] ["found", "machine", "members"] (sp_followC CM) := by
  intro f
  refine NdefX.nok_of sc_least_with_map_follow (fun _ _ _ us hl => match us, hl with | [_, _], _ => rfl) (fun ws vs H Q E h => ?_) (fun A outer s H vs ws Q E hr hf0 hc0 hws h => ?_)
  · obtain ⟨_, _, _, _, _, _, _, _, _, _, _, rfl, _⟩ := h
    rfl
  · obtain ⟨fA, mA, dA, w0, T, acc, C, kvs, s0, j, rfl, rfl, hf, M, hk, hd, hme, hst, hs, hj, ok⟩ := h
    refine ⟨_, (pss_one (ps_ret (pe_ix (ixL K) (pv 2) (pe_ix (ixL K) (pe_ix (ixL K) (pe_fd K (pv 3) (by rfl)) (pe_dget (hu1 hr) (pv 4) (pv 0) (fun _ _ => rfl)) (fun _ _ => rfl)) (pv 1) (fun _ _ => rfl)) (fun _ _ => rfl)))), ?_⟩
    walk_at "rd"
    have hCl := hst.len hk.al
    obtain ⟨dx, tA, bA, rs, v1, v2, v3, v4⟩ := M.ex
    obtain ⟨t, ht, htc, hval⟩ := hme s0 (by omega)
    have hgt : DGet H dA (.int ((C.getD s0 0 : Nat) : Int)) (valV kvs (.inl ((C.getD s0 0 : Nat) : Int))) := DGet.k (k := .inl ((C.getD s0 0 : Nat) : Int)) hd
    rw [hval] at hgt
    obtain ⟨r, er, ej, hlt⟩ := goodT_at hk.good (show t < T.length by omega) hj
    obtain ⟨ra, hra⟩ : ∃ ra, rs[t]? = some ra := ⟨_, List.getElem?_eq_getElem (by rw [v3.len]; omega)⟩
    have era := v3.at_ t ra r hra er
    have hCn : C[nxt T t j]? = some (C.getD (nxt T t j) 0) := by rw [List.getD_eq_getElem?_getD, List.getElem?_eq_getElem (by omega)]; rfl
    rw [gC_at hst hk hs hj, ← hst.next hk (show t < T.length by omega) hs hj htc] at ok
    exact fld_of c_M n_table v1 (mf_t _ _ _) ⟨nv t, hgt, tA, rfl, _, _, rfl, SqL.of v2, _, at_map hra, ra, rfl, _, SqL.of era, _, at_map ej, _, _, rfl, SqL.of hf, _, at_map hCn, ok⟩
def qC : Str := (envOfC "least_with_map" (C8.fnScope s_least_with_map) 0 0 .none).qual ++ Str.ofString "follow"
def nmC : Nat → Nat → Str := fun _ _ => qC
theorem stab_ex (T : List (List Int)) (acc : List Bool) (hal : acc.length = T.length) : ∃ C, StabC T acc C := by
  have : ∀ n i, T.length + 1 - nC (sg T acc i) ≤ n → (∀ j, j < i → cls T acc (j + 1) ≠ cls T acc j) → ∃ C, StabC T acc C := by
    intro n
    induction n with
    | zero => intro i h _; have := cls_bound (T := T) (acc := acc) hal i; omega
    | succ n ih =>
      intro i h hne
      by_cases e : cls T acc (i + 1) = cls T acc i
      · exact ⟨_, i, rfl, e, hne⟩
      · have := cls_more hal e
        refine ih (i + 1) (by omega) fun j hj => ?_
        by_cases e2 : j = i
        · rw [e2]; exact e
        · exact hne j (by omega)
  exact this _ 0 (Nat.le_refl _) fun j hj => absurd hj (Nat.not_lt_zero _)
theorem stab_one {T : List (List Int)} {acc : List Bool} (hal : acc.length = T.length) {C C' : List Nat} (h : StabC T acc C) (h' : StabC T acc C') : C = C' := by
  obtain ⟨k, rfl, e, ne⟩ := h
  obtain ⟨k', rfl, e', ne'⟩ := h'
  rcases Nat.lt_trichotomy k k' with z | z | z
  · exact absurd e (ne' k z)
  · rw [z]
  · exact absurd e' (ne k' z)
/-- the mark of a class -/
def fC (acc : List Bool) (C : List Nat) (x : Int) : Bool := acc.getD (ixL1 x.toNat C) false
theorem fC_at {w : Nat} {T : List (List Int)} {acc : List Bool} {C : List Nat} (h : StabC T acc C) (k : MOk w T acc) {s : Nat} (hs : s < T.length) : fC acc C ((C.getD s 0 : Nat) : Int) = acc.getD s false := by
  have hl := h.len k.al
  unfold fC
  rw [Int.toNat_natCast]
  obtain ⟨h1, h2⟩ := ix_mem (x := C.getD s 0) (C := C) (by rw [List.getD_eq_getElem?_getD, List.getElem?_eq_getElem (by omega)]; exact List.getElem_mem _)
  exact (h.alike k.al (by omega) hs h2).1
/-- the place of a class among the classes found -/
def posC (ls : List Int) (x : Int) : Option Nat := if x ∈ ls then some (ixL1 x ls) else none
def sp_lwm (CM : Addr) (TBL : List NdefX.NTab) : Sp := fun vs H Q E => ∃ (m : Addr) (L : List Addr) (w : Nat) (T : List (List Int)) (acc : List Bool), vs = [.ref m] ∧ MachP CM H L m w T acc ∧ MOk w T acc ∧ NdefX.TabsN TBL H ∧
  ∀ C z m' pl L' ls T3 H', StabC T acc C → ExtT H H' → NdefX.TabsN TBL H' → H z = none → H' z = some (.tup [.ref m', .ref pl]) → MachP CM H' L' m' w (natT T3) (ls.map (fC acc C)) → (∀ a ∈ L', H a = none) → MOk w (natT T3) (ls.map (fC acc C)) → BfsI (gC T C) (clsU C) (2 ^ w) ((C.getD 0 0 : Nat) : Int) ls T3 → T3.length = ls.length → H pl = none → H' pl = some (.lst (C.map fun (x : Nat) => oV (posC ls ((x : Nat) : Int)))) → Q (.ref z) H'
theorem c_least_with_map {f c PtC : Addr} {oc kV doc pm ct : Value} {od an : Option Addr} {osl : Array (Option Value)} (lk : K.lookup f = some ⟨oc, od, .func (PySem.W.fnOf "least_with_map" "least_with_map" (C8.fnArgs s_least_with_map) (C8.fnBody s_least_with_map) (C8.fnScope s_least_with_map) .none kV doc pm an (.ref c) ct), osl⟩) (hcd : PySem.W.codeIn K (.ref c) "least_with_map" = true) (hmg : mg "least_with_map" = some (.ref f)) (kp : PySem.W.keepIn K (.ref f) = true)
    (b : Binds K (PySem.W.fnOf "least_with_map" "least_with_map" (C8.fnArgs s_least_with_map) (C8.fnBody s_least_with_map) (C8.fnScope s_least_with_map) .none kV doc pm an (.ref c) ct) ["machine"] []) (TB : LamX.TabB base mg c PtC) {TBL : List NdefX.NTab} (hmem_lwm : (PtC, nmC) ∈ TBL) (huni_lwm : ∀ p ∈ TBL, p.1 = PtC → p.2 = nmC) {CM : Addr} (c_M : Cls K CM) (n_width : NoAttr K CM "width") (n_table : NoAttr K CM "table") (n_accepting : NoAttr K CM "accepting") {COv : Addr} (c_classes : C8.Cal P w K mg base 3 "classes" (sp_classes K CM) []) (z_enumerate : mg "enumerate" = none) (k_Machine : C8.Mak P w K mg base 3 "Machine" CM (sp_minit CM) []) (cC_reached : ∀ (cl : List (Str × Addr)) (ws : List (Option V)) (T : List (List Int)) (C : List Nat) (q : Str), CalG P w K mg base 3 "reached" (CbG cl ["found", "machine", "members"] ws) (sp_reachedI COv (NdefX.NF.of s_least_with_map_follow "follow" q cl) (gC T C) (sp_followC CM ws))) : CalX P w K mg base 5 "least_with_map" (sp_lwm CM TBL) := by
  refine calXK lk hcd hmg kp b sc_least_with_map (fun vs H Q E h => ?_) (fun A outer s H vs Q E hr h => ?_)
  · obtain ⟨_, _, _, _, _, rfl, _⟩ := h
    rfl
  · obtain ⟨m, L, w0, T, acc, rfl, hm, hk, htb, ok⟩ := h
    obtain ⟨C, hC⟩ : ∃ C : List Nat, StabC T acc C := stab_ex T acc hk.al
    refine ⟨_, (pss_cons (ps_set (i := 6) sc_least_with_map.nd rfl (by first | exact Or.inl rfl | exact Or.inr rfl) (C8.pe_c c_classes hr (by decide) (by rfl) (pa_cons (pv 0) pa_nil))) (pss_cons (ps_set (i := 7) sc_least_with_map.nd rfl (by first | exact Or.inl rfl | exact Or.inr rfl) (pe_dc (own := [("state", 8), ("each", 9)]) (g := (gTup K 2 (gCons (gName 8) (gCons (gName 9) gNil)))) (tt := tYes) rfl sc_least_with_map.nd (piE K (by rfl) z_enumerate (pa_cons (pv 6) pa_nil)) (blkOk_by (N := N_least_with_map) (sc := C8.fnScope s_least_with_map) (by decide +kernel)) (fun _ _ _ _ _ => (pg_tup (n := 2) rfl (pgs_cons (pg_name (i := 8) sc_least_with_map.nd rfl (by first | exact Or.inl rfl | exact Or.inr rfl)) (pgs_cons (pg_name (i := 9) sc_least_with_map.nd rfl (by first | exact Or.inl rfl | exact Or.inr rfl)) pgs_nil)))) (fun _ _ _ _ _ => pts_nil) (fun _ _ _ _ _ => (pv 9)) (fun _ _ _ _ _ => (pv 8)))) (pss_cons (NdefX.ps_ndefMS (st := s_least_with_map_follow) (T := TBL) (i := 1) (nm := nmC) rfl TB rfl hmem_lwm rfl huni_lwm (NdefX.ndef_free (by decide +kernel : NdefX.ndefB (C8.fnScope s_least_with_map) (C8.fnScope s_least_with_map_follow) ["found", "machine", "members"] = true)) rfl rfl rfl sc_least_with_map.nd rfl (Or.inl rfl) (Or.inl rfl)) (pss_cons (ps_asg (pe_cG (js := [6, 0, 7]) (sp := fun ws => sp_reachedI COv (NdefX.NF.of s_least_with_map_follow "follow" qC _) (gC T C) (sp_followC CM ws)) (fun ws => cC_reached _ ws T C qC) (fun ok => NdefX.Caps.made ok (NdefX.ndef_free (by decide +kernel : NdefX.ndefB (C8.fnScope s_least_with_map) (C8.fnScope s_least_with_map_follow) ["found", "machine", "members"] = true)) (NdefX.ndef_fr (by decide +kernel : NdefX.ndefB (C8.fnScope s_least_with_map) (C8.fnScope s_least_with_map_follow) ["found", "machine", "members"] = true)) rfl) (fun _ => rfl) hr (by decide) (passes_call (takes_of rfl rfl rfl rfl) (fun _ _ _ _ h => h)) (by rfl) (pa_cons (pe_ix (ixL K) (pv 6) pe_int (fun _ _ => rfl)) (pa_cons (pe_fd K (pv 0) (by rfl)) (pa_cons (pv 1) pa_nil)))) (pg_tup (n := 2) rfl (pgs_cons (pg_name (i := 2) sc_least_with_map.nd rfl (by first | exact Or.inl rfl | exact Or.inr rfl)) (pgs_cons (pg_name (i := 3) sc_least_with_map.nd rfl (by first | exact Or.inl rfl | exact Or.inr rfl)) pgs_nil)))) (pss_cons (ps_set (i := 4) sc_least_with_map.nd rfl (by first | exact Or.inl rfl | exact Or.inr rfl) (pe_dc (own := [("number", 10), ("each", 9)]) (g := (gTup K 2 (gCons (gName 10) (gCons (gName 9) gNil)))) (tt := tYes) rfl sc_least_with_map.nd (piE K (by rfl) z_enumerate (pa_cons (pv 2) pa_nil)) (blkOk_by (N := N_least_with_map) (sc := C8.fnScope s_least_with_map) (by decide +kernel)) (fun _ _ _ _ _ => (pg_tup (n := 2) rfl (pgs_cons (pg_name (i := 10) sc_least_with_map.nd rfl (by first | exact Or.inl rfl | exact Or.inr rfl)) (pgs_cons (pg_name (i := 9) sc_least_with_map.nd rfl (by first | exact Or.inl rfl | exact Or.inr rfl)) pgs_nil)))) (fun _ _ _ _ _ => pts_nil) (fun _ _ _ _ _ => (pv 9)) (fun _ _ _ _ _ => (pv 10)))) (pss_cons (ps_set (i := 5) sc_least_with_map.nd rfl (by first | exact Or.inl rfl | exact Or.inr rfl) (C8.pe_mk k_Machine hr (by decide) (by rfl) (pa_cons (pe_fd K (pv 0) (by rfl)) (pa_cons (pv 3) (pa_cons (pe_lc (own := [("each", 9)]) (g := (gName 9)) (tt := tYes) rfl sc_least_with_map.nd (piL K (pv 2)) (blkOk_by (N := N_least_with_map) (sc := C8.fnScope s_least_with_map) (by decide +kernel)) (fun _ _ _ _ _ => (pg_name (i := 9) sc_least_with_map.nd rfl (by first | exact Or.inl rfl | exact Or.inr rfl))) (fun _ _ _ _ _ => pts_nil) (fun _ _ _ _ _ => (pe_ix (ixL K) (pe_fd K (pv 0) (by rfl)) (pe_dget (hu1 hr) (pv 7) (pv 9) (fun _ _ => rfl)) (fun _ _ => rfl)))) pa_nil))))) (pss_one (ps_ret (pe_tup (pa_cons (pv 5) (pa_cons (pe_lc (own := [("each", 9)]) (g := (gName 9)) (tt := tYes) rfl sc_least_with_map.nd (piL K (pv 6)) (blkOk_by (N := N_least_with_map) (sc := C8.fnScope s_least_with_map) (by decide +kernel)) (fun _ _ _ _ _ => (pg_name (i := 9) sc_least_with_map.nd rfl (by first | exact Or.inl rfl | exact Or.inr rfl))) (fun _ _ _ _ _ => pts_nil) (fun _ _ _ _ _ => (pe_dget1 (hu1 hr) (pv 4) (pv 9) ⟨rfl, rfl, rfl, rfl⟩))) pa_nil))))))))))), ?_⟩
    walk_at "rd"
    refine ⟨m, w0, T, acc, rfl, hm.at_, hk, fun qL C' H1 s1 eL hst => ?_⟩
    obtain rfl : C' = C := stab_one hk.al hst hC
    have hCl := hst.len hk.al
    have hT4 := hk.le
    have hpos := hk.pos
    have eLi : H1 qL = some (.lst ((C'.map fun (n : Nat) => ((n : Nat) : Int)).map V.int)) := by rw [← nv_map]; exact eL
    refine ⟨qL, rfl, _, SqL.of eL, fun D1 hD1 => dc_enum (ns := C'.map fun (n : Nat) => ((n : Nat) : Int)) hD1 (by rw [List.length_map]; omega) (SqL.of eLi) ?_ fun H2 s2 eD2 => ?_⟩
    · rintro i x T' H6 N hx s6 hT' hN
      have h := hN _ (Same.refl _)
      walk_at "rd"
      exact ⟨_, SqT.of upd_same, rfl, _, _, rfl, _, _, rfl, rfl, h⟩
    have tb2 := (htb.ext s1).ext s2
    refine ⟨tb2, fun fA c' H3 x3 n3 tb3 hfA hf3 hc3 => ?_⟩
    have X23 : ExtT H2 H3 := ⟨x3, n3⟩
    have X3 : ExtT H H3 := (ExtT.of (s1.trans s2)).trans X23
    have eL3 := X23.lst (s2 _ _ eL)
    have eD3 : H3 D1 = some (.dK (dkF (C'.map fun (n : Nat) => ((n : Nat) : Int))).2) := X23.keep D1 _ eD2 (fun _ h => by cases h)
    have hm3 := hm.ext X3
    have hC0 : C'[0]? = some (C'.getD 0 0) := by rw [List.getD_eq_getElem?_getD, List.getElem?_eq_getElem (by omega)]; rfl
    have hmem : MemOk C' (dkF (C'.map fun (n : Nat) => ((n : Nat) : Int))).2 := fun s0 hs0 => by
      obtain ⟨t, h1, h2⟩ := dkF_at (C'.map fun (n : Nat) => ((n : Nat) : Int)) ((C'.getD s0 0 : Nat) : Int) (List.mem_map.mpr ⟨C'.getD s0 0, by rw [List.getD_eq_getElem?_getD, List.getElem?_eq_getElem hs0]; exact List.getElem_mem hs0, rfl⟩)
      rw [List.getElem?_map] at h1
      obtain ⟨y, hy, ey⟩ := Option.map_eq_some_iff.mp h1
      exact ⟨t, (List.getElem?_eq_some_iff.mp hy).1, by rw [List.getD_eq_getElem?_getD, hy]; exact Int.ofNat.inj ey, h2⟩
    refine ⟨qL, rfl, _, SqL.of eL3, _, at_map (i := 0) hC0, ?_⟩
    obtain ⟨dx3, t3, b3, rs3, _, q1, q2, q3, q4⟩ := id hm3
    refine fld_of c_M n_width q1 (mf_w _ _ _) ?_
    have hU0 : ((C'.getD 0 0 : Nat) : Int) ∈ clsU C' := mem_clsU.mpr ⟨0, by omega, rfl⟩
    have hUl : (clsU C').length ≤ 400 := by unfold clsU; rw [List.length_map]; omega
    refine ⟨fA, c', w0, _, clsU C', rfl, hf3, hc3, hk.w6, hU0, fun l hl j hj => gC_in hst hk hl hj, ?_, fun ls T0 l j ls2 row bf hl ri hj h4 hno => absurd (ri.bound1 hno (gC_in hst hk (bf.sub _ (List.mem_of_getElem? hl)) hj)) (by omega), fun p ls T3 H5 s5 h400 r5 => ?_⟩
    · intro H5 l j Q1 E1 s5 hl hj ok1
      obtain ⟨s0, hs0, rfl⟩ := mem_clsU.mp hl
      exact ⟨qL, m, D1, w0, T, acc, C', _, s0, j, rfl, rfl, s5 _ _ eL3, (hm3.same s5).at_, hk, s5 _ _ eD3, hmem, hst, by omega, hj, ok1 _ (Same.refl _)⟩
    obtain ⟨f5, t5, rs, hp5, hf5, ht5, rows5, f0, t0, ntf, nr5⟩ := r5.ex
    have X5 : ExtT H H5 := X3.trans (ExtT.of s5)
    refine ⟨p, rfl, _, SqT.of hp5, rfl, _, _, rfl, _, _, rfl, rfl, f5, rfl, _, SqL.of hf5, fun D2 hD2 => dc_enum (ns := ls) hD2 (by omega) (SqL.of hf5) ?_ fun H6 s6 eD6 => ?_⟩
    · rintro i x T' H6 N hx s6 hT' hN
      have h := hN _ (Same.refl _)
      walk_at "rd"
      exact ⟨_, SqT.of upd_same, rfl, _, _, rfl, _, _, rfl, rfl, h⟩
    have X6 := X5.trans (ExtT.of s6)
    have hm6 := (hm3.same s5).same s6
    obtain ⟨dx6, t6, b6, rs6, _, w1, w2, w3, w4⟩ := id hm6
    have hf6 := s6 _ _ hf5
    have eD6m : H6 D1 = some (.dK (dkF (C'.map fun (n : Nat) => ((n : Nat) : Int))).2) := s6 _ _ (s5 _ _ eD3)
    refine fld_of c_M n_width w1 (mf_w _ _ _) ?_
    refine ⟨f5, rfl, ⟨_, SqL.of hf6⟩, fun D3 hD3 => lc_map (walk_list (xs := ls.map V.int)) (fun i => .bl (fC acc C' (ls.getD i 0))) (by rw [List.length_map]; omega) hD3 (fun H7 s7 => s7.seq (SqL.of hf6)) ?_ fun H7 s7 e7 => ?_⟩
    · rintro i x H7 H8 N hi s7 ⟨rfl, ex0⟩ hN
      rw [List.getElem?_map] at ex0
      obtain ⟨l, hl, rfl⟩ := Option.map_eq_some_iff.mp ex0
      obtain ⟨s0, hs0, el⟩ := mem_clsU.mp (r5.bfs.sub l (List.mem_of_getElem? hl))
      obtain ⟨t, ht, htc, hval⟩ := hmem s0 hs0
      have h := hN _ (Same.refl _)
      rw [List.getD_eq_getElem?_getD (l := ls), hl, Option.getD_some] at h
      have hfc : fC acc C' l = acc.getD t false := by
        rw [el, fC_at hst hk (by omega)]
        exact (hst.alike hk.al (by omega) (by omega) htc).1.symm
      have hat : acc[t]? = some (acc.getD t false) := by
        rw [List.getD_eq_getElem?_getD, List.getElem?_eq_getElem (by rw [hk.al]; omega)]; rfl
      have hgt : DGet H8 D1 (.int l) (valV (dkF (C'.map fun (n : Nat) => ((n : Nat) : Int))).2 (.inl l)) := DGet.k (k := .inl l) (s7 _ _ eD6m)
      rw [show valV (dkF (C'.map fun (n : Nat) => ((n : Nat) : Int))).2 (.inl l) = some (nv t) by rw [el]; exact hval] at hgt
      rw [hfc] at h
      walk_at "rd"
      exact fld_of c_M n_accepting (s7 _ _ w1) (mf_a _ _ _) ⟨nv t, hgt, b6, rfl, _, _, rfl, SqL.of (s7 _ _ w4), _, at_map hat, h⟩
    have e3 : (List.range (ls.map V.int).length).map (fun i => V.bl (fC acc C' (ls.getD i 0))) = (ls.map (fC acc C')).map V.bl := by
      refine List.ext_getElem (by simp) fun i p1 p2 => ?_
      have hi : i < ls.length := by simpa using p1
      simp only [List.getElem_map, List.getElem_range]
      rw [List.getD_eq_getElem?_getD (l := ls), List.getElem?_eq_getElem hi]
      rfl
    rw [e3] at e7
    have mk : MOk w0 (natT T3) (ls.map (fC acc C')) := mok_bfs hk.w6 r5.bfs r5.all h400 fun l hl => by
      obtain ⟨s0, hs0, rfl⟩ := mem_clsU.mp hl
      obtain ⟨_, _, _, hn0⟩ := goodT_at hk.good (show s0 < T.length by omega) (Nat.two_pow_pos w0)
      rw [gC_at hst hk (by omega) (Nat.two_pow_pos w0), fC_at hst hk (by omega), fC_at hst hk hn0]
      exact accD_set hk (by omega)
    intro x1 dx hx hdx ndx
    have X7 := X6.trans (ExtT.of s7)
    have s8 : Same H7 (upd (upd H7 dx (HO.own x1)) x1 (HO.ins CM dx [])) := same2 hx hdx
    refine ⟨x1, dx, t5, D3, rs, w0, natT T3, ls.map (fC acc C'), rfl, upd_same, s8 _ _ (s7 _ _ (s6 _ _ ht5)), ((rows5.same s6).same s7).same s8, s8 _ _ e7, mk, fun H8 b8 n8 => ⟨rfl, ?_⟩⟩
    have s78 := same_mk (fun _ _ e => e) hx hdx b8
    obtain ⟨L8, mp8, fr8⟩ := n8.parts
    have X8 := X7.trans (ExtT.of s78)
    have eL8 := s78 _ _ (s7 _ _ (s6 _ _ (s5 _ _ eL3)))
    have eD8 := s78 _ _ (s7 _ _ eD6)
    refine ⟨qL, rfl, ⟨_, SqL.of eL8⟩, fun D4 hD4 => lc_map (walk_list (xs := C'.map nv)) (fun i => oV (posC ls ((C'.getD i 0 : Nat) : Int))) (by rw [List.length_map]; omega) hD4 (fun H9 s9 => s9.seq (SqL.of eL8)) ?_ fun H9 s9 e9 => ?_⟩
    · rintro i x H9 Ha N hi s9 ⟨rfl, ex0⟩ hN
      rw [List.getElem?_map] at ex0
      obtain ⟨y, hy, rfl⟩ := Option.map_eq_some_iff.mp ex0
      have h := hN _ (Same.refl _)
      rw [List.getD_eq_getElem?_getD (l := C'), hy, Option.getD_some] at h
      have eD9 := s9 _ _ eD8
      have hgt : DGet Ha D2 (.int ((y : Nat) : Int)) (valV (dkF ls).2 (.inl ((y : Nat) : Int))) := DGet.k (k := .inl ((y : Nat) : Int)) eD9
      walk_at "rd"
      refine ⟨.inl ⟨_, .inl eD9⟩, _, hgt, ?_⟩
      by_cases hyl : ((y : Nat) : Int) ∈ ls
      · obtain ⟨t, h1, h2⟩ := dkF_at ls _ hyl
        have hp : posC ls ((y : Nat) : Int) = some t := by unfold posC; rw [if_pos hyl, ix_at r5.bfs.nd h1]
        rw [hp] at h
        rw [h2]
        exact h
      · have hp : posC ls ((y : Nat) : Int) = none := by unfold posC; rw [if_neg hyl]
        rw [hp] at h
        rw [dkF_no ls _ hyl]
        exact h
    have e4 : (List.range (C'.map nv).length).map (fun i => oV (posC ls ((C'.getD i 0 : Nat) : Int))) = C'.map fun (x : Nat) => oV (posC ls ((x : Nat) : Int)) := by
      refine List.ext_getElem (by simp) fun i p1 p2 => ?_
      have hi : i < C'.length := by simpa using p1
      simp only [List.getElem_map, List.getElem_range]
      rw [List.getD_eq_getElem?_getD (l := C'), List.getElem?_eq_getElem hi]
      rfl
    rw [e4] at e9
    refine ⟨by decide, fun z hz => ?_⟩
    have sz : Same H9 (upd H9 z (HO.tup [V.ref x1, V.ref D4])) := same_upd hz
    have fr : ∀ a ∈ L8, H a = none := fun a ha => by
      rcases fr8 a ha with rfl | e
      · exact X7.free _ hx
      · exact X7.free _ (Dw.Same.none s8 e)
    have X9 := X8.trans (ExtT.of s9)
    exact ok C' z x1 D4 L8 ls T3 _ hst (X9.trans (ExtT.of sz)) (((((tb3.ext s5).ext s6).ext s7).ext s78).ext (s9.trans sz)) (X9.free _ hz) upd_same (mp8.same (s9.trans sz)) fr mk r5.bfs r5.all (X8.free _ hD4) (sz _ _ e9)
def sp_least (CM : Addr) (TBL : List NdefX.NTab) : Sp := fun vs H Q E => ∃ (m : Addr) (L : List Addr) (w : Nat) (T : List (List Int)) (acc : List Bool), vs = [.ref m] ∧ MachP CM H L m w T acc ∧ MOk w T acc ∧ NdefX.TabsN TBL H ∧
  ∀ C m' L' ls T3 H', StabC T acc C → ExtT H H' → NdefX.TabsN TBL H' → MachP CM H' L' m' w (natT T3) (ls.map (fC acc C)) → (∀ a ∈ L', H a = none) → MOk w (natT T3) (ls.map (fC acc C)) → BfsI (gC T C) (clsU C) (2 ^ w) ((C.getD 0 0 : Nat) : Int) ls T3 → T3.length = ls.length → Q (.ref m') H'
theorem c_least {f : Addr} {fd : FuncData} (D : C8.Def K mg "least" s_least f fd) (b : Binds K fd ["machine"] []) {CM : Addr} {TBL : List NdefX.NTab} (c_least_with_map : CalX P w K mg base 5 "least_with_map" (sp_lwm CM TBL)) : CalX P w K mg base 6 "least" (sp_least CM TBL) := by
  refine calX0 D b sc_least (fun vs H Q E h => ?_) (fun cdv A outer s H vs Q E hr h => ?_)
  · obtain ⟨_, _, _, _, _, rfl, _⟩ := h
    rfl
  · obtain ⟨m, L, w0, T, acc, rfl, hm, hk, htb, ok⟩ := h
    refine ⟨_, (pss_one (ps_ret (pe_ix (ixT K) (pe_cx c_least_with_map hr (by decide) (passes_call (takes_of rfl rfl rfl rfl) (fun _ _ _ _ h => h)) (by rfl) (pa_cons (pv 0) pa_nil)) pe_int (fun _ _ => rfl)))), ?_⟩
    walk_at "rd"
    exact ⟨m, L, w0, T, acc, rfl, hm, hk, htb, fun C z m' pl L' ls T3 H' h1 h2 h3 h4 h5 h6 h7 h8 h9 h10 h11 h12 => ⟨z, rfl, _, SqT.of h5, _, rfl, ok C m' L' ls T3 H' h1 h2 h3 h6 h7 h8 h9 h10⟩⟩
def gP (T1 T2 : List (List Int)) (l : List Int) (j : Nat) : List Int := match l with
  | [a, b] => [((nxt T1 a.toNat j : Nat) : Int), ((nxt T2 b.toNat j : Nat) : Int)]
  | _ => []
def sp_follow (C : Addr) (ws : List (Option V)) : Sp := fun vs H Q _ => ∃ (b m1 m2 : Addr) (w : Nat) (T1 T2 : List (List Int)) (a1 a2 : List Bool) (x y j : Nat), ws = [some (.ref m1), some (.ref m2)] ∧ vs = [.ref b, nv j] ∧ H b = some (.tup [nv x, nv y]) ∧ MachAt C H m1 w T1 a1 ∧ MachAt C H m2 w T2 a2 ∧ MOk w T1 a1 ∧ MOk w T2 a2 ∧ x < T1.length ∧ y < T2.length ∧ j < 2 ^ w ∧ ∀ c H', Same H H' → H' c = some (.tup [nv (nxt T1 x j), nv (nxt T2 y j)]) → Q (.ref c) H'
theorem n_both_with_pairs_follow {q : Str} {cl : List (Str × Addr)} {c' : Addr} {CM : Addr} (c_M : Cls K CM) (n_width : NoAttr K CM "width") (n_table : NoAttr K CM "table") (n_accepting : NoAttr K CM "accepting") : ∀ f, NdefX.NOk P w K mg base (L2.CX P w) 1 f (NdefX.NF.of s_both_with_pairs_follow "follow" q cl c') ["pair", "letter"] ["one", "two"] (sp_follow CM) := by
  intro f
  refine NdefX.nok_of sc_both_with_pairs_follow (fun _ _ _ us hl => match us, hl with | [_, _], _ => rfl) (fun ws vs H Q E h => ?_) (fun A outer s H vs ws Q E hr hf0 hc0 hws h => ?_)
  · obtain ⟨_, _, _, _, _, _, _, _, _, _, _, _, rfl, _⟩ := h
    rfl
  · obtain ⟨b, m1, m2, w, T1, T2, a1, a2, x, y, j, rfl, rfl, hb, hm1, hm2, hk1, hk2, hx, hy, hj, ok⟩ := h
    refine ⟨_, (pss_one (ps_ret (pe_tup (pa_cons (pe_ix (ixL K) (pe_ix (ixL K) (pe_fd K (pv 2) (by rfl)) (pe_ix (ixT K) (pv 0) pe_int (fun _ _ => rfl)) (fun _ _ => rfl)) (pv 1) (fun _ _ => rfl)) (pa_cons (pe_ix (ixL K) (pe_ix (ixL K) (pe_fd K (pv 3) (by rfl)) (pe_ix (ixT K) (pv 0) pe_int (fun _ _ => rfl)) (fun _ _ => rfl)) (pv 1) (fun _ _ => rfl)) pa_nil))))), ?_⟩
    walk_at "rd"
    obtain ⟨d1, t1, b1, rs1, p1, p2, p3, p4⟩ := hm1.ex
    obtain ⟨d2, t2, b2, rs2, q1, q2, q3, q4⟩ := hm2.ex
    obtain ⟨r1, e1, e2, _⟩ := goodT_at hk1.good hx hj
    obtain ⟨r2, f1, f2, _⟩ := goodT_at hk2.good hy hj
    obtain ⟨ra1, g1, g2⟩ := p3.get e1
    obtain ⟨ra2, g3, g4⟩ := q3.get f1
    refine fld_of c_M n_table p1 (mf_t _ _ _) ⟨_, SqT.of hb, _, rfl, t1, rfl, _, _, rfl, SqL.of p2, .ref ra1, at_map g1, ra1, rfl, _, SqL.of g2, _, at_map e2, fld_of c_M n_table q1 (mf_t _ _ _) ⟨_, SqT.of hb, _, rfl, t2, rfl, _, _, rfl, SqL.of q2, .ref ra2, at_map g3, ra2, rfl, _, SqL.of g4, _, at_map f2, by decide, fun c hc => ?_⟩⟩
    exact ok c _ (same_upd hc) upd_same
def joinB (nm : Str) (x y : Bool) : Bool := if nm = "and" then x && y else if nm = "or" then x || y else if nm = "imp" then !x || y else x == y
def sp_joined : Sp := fun vs H Q _ => ∃ (nm : Str) (x y : Bool), vs = [.str nm, .bl x, .bl y] ∧ Q (.bl (joinB nm x y)) H
theorem c_joined {f : Addr} {fd : FuncData} (D : C8.Def K mg "joined" s_joined f fd) (b : Binds K fd ["name", "first", "second"] [])  : C8.Cal P w K mg base 1 "joined" sp_joined [] := by
  refine C8.cal0 D b .nil sc_joined (fun vs H Q E h => ?_) (fun cdv A outer s H vs Q E hr h => ?_)
  · obtain ⟨_, _, _, rfl, _⟩ := h
    rfl
  · obtain ⟨nm, x, y, rfl, ok⟩ := h
    refine ⟨_, (pss_cons (ps_if (pt_cmpR (op_eq) (pv 0) pe_str (nomark _)) (pss_one (ps_ret (pe_and (pv 1) (pe_one (pv 2))))) pss_nil) (pss_cons (ps_if (pt_cmpR (op_eq) (pv 0) pe_str (nomark _)) (pss_one (ps_ret (pe_or (pv 1) (pe_one (pv 2))))) pss_nil) (pss_cons (ps_if (pt_cmpR (op_eq) (pv 0) pe_str (nomark _)) (pss_one (ps_ret (pe_or (pe_not (pv 1)) (pe_one (pv 2))))) pss_nil) (pss_one (ps_ret (pe_cmpR (op_eq) (pv 1) (pv 2) (nomark _))))))), ?_⟩
    walk_at "rd"
    unfold joinB at ok
    by_cases c1 : nm = Str.ofString "and"
    · rw [if_pos c1] at ok ⊢
      cases x <;> exact ok
    · rw [if_neg c1] at ok ⊢
      by_cases c2 : nm = Str.ofString "or"
      · rw [if_pos c2] at ok ⊢
        cases x <;> exact ok
      · rw [if_neg c2] at ok ⊢
        by_cases c3 : nm = Str.ofString "imp"
        · rw [if_pos c3] at ok ⊢
          cases x <;> exact ok
        · rw [if_neg c3] at ok ⊢
          cases x <;> cases y <;> exact ok
def qF : Str := (envOfC "both_with_pairs" (C8.fnScope s_both_with_pairs) 0 0 .none).qual ++ Str.ofString "follow"
def nmF : Nat → Nat → Str := fun _ _ => qF
theorem mok_prod {w1 : Nat} {T1 T2 : List (List Int)} {a1 a2 : List Bool} {nm : Str} {ls : List (List Int)} {T : List (List Nat)} (hk1 : MOk w1 T1 a1) (hk2 : MOk w1 T2 a2) (hU : T1.length * T2.length ≤ 400) (bf : BfsI (gP T1 T2) (pairsU T1.length T2.length) (2 ^ w1) [0, 0] ls T) (al : T.length = ls.length) :
    MOk w1 (natT T) (ls.map fun l : List Int => joinB nm (a1.getD (l.getD 0 0).toNat false) (a2.getD (l.getD 1 0).toNat false)) := by
  have hb := bf.bound
  rw [pairsU_len] at hb
  have h0 := (List.getElem?_eq_some_iff.mp bf.hd).1
  have ln : (natT T).length = T.length := by unfold natT; rw [List.length_map]
  refine ⟨hk1.w6, by omega, by omega, ?_, by rw [List.length_map]; omega, fun i hi => ?_⟩
  · unfold goodT
    rw [List.all_eq_true]
    intro r' hr'
    unfold natT at hr'
    obtain ⟨r, hr, rfl⟩ := List.mem_map.mp hr'
    obtain ⟨i, hi⟩ := List.mem_iff_getElem?.mp hr
    obtain ⟨h1, l, h2, h3⟩ := bf.rows i r hi
    unfold goodRow
    rw [Bool.and_eq_true, List.all_eq_true]
    refine ⟨decide_eq_true (by rw [List.length_map]; exact h1), fun x hx => ?_⟩
    obtain ⟨y, hy, rfl⟩ := List.mem_map.mp hx
    obtain ⟨j, hj⟩ := List.mem_iff_getElem?.mp hy
    have := (List.getElem?_eq_some_iff.mp (h3 j y hj)).1
    rw [Bool.and_eq_true]
    exact ⟨decide_eq_true (by omega), decide_eq_true (by omega)⟩
  · have hiT : T[i]? = some T[i] := List.getElem?_eq_getElem (by omega)
    obtain ⟨h1, l, h2, h3⟩ := bf.rows i _ hiT
    have hp : 0 < (T[i]'(by omega)).length := by rw [h1]; exact Nat.two_pow_pos w1
    have hx0 : (T[i]'(by omega))[0]? = some (T[i]'(by omega))[0] := List.getElem?_eq_getElem hp
    rw [natT_nxt hiT hx0, List.getElem?_map, List.getElem?_map, h2, h3 0 _ hx0]
    obtain ⟨x, y, hx, hy, rfl⟩ := mem_pairsU.mp (bf.sub l (List.mem_of_getElem? h2))
    show some (joinB nm (a1.getD x false) (a2.getD y false)) = some (joinB nm (a1.getD (nxt T1 x 0) false) (a2.getD (nxt T2 y 0) false))
    rw [List.getD_eq_getElem?_getD, List.getD_eq_getElem?_getD, List.getD_eq_getElem?_getD, List.getD_eq_getElem?_getD, hk1.set x hx, hk2.set y hy]
def sp_bwp (K : PySem.W.Frag) (w : World) (C CMis aJ : Addr) (TBL : List NdefX.NTab) : Sp := fun vs H Q E => ∃ (m1 m2 : Addr) (w1 w2 : Nat) (T1 T2 : List (List Int)) (a1 a2 : List Bool) (nm : Str) (kb : Bool), vs = [.ref m1, .ref m2, .str nm] ∧ MachAt C H m1 w1 T1 a1 ∧ MachAt C H m2 w2 T2 a2 ∧ MOk w1 T1 a1 ∧ MOk w2 T2 a2 ∧ T1.length * T2.length ≤ 400 ∧ NdefX.TabsN TBL H ∧ KAt K w aJ nm kb ∧
  (w1 ≠ w2 → Rz CMis "why" (.str "width") H E) ∧ (w1 = w2 → kb = false → Rz CMis "why" (.str "name") H E) ∧
  (w1 = w2 → kb = true → ∀ z m L f fs ls T acc H', ExtT H H' → NdefX.TabsN TBL H' → H' z = some (.tup [.ref m, .ref f]) → MachP C H' L m w1 (natT T) acc → (∀ a ∈ L, H a = none) → MOk w1 (natT T) acc → H' f = some (.lst (fs.map V.ref)) → TupsAt H' fs ls → BfsI (gP T1 T2) (pairsU T1.length T2.length) (2 ^ w1) [0, 0] ls T → T.length = ls.length → acc = (ls.map fun l => joinB nm (a1.getD (l.getD 0 0).toNat false) (a2.getD (l.getD 1 0).toNat false)) → H f = none → Q (.ref z) H')
theorem c_both_with_pairs {f c Pt aJ : Addr} {oc kV doc pm ct : Value} {od an : Option Addr} {osl : Array (Option Value)} (lk : K.lookup f = some ⟨oc, od, .func (PySem.W.fnOf "both_with_pairs" "both_with_pairs" (C8.fnArgs s_both_with_pairs) (C8.fnBody s_both_with_pairs) (C8.fnScope s_both_with_pairs) .none kV doc pm an (.ref c) ct), osl⟩) (hcd : PySem.W.codeIn K (.ref c) "both_with_pairs" = true) (hmg : mg "both_with_pairs" = some (.ref f)) (kp : PySem.W.keepIn K (.ref f) = true)
    (b : Binds K (PySem.W.fnOf "both_with_pairs" "both_with_pairs" (C8.fnArgs s_both_with_pairs) (C8.fnBody s_both_with_pairs) (C8.fnScope s_both_with_pairs) .none kV doc pm an (.ref c) ct) ["one", "two", "name"] []) (TB : LamX.TabB base mg c Pt) {TBL : List NdefX.NTab} (hmem_bwp : (Pt, nmF) ∈ TBL) (huni_bwp : ∀ p ∈ TBL, p.1 = Pt → p.2 = nmF) {CM : Addr} (c_M : Cls K CM) (n_width : NoAttr K CM "width") (n_table : NoAttr K CM "table") (n_accepting : NoAttr K CM "accepting") {CMis : Addr} (x_Misused : ExF P w K mg base "Misused" CMis "why") (g_JOINTS : ∃ u, mg "JOINTS" = some u ∧ RelV (.ref aJ) u) (c_joined : C8.Cal P w K mg base 1 "joined" sp_joined []) (k_Machine : C8.Mak P w K mg base 3 "Machine" CM (sp_minit CM) []) (cP_reached : ∀ (cl : List (Str × Addr)) (ws : List (Option V)) (T1 T2 : List (List Int)) (q : Str), CalG P w K mg base 3 "reached" (CbG cl ["one", "two"] ws) (sp_reached (NdefX.NF.of s_both_with_pairs_follow "follow" q cl) (gP T1 T2) (sp_follow CM ws))) : CalX P w K mg base 5 "both_with_pairs" (sp_bwp K w CM CMis aJ TBL) := by
  refine calXK lk hcd hmg kp b sc_both_with_pairs (fun vs H Q E h => ?_) (fun A outer s H vs Q E hr h => ?_)
  · obtain ⟨_, _, _, _, _, _, _, _, _, _, rfl, _⟩ := h
    rfl
  · obtain ⟨m1, m2, w1, w2, T1, T2, a1, a2, nm, kb, rfl, hm1, hm2, hk1, hk2, hU, htb, hka, bad1, bad2, ok⟩ := h
    refine ⟨_, (pss_cons (ps_if (pt_cmpR (op_ne) (pe_fd K (pv 0) (by rfl)) (pe_fd K (pv 1) (by rfl)) (nomark _)) (pss_one (ps_raise rfl (takes_of rfl rfl rfl rfl) (pmk_ex x_Misused hr (by decide) (by rfl) (pa_cons pe_str pa_nil)))) pss_nil) (pss_cons (ps_if (pt_cmpR op_kNo (pv 2) (C8.pe_gc (by rfl) g_JOINTS) (by with_unfolding_all rfl)) (pss_one (ps_raise rfl (takes_of rfl rfl rfl rfl) (pmk_ex x_Misused hr (by decide) (by rfl) (pa_cons pe_str pa_nil)))) pss_nil) (pss_cons (NdefX.ps_ndefMS (st := s_both_with_pairs_follow) (T := TBL) (i := 3) (nm := nmF) rfl TB rfl hmem_bwp rfl huni_bwp (NdefX.ndef_free (by decide +kernel : NdefX.ndefB (C8.fnScope s_both_with_pairs) (C8.fnScope s_both_with_pairs_follow) ["one", "two"] = true)) rfl rfl rfl sc_both_with_pairs.nd rfl (Or.inl rfl) (Or.inl rfl)) (pss_cons (ps_asg (pe_cG (js := [0, 1]) (sp := fun ws => sp_reached (NdefX.NF.of s_both_with_pairs_follow "follow" qF _) (gP T1 T2) (sp_follow CM ws)) (fun ws => cP_reached _ ws T1 T2 qF) (fun ok => NdefX.Caps.made ok (NdefX.ndef_free (by decide +kernel : NdefX.ndefB (C8.fnScope s_both_with_pairs) (C8.fnScope s_both_with_pairs_follow) ["one", "two"] = true)) (NdefX.ndef_fr (by decide +kernel : NdefX.ndefB (C8.fnScope s_both_with_pairs) (C8.fnScope s_both_with_pairs_follow) ["one", "two"] = true)) rfl) (fun _ => rfl) hr (by decide) (passes_call (takes_of rfl rfl rfl rfl) (fun _ _ _ _ h => h)) (by rfl) (pa_cons (pe_tup (pa_cons pe_int (pa_cons pe_int pa_nil))) (pa_cons (pe_fd K (pv 0) (by rfl)) (pa_cons (pv 3) pa_nil)))) (pg_tup (n := 2) rfl (pgs_cons (pg_name (i := 4) sc_both_with_pairs.nd rfl (by first | exact Or.inl rfl | exact Or.inr rfl)) (pgs_cons (pg_name (i := 5) sc_both_with_pairs.nd rfl (by first | exact Or.inl rfl | exact Or.inr rfl)) pgs_nil)))) (pss_cons (ps_setLc (i := 6) (own := [("first", 7), ("second", 8)]) (g := (gTup K 2 (gCons (gName 7) (gCons (gName 8) gNil)))) (tt := tYes) rfl sc_both_with_pairs.nd rfl rfl (sw_true rfl rfl rfl (by decide +kernel)) (piL K (pv 4)) (blkOk_by (N := N_both_with_pairs) (sc := C8.fnScope s_both_with_pairs) (by decide +kernel)) (fun _ _ _ _ _ => (pg_tup (n := 2) rfl (pgs_cons (pg_name (i := 7) sc_both_with_pairs.nd rfl (by first | exact Or.inl rfl | exact Or.inr rfl)) (pgs_cons (pg_name (i := 8) sc_both_with_pairs.nd rfl (by first | exact Or.inl rfl | exact Or.inr rfl)) pgs_nil)))) (fun _ _ _ _ _ => pts_nil) (fun _ _ _ _ _ => (C8.pe_c c_joined hr (by decide) (by rfl) (pa_cons (pv 2) (pa_cons (pe_ix (ixL K) (pe_fd K (pv 0) (by rfl)) (pv 7) (fun _ _ => rfl)) (pa_cons (pe_ix (ixL K) (pe_fd K (pv 1) (by rfl)) (pv 8) (fun _ _ => rfl)) pa_nil)))))) (pss_one (ps_ret (pe_tup (pa_cons (C8.pe_mk k_Machine hr (by decide) (by rfl) (pa_cons (pe_fd K (pv 0) (by rfl)) (pa_cons (pv 5) (pa_cons (pv 6) pa_nil)))) (pa_cons (pv 4) pa_nil)))))))))), ?_⟩
    walk_at "rd"
    obtain ⟨d1, t1, b1, rs1, p1, p2, p3, p4⟩ := hm1.ex
    obtain ⟨d2, t2, b2, rs2, q1, q2, q3, q4⟩ := hm2.ex
    refine fld_of c_M n_width p1 (mf_w _ _ _) (fld_of c_M n_width q1 (mf_w _ _ _) ⟨rfl, ?_⟩)
    refine ite2 (fun e => ?_) (fun e => ⟨by decide, fun a ha => raise_rz (bad1 fun z => e (by rw [z])) ha⟩)
    have e12 : w1 = w2 := by have := V.int.inj e; omega
    subst e12
    refine ⟨kb, hka, ite2 (fun k0 => ⟨by decide, fun a ha => raise_rz (bad2 rfl k0) ha⟩) (fun k1 => ?_)⟩
    have kb1 : kb = true := by
      cases kb with
      | true => rfl
      | false => exact absurd rfl k1
    refine ⟨htb, fun fA c' H1 x1 n1 tb1 hfA hf1 hc1 => ⟨by decide, fun p0 hp0 => ?_⟩⟩
    have X1 : ExtT H H1 := ⟨x1, n1⟩
    have M1 := hm1.ext X1
    have M2 := hm2.ext X1
    obtain ⟨H2, hH2⟩ : ∃ H2, H2 = upd H1 p0 (HO.tup [V.int 0, V.int 0]) := ⟨_, rfl⟩
    have s0 : Same H1 H2 := by rw [hH2]; exact same_upd hp0
    rw [← hH2]
    refine fld_of c_M n_width (s0 _ _ (X1.keep _ _ p1 (fun _ z => nomatch z))) (mf_w _ _ _) ?_
    refine ⟨p0, fA, c', w1, [0, 0], pairsU T1.length T2.length, rfl, s0 _ _ hf1, s0 _ _ hc1, by rw [hH2, upd_same]; rfl, hk1.w6, by rw [pairsU_len]; exact hU, mem_pairsU.mpr ⟨0, 0, hk1.pos, hk2.pos, rfl⟩, ?_, ?_, fun p ls T H3 s3 r3 => ?_⟩
    · intro l hl j hj
      obtain ⟨x, y, hx, hy, rfl⟩ := mem_pairsU.mp hl
      obtain ⟨_, _, _, h1⟩ := goodT_at hk1.good hx hj
      obtain ⟨_, _, _, h2⟩ := goodT_at hk2.good hy hj
      exact mem_pairsU.mpr ⟨_, _, h1, h2, rfl⟩
    · intro H3 b l j Q1 E1 s3 hb hl hj ok1
      obtain ⟨x, y, hx, hy, rfl⟩ := mem_pairsU.mp hl
      exact ⟨b, m1, m2, w1, T1, T2, a1, a2, x, y, j, rfl, rfl, hb, (M1.same s0).same s3, (M2.same s0).same s3, hk1, hk2, hx, hy, hj, fun c H4 s4 hc4 => ok1 c H4 s4 hc4⟩
    obtain ⟨f3, t3, fs, rs, hp3, hf3, tF3, ht3, rows3, f0, t0, ntf, nr3⟩ := r3.ex
    refine ⟨p, rfl, _, SqT.of hp3, rfl, _, _, rfl, _, _, rfl, rfl, f3, rfl, ⟨_, SqL.of hf3⟩, fun D hD => ?_⟩
    have nDf : f3 ≠ D := ne_of_none hf3 hD
    obtain ⟨jB, hjB⟩ : ∃ jB, jB = fun l : List Int => joinB nm (a1.getD (l.getD 0 0).toNat false) (a2.getD (l.getD 1 0).toNat false) := ⟨_, rfl⟩
    have hnl := r3.bfs.bound
    rw [pairsU_len] at hnl
    refine lc_listN (xs := fs.map V.ref) (fun i H4 => H4 D = some (.lst (((ls.take i).map jB).map V.bl)) ∧ But D H3 H4) ?_ ?_ ?_ ?_
    · exact ⟨upd_same, But.of (same_upd hD)⟩
    · rintro i H4 _ ⟨_, b4⟩
      exact SqL.of (b4 _ _ nDf hf3)
    · rintro i x H4 N2 hx ⟨e4, b4⟩ hN2
      rw [List.getElem?_map] at hx
      obtain ⟨ra, hra, rfl⟩ := Option.map_eq_some_iff.mp hx
      have hi : i < ls.length := by rw [← tF3.len]; exact (List.getElem?_eq_some_iff.mp hra).1
      have hli : ls[i]? = some ls[i] := List.getElem?_eq_getElem hi
      obtain ⟨x, y, hx, hy, hxy⟩ := mem_pairsU.mp (r3.bfs.sub _ (List.mem_of_getElem? hli))
      have htp := tF3.at_ i ra _ hra hli
      rw [hxy] at htp
      have htp4 := b4 _ _ (ne_of_none htp hD) htp
      have s4 : Same H3 H4 := fun y o e => b4 y o (ne_of_none e hD) e
      have X4 : ExtT H H4 := X1.trans (ExtT.of (s0.trans (s3.trans s4)))
      have g1 := getD_at (a := a1) (by rw [hk1.al]; exact hx)
      have g2 := getD_at (a := a2) (by rw [hk2.al]; exact hy)
      walk_at "rd"
      refine ⟨_, SqT.of htp4, rfl, _, _, rfl, _, _, rfl, rfl, fld_of c_M n_accepting (X4.keep _ _ p1 (fun _ z => nomatch z)) (mf_a _ _ _) ⟨b1, rfl, _, _, rfl, SqL.of (X4.lst p4), _, at_map g1, fld_of c_M n_accepting (X4.keep _ _ q1 (fun _ z => nomatch z)) (mf_a _ _ _) ⟨b2, rfl, _, _, rfl, SqL.of (X4.lst q4), _, at_map g2, nm, _, _, rfl, _, e4, smallt (by rw [List.length_map, List.length_map, List.length_take]; omega), hN2 _ ⟨?_, b4.new hD⟩⟩⟩⟩
      rw [upd_same, List.take_add_one, hli, List.map_append, List.map_append, hxy, hjB]
      rfl
    · rintro H4 ⟨e4, b4⟩
      rw [List.length_map, tF3.len, List.take_length] at e4
      have s4 : Same H3 H4 := fun y o e => b4 y o (ne_of_none e hD) e
      have X4 : ExtT H H4 := X1.trans (ExtT.of (s0.trans (s3.trans s4)))
      refine fld_of c_M n_width (X4.keep _ _ p1 (fun _ z => nomatch z)) (mf_w _ _ _) ?_
      intro x1 dx hx hdx ndx
      have s5 : Same H4 (upd (upd H4 dx (HO.own x1)) x1 (HO.ins CM dx [])) := same2 hx hdx
      have mk := mok_prod hk1 hk2 hU r3.bfs r3.all (nm := nm)
      rw [← hjB] at mk
      refine ⟨x1, dx, t3, D, rs, w1, natT T, ls.map jB, rfl, upd_same, s5 _ _ (s4 _ _ ht3), (rows3.same s4).same s5, s5 _ _ e4, mk, fun H5 b5 n5 => ⟨rfl, by decide, fun z hz => ?_⟩⟩
      have s6 : Same H4 (upd H5 z (HO.tup [V.ref x1, V.ref f3])) := (same_mk (fun _ _ e => e) hx hdx b5).trans (same_upd hz)
      obtain ⟨L5, mp5, fr5⟩ := n5.parts
      have fr : ∀ a ∈ L5, H a = none := fun a ha => by
        rcases fr5 a ha with rfl | e
        · exact X4.free _ hx
        · exact X4.free _ (Dw.Same.none s5 e)
      refine ok rfl kb1 z x1 L5 f3 fs ls T _ _ (X4.trans (ExtT.of s6)) ?_ upd_same (mp5.same (same_upd hz)) fr mk (s6 _ _ (s4 _ _ hf3)) ((tF3.same s4).same s6) r3.bfs r3.all (by rw [hjB]) (X1.free _ (Dw.Same.none s0 f0))
      exact ((tb1.ext s0).ext (s3.trans s4)).ext s6
def sp_both (K : PySem.W.Frag) (w : World) (C CMis aJ : Addr) (TBL : List NdefX.NTab) : Sp := fun vs H Q E => ∃ (m1 m2 : Addr) (w1 w2 : Nat) (T1 T2 : List (List Int)) (a1 a2 : List Bool) (nm : Str) (kb : Bool), vs = [.ref m1, .ref m2, .str nm] ∧ MachAt C H m1 w1 T1 a1 ∧ MachAt C H m2 w2 T2 a2 ∧ MOk w1 T1 a1 ∧ MOk w2 T2 a2 ∧ T1.length * T2.length ≤ 400 ∧ NdefX.TabsN TBL H ∧ KAt K w aJ nm kb ∧
  (w1 ≠ w2 → Rz CMis "why" (.str "width") H E) ∧ (w1 = w2 → kb = false → Rz CMis "why" (.str "name") H E) ∧
  (w1 = w2 → kb = true → ∀ m L ls T acc H', ExtT H H' → NdefX.TabsN TBL H' → MachP C H' L m w1 (natT T) acc → (∀ a ∈ L, H a = none) → MOk w1 (natT T) acc → BfsI (gP T1 T2) (pairsU T1.length T2.length) (2 ^ w1) [0, 0] ls T → T.length = ls.length → acc = (ls.map fun l => joinB nm (a1.getD (l.getD 0 0).toNat false) (a2.getD (l.getD 1 0).toNat false)) → Q (.ref m) H')
theorem c_both {f : Addr} {fd : FuncData} (D : C8.Def K mg "both" s_both f fd) (b : Binds K fd ["one", "two", "name"] []) {CM CMis aJ : Addr} {TBL : List NdefX.NTab} (c_both_with_pairs : CalX P w K mg base 5 "both_with_pairs" (sp_bwp K w CM CMis aJ TBL)) : CalX P w K mg base 6 "both" (sp_both K w CM CMis aJ TBL) := by
  refine calX0 D b sc_both (fun vs H Q E h => ?_) (fun cdv A outer s H vs Q E hr h => ?_)
  · obtain ⟨_, _, _, _, _, _, _, _, _, _, rfl, _⟩ := h
    rfl
  · obtain ⟨m1, m2, w1, w2, T1, T2, a1, a2, nm, kb, rfl, hm1, hm2, hk1, hk2, hU, htb, hka, bad1, bad2, ok⟩ := h
    refine ⟨_, (pss_one (ps_ret (pe_ix (ixT K) (pe_cx c_both_with_pairs hr (by decide) (passes_call (takes_of rfl rfl rfl rfl) (fun _ _ _ _ h => h)) (by rfl) (pa_cons (pv 0) (pa_cons (pv 1) (pa_cons (pv 2) pa_nil)))) pe_int (fun _ _ => rfl)))), ?_⟩
    walk_at "rd"
    exact ⟨m1, m2, w1, w2, T1, T2, a1, a2, nm, kb, rfl, hm1, hm2, hk1, hk2, hU, htb, hka, bad1, bad2, fun e k z m L f fs ls T acc H' x1 x2 x3 x4 xf x5 x6 x7 x8 x9 x10 x12 => ⟨z, rfl, _, SqT.of x3, _, rfl, ok e k m L ls T acc H' x1 x2 x4 xf x5 x8 x9 x10⟩⟩
theorem same2 {H4 : Hp} {x dx : Addr} {o1 o2 : HO} (hx : H4 x = none) (hdx : H4 dx = none) : Same H4 (upd (upd H4 dx o1) x o2) := Dw.Same.new (same_upd hdx) hx
theorem same_mk {H H4 H' : Hp} {x dx : Addr} {o1 o2 : HO} (s : Same H H4) (hx : H4 x = none) (hdx : H4 dx = none) (b : But x (upd (upd H4 dx o1) x o2) H') : Same H H' := fun y o e => b y o (ne_of_none (s _ _ e) hx) (same2 hx hdx y o (s _ _ e))
theorem MOk.neg {w : Nat} {T : List (List Int)} {acc : List Bool} (h : MOk w T acc) : MOk w T (acc.map (!·)) := ⟨h.w6, h.pos, h.le, h.good, by rw [List.length_map]; exact h.al, fun i hi => by rw [List.getElem?_map, List.getElem?_map, h.set i hi]⟩
def sp_complement (C : Addr) : Sp := fun vs H Q _ => ∃ (m : Addr) (w : Nat) (T : List (List Int)) (acc : List Bool), vs = [.ref m] ∧ MachAt C H m w T acc ∧ MOk w T acc ∧ ∀ c L H', Same H H' → (∀ a ∈ L, H a = none) → MachP C H' L c w T (acc.map (!·)) → Q (.ref c) H'
theorem c_complement {f : Addr} {fd : FuncData} (D : C8.Def K mg "complement" s_complement f fd) (b : Binds K fd ["machine"] []) {CM : Addr} (c_M : Cls K CM) (n_width : NoAttr K CM "width") (n_table : NoAttr K CM "table") (n_accepting : NoAttr K CM "accepting") (k_Machine : C8.Mak P w K mg base 3 "Machine" CM (sp_minit CM) []) : C8.Cal P w K mg base 5 "complement" (sp_complement CM) [] := by
  refine C8.cal0 D b .nil sc_complement (fun vs H Q E h => ?_) (fun cdv A outer s H vs Q E hr h => ?_)
  · obtain ⟨_, _, _, _, rfl, _⟩ := h
    rfl
  · obtain ⟨m, w, T, acc, rfl, hm, hk, ok⟩ := h
    refine ⟨_, (pss_one (ps_ret (C8.pe_mk k_Machine hr (by decide) (by rfl) (pa_cons (pe_fd K (pv 0) (by rfl)) (pa_cons (pe_fd K (pv 0) (by rfl)) (pa_cons (pe_lc (own := [("mark", 1)]) (g := (gName 1)) (tt := tYes) rfl sc_complement.nd (piL K (pe_fd K (pv 0) (by rfl))) (blkOk_by (N := N_complement) (sc := C8.fnScope s_complement) (by decide +kernel)) (fun _ _ _ _ _ => (pg_name (i := 1) sc_complement.nd rfl (by first | exact Or.inl rfl | exact Or.inr rfl))) (fun _ _ _ _ _ => pts_nil) (fun _ _ _ _ _ => (pe_not (pv 1)))) pa_nil)))))), ?_⟩
    walk_at "rd"
    obtain ⟨dx, t, b, rs, h1, h2, h3, h4⟩ := hm.ex
    refine fld_of c_M n_width h1 (mf_w _ _ _) (fld_of c_M n_table h1 (mf_t _ _ _) (fld_of c_M n_accepting h1 (mf_a _ _ _) ⟨b, rfl, ⟨_, SqL.of h4⟩, fun D hD => ?_⟩))
    refine lc_listN (xs := acc.map V.bl) (fun i H4 => H4 D = some (.lst ((acc.take i).map fun x => V.bl !x)) ∧ But D H H4) ?_ ?_ ?_ ?_
    · exact ⟨upd_same, But.of (same_upd hD)⟩
    · rintro i H4 _ ⟨_, b4⟩
      exact SqL.of (b4 _ _ (ne_of_none h4 hD) h4)
    · rintro i x H4 N2 hx ⟨e4, b4⟩ hN2
      rw [List.getElem?_map] at hx
      obtain ⟨m2, hm2, rfl⟩ := Option.map_eq_some_iff.mp hx
      walk_at "rd"
      have hal := hk.le
      have hle2 := hk.al
      refine ⟨_, e4, smallt (by rw [List.length_map, List.length_take]; omega), hN2 _ ⟨?_, b4.new hD⟩⟩
      rw [upd_same, List.take_add_one, hm2, List.map_append]
      rfl
    · rintro H4 ⟨e4, b4⟩
      rw [show (acc.map V.bl).length = acc.length by rw [List.length_map], List.take_length] at e4
      intro x dx hx hdx ndx
      have s4 : Same H H4 := fun y o e => b4 y o (ne_of_none e hD) e
      have s5 : Same H4 (upd (upd H4 dx (HO.own x)) x (HO.ins CM dx [])) := same2 hx hdx
      refine ⟨x, dx, t, D, rs, w, T, acc.map (!·), rfl, upd_same, s5 _ _ (s4 _ _ h2), (h3.same s4).same s5, by rw [List.map_map]; exact s5 _ _ e4, MOk.neg hk, fun H' b' n' => ⟨rfl, ?_⟩⟩
      obtain ⟨L5, mp5, fr5⟩ := n'.parts
      exact ok x L5 H' (same_mk s4 hx hdx b') (fun a ha => (fr5 a ha).elim (fun e => by rw [e]; exact Dw.Same.none s4 hx) fun e => Dw.Same.none s4 (Dw.Same.none s5 e)) mp5
def sp_followW (C : Addr) (ws : List (Option V)) : Sp := fun vs H Q _ => ∃ (b m : Addr) (w : Nat) (T : List (List Int)) (acc : List Bool) (tn j : Nat) (l : List Int), ws = [some (.ref m), some (nv tn)] ∧ vs = [.ref b, nv j] ∧ H b = some (.tup (l.map V.int)) ∧ MachAt C H m w T acc ∧ MOk w T acc ∧ l ∈ subU T.length ∧ T.length < 64 ∧ j < 2 ^ (w - 1) ∧ tn < w ∧ ∀ c H', Same H H' → H' c = some (.tup ((gW T tn l j).map V.int)) → Q (.ref c) H'
theorem n_some_with_sets_follow {q : Str} {cl : List (Str × Addr)} {c' : Addr} {CM : Addr} (c_M : Cls K CM) (n_width : NoAttr K CM "width") (n_table : NoAttr K CM "table") (n_accepting : NoAttr K CM "accepting") (c_with_track : C8.Cal P w K mg base 1 "with_track" sp_with_track []) (z_tuple : mg "tuple" = none) (z_sorted : mg "sorted" = none) : ∀ f, NdefX.NOk P w K mg base (L2.CX P w) 2 f (NdefX.NF.of s_some_with_sets_follow "follow" q cl c') ["states", "letter"] ["machine", "track"] (sp_followW CM) := by
  intro f
  refine nokC_of sc_some_with_sets_follow (fun _ _ _ us hl => match us, hl with | [_, _], _ => rfl) (fun ws vs H Q E h => ?_) (fun A outer s H vs ws Q E hr hf0 hc0 hws h => ?_)
  · obtain ⟨_, _, _, _, _, _, _, _, _, rfl, _⟩ := h
    rfl
  · obtain ⟨b, m, w, T, acc, tn, j, l, rfl, rfl, hb, hm, hk, hl, h64, hj, ht, ok⟩ := h
    refine ⟨_, (pss_cons (ps_set (i := 4) sc_some_with_sets_follow.nd rfl (by first | exact Or.inl rfl | exact Or.inr rfl) (pe_lc (own := [("value", 5)]) (g := (gName 5)) (tt := tYes) rfl sc_some_with_sets_follow.nd (piT K (pe_tup (pa_cons pe_int (pa_cons pe_int pa_nil)))) (blkOk_by (N := N_some_with_sets_follow) (sc := C8.fnScope s_some_with_sets_follow) (by decide +kernel)) (fun _ _ _ _ _ => (pg_name (i := 5) sc_some_with_sets_follow.nd rfl (by first | exact Or.inl rfl | exact Or.inr rfl))) (fun _ _ _ _ _ => pts_nil) (fun _ _ _ _ _ => (C8.pe_c c_with_track hr (by decide) (by rfl) (pa_cons (pv 1) (pa_cons (pv 3) (pa_cons (pv 5) pa_nil))))))) (pss_one (ps_ret (pe_callTy (tupOf K) (by rfl) z_tuple (by decide +kernel) (pa_cons (pe_callB (cr_sortedSet rfl) (by rfl) z_sorted (by decide +kernel) (pa_cons (pe_sc2 (own := [("state", 6), ("each", 7)]) (vb := [7]) (ga := (gName 6)) (gb := (gName 7)) (ua := tYes) (ub := tYes) rfl sc_some_with_sets_follow.nd (piT K (pv 0)) (blkOk_by (N := N_some_with_sets_follow) (sc := C8.fnScope s_some_with_sets_follow) (by decide +kernel)) (by decide) (fun _ _ _ _ _ => (pg_name (i := 6) sc_some_with_sets_follow.nd rfl (by first | exact Or.inl rfl | exact Or.inr rfl))) (fun _ _ _ _ _ => pts_nil) (fun _ _ _ _ _ => (piL K (pv 4))) (fun _ _ _ _ _ => (pg_name (i := 7) sc_some_with_sets_follow.nd rfl (by first | exact Or.inl rfl | exact Or.inr rfl))) (fun _ _ _ _ _ => pts_nil) (fun _ _ _ _ _ => (pe_ix (ixL K) (pe_ix (ixL K) (pe_fd K (pv 2) (by rfl)) (pv 6) (fun _ _ => rfl)) (pv 7) (fun _ _ => rfl)))) pa_nil)) pa_nil))))), ?_⟩
    walk_at "rd"
    have h6 := hk.w6
    have hj6 : j < 2 ^ 1000 := Nat.lt_of_lt_of_le hj (Nat.pow_le_pow_right (by decide) (by omega))
    refine ⟨by decide, fun p0 hp0 => ?_⟩
    obtain ⟨H0, hH0⟩ : ∃ H0, H0 = upd H p0 (HO.tup [V.int 0, V.int 1]) := ⟨_, rfl⟩
    have s0 : Same H H0 := by rw [hH0]; exact same_upd hp0
    have e0 : H0 p0 = some (HO.tup [V.int 0, V.int 1]) := by rw [hH0, upd_same]
    rw [← hH0]
    refine ⟨⟨_, SqT.of e0⟩, fun D hD => ?_⟩
    refine lc_map (walk_tup (xs := [V.int 0, V.int 1])) (fun i => nv (wt j tn i)) (by decide) hD (fun H5 s5 => SqT.of (s5 _ _ e0)) ?_ ?_
    · rintro i x H5 H6 N hi s5 ⟨rfl, ex⟩ hN
      have h := hN _ (Same.refl _)
      have hi2 : i < 2 := hi
      have ex : x = nv i := by
        rcases (by omega : i = 0 ∨ i = 1) with rfl | rfl
        · cases ex; rfl
        · cases ex; rfl
      subst ex
      walk_at "rd"
      exact ⟨j, tn, i, rfl, hj6, by omega, hi2, h⟩
    intro H1 s1 e1
    have e1 : H1 D = some (.lst [nv (wt j tn 0), nv (wt j tn 1)]) := e1
    have s01 := s0.trans s1
    have hb1 := s01 _ _ hb
    obtain ⟨dx, t1, b1, rs1, p1, p2, p3, p4⟩ := (hm.same s01).ex
    refine ⟨⟨_, SqT.of hb1⟩, fun S hS => ?_⟩
    have hle := subU_le hl
    refine sc2_ints (m := 2) (walk_tup (xs := l.map V.int)) hS (fun H5 s5 => SqT.of (s5 _ _ hb1)) (by rw [List.length_map]; omega) (fun a b => ((nxt T (l.getD a 0).toNat (wt j tn b) : Nat) : Int)) ?_ ?_
    · rintro i x Ha Hb L hi sa ⟨rfl, ex⟩ hL
      rw [List.length_map] at hi
      have hli : l[i]? = some l[i] := List.getElem?_eq_getElem hi
      rw [List.getElem?_map, hli] at ex
      cases ex
      obtain ⟨y, hy, ey⟩ := subU_lt hl (List.getElem_mem hi)
      have eD : l.getD i 0 = l[i] := by rw [List.getD_eq_getElem?_getD, hli]; rfl
      walk_at "rd"
      refine ⟨⟨_, SqL.of (sa _ _ e1)⟩, hL _ _ _ _ _ (Same.refl _) (walk_list (xs := [nv (wt j tn 0), nv (wt j tn 1)])) (fun H5 s5 => SqL.of (s5 _ _ e1)) ?_⟩
      rintro q z Hc Hd N hq sc ⟨rfl, ez⟩ hN
      have hq2 : q < 2 := hq
      have h := hN _ (Same.refl _)
      have ez : z = nv (wt j tn q) := by
        rcases (by omega : q = 0 ∨ q = 1) with rfl | rfl
        · cases ez; rfl
        · cases ez; rfl
      subst ez
      have hlt := wt_lt hj ht hq2
      rw [eD, ey, Int.toNat_natCast] at h
      rw [ey]
      obtain ⟨r1, f1, f2, _⟩ := goodT_at hk.good hy hlt
      obtain ⟨ra1, g1, g2⟩ := p3.get f1
      walk_at "rd"
      exact fld_of c_M n_table (sc _ _ p1) (mf_t _ _ _) ⟨t1, rfl, _, SqL.of (sc _ _ p2), V.ref ra1, at_map g1, ra1, rfl, _, SqL.of (sc _ _ g2), _, at_map f2, h⟩
    intro H2 Sf k ks s2 e2 k1 k2 k3 k4 k5
    rw [List.length_map] at k5
    have eks : ∀ ns : List Int, ns.Pairwise (· < ·) → (∀ z : Int, z ∈ ns ↔ Sf z = true) → ns = gW T tn l j := fun ns a b => by
      refine asc_one a (setI_asc _ _) fun z => ?_
      rw [b, k5, mem_gW]
      constructor
      · rintro ⟨i, v, hi, hv, rfl⟩
        have hli : l[i]? = some l[i] := List.getElem?_eq_getElem hi
        have eD : l.getD i 0 = l[i] := by rw [List.getD_eq_getElem?_getD, hli]; rfl
        obtain ⟨y, hy, ey⟩ := subU_lt hl (List.getElem_mem hi)
        refine ⟨l[i], List.getElem_mem hi, v, hv, ?_, by rw [eD]⟩
        rw [ey, Int.toNat_natCast]
        exact (goodT_at hk.good hy (wt_lt hj ht hv)).choose_spec.2.2
      · rintro ⟨sx, hs, v, hv, _, rfl⟩
        obtain ⟨i, hi, rfl⟩ := List.mem_iff_getElem.mp hs
        exact ⟨i, v, hi, hv, by rw [List.getD_eq_getElem?_getD, List.getElem?_eq_getElem hi]; rfl⟩
    have hk64 : k < 64 := by
      have q : k ≤ (intsU T.length).length := by
        rw [← k2]
        refine nodup_le k1 fun z hz => ?_
        obtain ⟨i, v, hi, hv, rfl⟩ := (k5 z).mp ((k3 z).mp hz)
        have hli : l[i]? = some l[i] := List.getElem?_eq_getElem hi
        obtain ⟨y, hy, ey⟩ := subU_lt hl (List.getElem_mem hi)
        rw [List.getD_eq_getElem?_getD, hli, Option.getD_some, ey, Int.toNat_natCast]
        exact mem_intsU.mpr ⟨_, (goodT_at hk.good hy (wt_lt hj ht hv)).choose_spec.2.2, rfl⟩
      rw [intsU_len] at q
      omega
    refine ⟨Sf, k, e2, hk64, fun ns p2 a b c hp2 => ?_⟩
    obtain rfl := eks ns a b
    refine ⟨_, .inl ⟨SqL.of upd_same, fun c' hc' => ?_⟩⟩
    exact ok c' _ (((s01.trans s2).trans (same_upd hp2)).trans (same_upd hc')) (by rw [upd_same])
def qW : Str := (envOfC "some_with_sets" (C8.fnScope s_some_with_sets) 0 0 .none).qual ++ Str.ofString "follow"
def nmW : Nat → Nat → Str := fun _ _ => qW
def sp_some (C CMis COv : Addr) (TBL : List NdefX.NTab) : Sp := fun vs H Q E => ∃ (m : Addr) (L : List Addr) (w : Nat) (T : List (List Int)) (acc : List Bool) (t : Int), vs = [.ref m, .int t] ∧ MachP C H L m w T acc ∧ MOk w T acc ∧ T.length < 64 ∧ NdefX.TabsN TBL H ∧
  (¬ (0 ≤ t ∧ t < w) → Rz CMis "why" (.str "track") H E) ∧
  (0 ≤ t ∧ t < w → ∀ ls T0 l j ls2 row, BfsI (gW T t.toNat) (subU T.length) (2 ^ (w - 1)) [0] ls T0 → ls[T0.length]? = some l → RowI (gW T t.toNat) (subU T.length) ls l j ls2 row → j < 2 ^ (w - 1) → ls2.length = 400 → gW T t.toNat l j ∉ ls2 → RzX TBL COv "limit" (.str "states") H E) ∧
  (0 ≤ t ∧ t < w → ∀ p m' sl fs L' ls T3 acc3 H', ExtT H H' → NdefX.TabsN TBL H' → MachP C H' L' m' (w - 1) (natT T3) acc3 → (∀ a ∈ L', H a = none) → MOk (w - 1) (natT T3) acc3 → BfsI (gW T t.toNat) (subU T.length) (2 ^ (w - 1)) [0] ls T3 → T3.length = ls.length → acc3 = ls.map (fW T acc t.toNat) → H' p = some (.tup [.ref m', .ref sl]) → H p = none → H' sl = some (.lst (fs.map V.ref)) → H sl = none → TupsAt H' fs ls → Q (.ref p) H')
theorem c_some_with_sets {f c PtW : Addr} {oc kV doc pm ct : Value} {od an : Option Addr} {osl : Array (Option Value)} (lk : K.lookup f = some ⟨oc, od, .func (PySem.W.fnOf "some_with_sets" "some_with_sets" (C8.fnArgs s_some_with_sets) (C8.fnBody s_some_with_sets) (C8.fnScope s_some_with_sets) .none kV doc pm an (.ref c) ct), osl⟩) (hcd : PySem.W.codeIn K (.ref c) "some_with_sets" = true) (hmg : mg "some_with_sets" = some (.ref f)) (kp : PySem.W.keepIn K (.ref f) = true)
    (b : Binds K (PySem.W.fnOf "some_with_sets" "some_with_sets" (C8.fnArgs s_some_with_sets) (C8.fnBody s_some_with_sets) (C8.fnScope s_some_with_sets) .none kV doc pm an (.ref c) ct) ["machine", "track"] []) (TB : LamX.TabB base mg c PtW) {TBL : List NdefX.NTab} (hmem_some : (PtW, nmW) ∈ TBL) (huni_some : ∀ p ∈ TBL, p.1 = PtW → p.2 = nmW) {CM : Addr} (c_M : Cls K CM) (n_width : NoAttr K CM "width") (n_table : NoAttr K CM "table") (n_accepting : NoAttr K CM "accepting") {CMis : Addr}  {COv : Addr} (x_Oversized : ExF P w K mg base "Oversized" COv "limit") (c_ranks : CalX P w K mg base 4 "ranks" (sp_ranks CM CMis)) (z_any : mg "any" = none) (k_Machine : C8.Mak P w K mg base 3 "Machine" CM (sp_minit CM) []) (cW_reached : ∀ (cl : List (Str × Addr)) (ws : List (Option V)) (T : List (List Int)) (tn : Nat) (q : Str), CalG P w K mg base 3 "reached" (CbG cl ["machine", "track"] ws) (sp_reachedT COv (NdefX.NF.of s_some_with_sets_follow "follow" q cl) (gW T tn) (sp_followW CM ws))) : CalX P w K mg base 5 "some_with_sets" (sp_some CM CMis COv TBL) := by
  refine calXK lk hcd hmg kp b sc_some_with_sets (fun vs H Q E h => ?_) (fun A outer s H vs Q E hr h => ?_)
  · obtain ⟨_, _, _, _, _, _, rfl, _⟩ := h
    rfl
  · obtain ⟨m, L, w1, T, acc, t, rfl, hm, hk, h64, htb, bad1, bad2, ok⟩ := h
    obtain ⟨tn, htn⟩ : ∃ tn, tn = t.toNat := ⟨_, rfl⟩
    refine ⟨_, (pss_cons (ps_set (i := 2) sc_some_with_sets.nd rfl (by first | exact Or.inl rfl | exact Or.inr rfl) (pe_cx c_ranks hr (by decide) (passes_call (takes_of rfl rfl rfl rfl) (fun _ _ _ _ h => h)) (by rfl) (pa_cons (pv 0) (pa_cons (pv 1) pa_nil)))) (pss_cons (NdefX.ps_ndefMS (st := s_some_with_sets_follow) (T := TBL) (i := 3) (nm := nmW) rfl TB rfl hmem_some rfl huni_some (NdefX.ndef_free (by decide +kernel : NdefX.ndefB (C8.fnScope s_some_with_sets) (C8.fnScope s_some_with_sets_follow) ["machine", "track"] = true)) rfl rfl rfl sc_some_with_sets.nd rfl (Or.inl rfl) (Or.inl rfl)) (pss_cons (ps_asg (pe_cG (js := [0, 1]) (sp := fun ws => sp_reachedT COv (NdefX.NF.of s_some_with_sets_follow "follow" qW _) (gW T tn) (sp_followW CM ws)) (fun ws => cW_reached _ ws T tn qW) (fun ok => NdefX.Caps.made ok (NdefX.ndef_free (by decide +kernel : NdefX.ndefB (C8.fnScope s_some_with_sets) (C8.fnScope s_some_with_sets_follow) ["machine", "track"] = true)) (NdefX.ndef_fr (by decide +kernel : NdefX.ndefB (C8.fnScope s_some_with_sets) (C8.fnScope s_some_with_sets_follow) ["machine", "track"] = true)) rfl) (fun _ => rfl) hr (by decide) (passes_call (takes_of rfl rfl rfl rfl) (fun _ _ _ _ h => h)) (by rfl) (pa_cons (pe_tup (pa_cons pe_int pa_nil)) (pa_cons (pe_op op_sub (pe_fd K (pv 0) (by rfl)) pe_int) (pa_cons (pv 3) pa_nil)))) (pg_tup (n := 2) rfl (pgs_cons (pg_name (i := 4) sc_some_with_sets.nd rfl (by first | exact Or.inl rfl | exact Or.inr rfl)) (pgs_cons (pg_name (i := 5) sc_some_with_sets.nd rfl (by first | exact Or.inl rfl | exact Or.inr rfl)) pgs_nil)))) (pss_cons (ps_setLc (i := 6) (own := [("members", 7)]) (g := (gName 7)) (tt := tYes) rfl sc_some_with_sets.nd rfl rfl (sw_true rfl rfl rfl (by decide +kernel)) (piL K (pv 4)) (blkOk_by (N := N_some_with_sets) (sc := C8.fnScope s_some_with_sets) (by decide +kernel)) (fun _ _ _ _ _ => (pg_name (i := 7) sc_some_with_sets.nd rfl (by first | exact Or.inl rfl | exact Or.inr rfl))) (fun _ _ _ _ _ => pts_nil) (fun _ _ _ _ _ => (pe_callB (anyQ (K := K)) (by rfl) z_any (by decide +kernel) (pa_cons (pe_lc (own := [("member", 9)]) (g := (gName 9)) (tt := tYes) rfl sc_some_with_sets.nd (piT K (pv 7)) (blkOk_nm (N := N_some_with_sets) [(".0", .local), ("members", .local), ("any", .globalImplicit), ("found", .cell)] (by rfl) (by decide +kernel)) (fun _ _ _ _ _ => (pg_name (i := 9) sc_some_with_sets.nd rfl (by first | exact Or.inl rfl | exact Or.inr rfl))) (fun _ _ _ _ _ => pts_nil) (fun _ _ _ _ _ => (pe_cmpR (op_notN) (pe_ix (ixL K) (pv 2) (pv 9) (fun _ _ => rfl)) pe_non (nomark _)))) pa_nil)))) (pss_one (ps_ret (pe_tup (pa_cons (C8.pe_mk k_Machine hr (by decide) (by rfl) (pa_cons (pe_op op_sub (pe_fd K (pv 0) (by rfl)) pe_int) (pa_cons (pv 5) (pa_cons (pv 6) pa_nil)))) (pa_cons (pv 4) pa_nil))))))))), ?_⟩
    walk_at "rd"
    refine ⟨m, L, w1, T, acc, t, rfl, hm, hk, fun tn' et htw f0 rk Hr sr hrk hf0 => ?_, bad1⟩
    subst et
    have ht : (0 : Int) ≤ (tn' : Int) ∧ (tn' : Int) < (w1 : Int) := ⟨by omega, by omega⟩
    have bad2 := bad2 ht
    have ok := ok ht
    clear bad1
    rw [Int.toNat_natCast] at htn bad2 ok
    subst htn
    have hmr := hm.same sr
    obtain ⟨d1, t1, b1, rs1, p1, p2, p3, p4⟩ := hmr.at_.ex
    have h6 := hk.w6
    have ew : (w1 : Int) - 1 = ((w1 - 1 : Nat) : Int) := by omega
    refine ⟨htb.ext sr, fun fA c' H1 x1 n1 tb1 hfA hf1 hc1 => ⟨by decide, fun p0 hp0 => ?_⟩⟩
    have X1 : ExtT Hr H1 := ⟨x1, n1⟩
    have M1 := hmr.at_.ext X1
    obtain ⟨H2, hH2⟩ : ∃ H2, H2 = upd H1 p0 (HO.tup [V.int 0]) := ⟨_, rfl⟩
    have s0 : Same H1 H2 := by rw [hH2]; exact same_upd hp0
    rw [← hH2]
    have X2 : ExtT Hr H2 := X1.trans (ExtT.of s0)
    have X02 : ExtT H H2 := (ExtT.of sr).trans X2
    have tb2 : NdefX.TabsN TBL H2 := tb1.ext s0
    refine fld_of c_M n_width (s0 _ _ (X1.keep _ _ p1 (fun _ z => nomatch z))) (mf_w _ _ _) ⟨_, rfl, ?_⟩
    rw [ew]
    refine ⟨p0, fA, c', w1 - 1, [0], subU T.length, rfl, s0 _ _ hf1, s0 _ _ hc1, by rw [hH2, upd_same]; rfl, by omega, start_subU hk.pos, fun l hl j hj => gW_in _ _ _ _, ?_, fun ls T0 l j ls2 row h1 h2 h3 h4 h5 h6 => (bad2 ls T0 l j ls2 row h1 h2 h3 h4 h5 h6).rz X02 tb2, fun p ls T3 H3 s3 h400 r3 => ?_⟩
    · intro H3 b l j Q1 E1 s3 hb hl hj ok1
      exact ⟨b, m, w1, T, acc, tn, j, l, rfl, rfl, hb, (M1.same s0).same s3, hk, hl, h64, hj, htw, fun c H4 s4 hc4 => ok1 c H4 s4 hc4⟩
    obtain ⟨f3, t3, fs, rs, hp3, hf3, tF3, ht3, rows3, f0n, t0n, ntf, nr3⟩ := r3.ex
    have X3 : ExtT Hr H3 := X2.trans (ExtT.of s3)
    refine ⟨p, rfl, _, SqT.of hp3, rfl, _, _, rfl, _, _, rfl, rfl, f3, rfl, ⟨_, SqL.of hf3⟩, fun D hD => ?_⟩
    have lf := tF3.len
    have hf03 := X3.lst hf0
    refine lc_map (walk_list (xs := fs.map V.ref)) (fun i => .bl (fW T acc tn (ls.getD i []))) (by rw [List.length_map]; omega) hD (fun H6 s6 => s6.seq (SqL.of hf3)) ?_ ?_
    · rintro i x H6 H7 N hi s6 ⟨rfl, ex⟩ hN
      rw [List.length_map] at hi
      rw [List.getElem?_map, List.getElem?_eq_getElem hi] at ex
      cases ex
      have hil : i < ls.length := by omega
      have hli : ls[i]? = some ls[i] := List.getElem?_eq_getElem hil
      have htp := s6 _ _ (tF3.at_ i _ _ (List.getElem?_eq_getElem hi) hli)
      have hlU := r3.bfs.sub _ (List.getElem_mem hil)
      obtain ⟨l, hl0⟩ : ∃ l, l = ls[i] := ⟨_, rfl⟩
      rw [← hl0] at htp hlU hli
      rw [List.getD_eq_getElem?_getD, hli, Option.getD_some] at hN
      walk_at "rd"
      refine ⟨⟨_, SqT.of htp⟩, fun Z hZ => ?_⟩
      have hle := subU_le hlU
      refine lc_map (walk_tup (xs := l.map V.int)) (fun q => .bl (hasR T acc tn (l.getD q 0).toNat)) (by rw [List.length_map]; omega) hZ (fun H8 s8 => SqT.of (s8 _ _ htp)) ?_ ?_
      · rintro q y H8 H9 N2 hq s8 ⟨rfl, ey⟩ hN2
        rw [List.length_map] at hq
        have hlq : l[q]? = some l[q] := List.getElem?_eq_getElem hq
        rw [List.getElem?_map, hlq] at ey
        cases ey
        obtain ⟨a, ha, ea⟩ := subU_lt hlU (List.getElem_mem hq)
        have h := hN2 _ (Same.refl _)
        rw [List.getD_eq_getElem?_getD, hlq, Option.getD_some, ea, Int.toNat_natCast, isRank_has hk htw ha (hrk a ha)] at h
        rw [ea]
        walk_at "rd"
        refine ⟨_, SqL.of ((s6.trans s8) _ _ hf03), oV (rk a), at_map (by rw [List.getElem?_range ha]), ?_⟩
        cases hra : rk a with
        | none => rw [hra] at h; exact h
        | some r => rw [hra] at h; exact h
      intro H8 s8 e8
      have e8' : (List.range (l.map V.int).length).map (fun q => V.bl (hasR T acc tn (l.getD q 0).toNat)) = (l.map fun z => hasR T acc tn z.toNat).map V.bl := by
        refine List.ext_getElem (by simp) fun i p q => ?_
        have hi : i < l.length := by simpa using p
        simp only [List.getElem_map, List.getElem_range]
        rw [List.getD_eq_getElem?_getD, List.getElem?_eq_getElem hi]
        rfl
      rw [e8'] at e8
      refine ⟨_, SqL.of e8, ?_⟩
      rw [List.any_map]
      exact hN _ s8
    intro H6 s6 h6'
    have X6 := X3.trans (ExtT.of s6)
    have e6 : (List.range (fs.map V.ref).length).map (fun i => V.bl (fW T acc tn (ls.getD i []))) = (ls.map (fW T acc tn)).map V.bl := by
      refine List.ext_getElem (by simp; omega) fun i p q => ?_
      have hi : i < ls.length := by simpa using q
      simp only [List.getElem_map, List.getElem_range]
      rw [List.getD_eq_getElem?_getD, List.getElem?_eq_getElem hi]
      rfl
    rw [e6] at h6'
    have mk : MOk (w1 - 1) (natT T3) (ls.map (fW T acc tn)) := mok_bfs (by omega) r3.bfs r3.all h400 fun l hl => fW_set hk htw hl
    refine fld_of c_M n_width (X6.keep _ _ p1 (fun _ z => nomatch z)) (mf_w _ _ _) ⟨_, rfl, ?_⟩
    intro y1 dx hx hdx ndx
    have s7 : Same H6 (upd (upd H6 dx (HO.own y1)) y1 (HO.ins CM dx [])) := same2 hx hdx
    rw [ew]
    refine ⟨y1, dx, t3, D, rs, w1 - 1, natT T3, ls.map (fW T acc tn), rfl, upd_same, s7 _ _ (s6 _ _ ht3), (rows3.same s6).same s7, s7 _ _ h6', mk, fun H8 b8 n8 => ⟨rfl, ?_⟩⟩
    have s8 : Same H6 H8 := same_mk (fun _ _ e => e) hx hdx b8
    obtain ⟨L8, mp8, fr8⟩ := n8.parts
    have X06 : ExtT H H6 := (ExtT.of sr).trans X6
    have fr : ∀ a ∈ L8, H a = none := fun a ha => by
      rcases fr8 a ha with rfl | e
      · exact X06.free _ hx
      · exact X06.free _ (Dw.Same.none s7 e)
    refine ⟨by decide, fun p9 hp9 => ?_⟩
    have s9 : Same H8 (upd H8 p9 (HO.tup [V.ref y1, V.ref f3])) := same_upd hp9
    have X08 : ExtT H H8 := X06.trans (ExtT.of s8)
    exact ok p9 y1 f3 fs L8 ls T3 _ _ (X08.trans (ExtT.of s9)) ((((tb2.ext s3).ext s6).ext s8).ext s9) (mp8.same s9) fr mk r3.bfs r3.all rfl upd_same (X08.free _ hp9) (s9 _ _ (s8 _ _ (s6 _ _ hf3))) (X02.free _ f0n) (((tF3.same s6).same s8).same s9)
def sp_some1 (C CMis COv : Addr) (TBL : List NdefX.NTab) : Sp := fun vs H Q E => ∃ (m : Addr) (L : List Addr) (w : Nat) (T : List (List Int)) (acc : List Bool) (t : Int), vs = [.ref m, .int t] ∧ MachP C H L m w T acc ∧ MOk w T acc ∧ T.length < 64 ∧ NdefX.TabsN TBL H ∧
  (¬ (0 ≤ t ∧ t < w) → Rz CMis "why" (.str "track") H E) ∧
  (0 ≤ t ∧ t < w → ∀ ls T0 l j ls2 row, BfsI (gW T t.toNat) (subU T.length) (2 ^ (w - 1)) [0] ls T0 → ls[T0.length]? = some l → RowI (gW T t.toNat) (subU T.length) ls l j ls2 row → j < 2 ^ (w - 1) → ls2.length = 400 → gW T t.toNat l j ∉ ls2 → RzX TBL COv "limit" (.str "states") H E) ∧
  (0 ≤ t ∧ t < w → ∀ m' L' ls T3 acc3 H', ExtT H H' → NdefX.TabsN TBL H' → MachP C H' L' m' (w - 1) (natT T3) acc3 → (∀ a ∈ L', H a = none) → MOk (w - 1) (natT T3) acc3 → BfsI (gW T t.toNat) (subU T.length) (2 ^ (w - 1)) [0] ls T3 → T3.length = ls.length → acc3 = ls.map (fW T acc t.toNat) → Q (.ref m') H')
theorem c_some {f : Addr} {fd : FuncData} (D : C8.Def K mg "some" s_some f fd) (b : Binds K fd ["machine", "track"] []) {CM CMis COv : Addr} {TBL : List NdefX.NTab} (c_some_with_sets : CalX P w K mg base 5 "some_with_sets" (sp_some CM CMis COv TBL)) : CalX P w K mg base 6 "some" (sp_some1 CM CMis COv TBL) := by
  refine calX0 D b sc_some (fun vs H Q E h => ?_) (fun cdv A outer s H vs Q E hr h => ?_)
  · obtain ⟨_, _, _, _, _, _, rfl, _⟩ := h
    rfl
  · obtain ⟨m, L, w, T, acc, t, rfl, hm, hk, h64, htb, bad1, bad2, ok⟩ := h
    refine ⟨_, (pss_one (ps_ret (pe_ix (ixT K) (pe_cx c_some_with_sets hr (by decide) (passes_call (takes_of rfl rfl rfl rfl) (fun _ _ _ _ h => h)) (by rfl) (pa_cons (pv 0) (pa_cons (pv 1) pa_nil))) pe_int (fun _ _ => rfl)))), ?_⟩
    walk_at "rd"
    exact ⟨m, L, w, T, acc, t, rfl, hm, hk, h64, htb, bad1, bad2, fun ht p m' sl fs L' ls T3 acc3 H' x1 x2 x3 x4 x5 x6 x7 x8 x9 x10 x11 x12 x13 => ⟨p, rfl, _, SqT.of x9, _, rfl, ok ht m' L' ls T3 acc3 H' x1 x2 x3 x4 x5 x6 x7 x8⟩⟩
def sp_followF (C : Addr) (ws : List (Option V)) : Sp := fun vs H Q _ => ∃ (b m : Addr) (w : Nat) (T : List (List Int)) (acc : List Bool) (tn x r j : Nat), ws = [some (.ref m), some (nv tn)] ∧ vs = [.ref b, nv j] ∧ H b = some (.tup [nv x, nv r]) ∧ MachAt C H m w T acc ∧ MOk w T acc ∧ x < T.length ∧ j < 2 ^ (w - 1) ∧ tn < w ∧ ∀ c H', Same H H' → H' c = some (.tup ((gF T tn [(x : Int), (r : Int)] j).map V.int)) → Q (.ref c) H'
theorem n_fix_follow {q : Str} {cl : List (Str × Addr)} {c' : Addr} {CM : Addr} (c_M : Cls K CM) (n_width : NoAttr K CM "width") (n_table : NoAttr K CM "table") (n_accepting : NoAttr K CM "accepting") (c_with_track : C8.Cal P w K mg base 1 "with_track" sp_with_track []) : ∀ f, NdefX.NOk P w K mg base (L2.CX P w) 2 f (NdefX.NF.of s_fix_follow "follow" q cl c') ["pair", "letter"] ["machine", "track"] (sp_followF CM) := by
  intro f
  refine NdefX.nok_of sc_fix_follow (fun _ _ _ us hl => match us, hl with | [_, _], _ => rfl) (fun ws vs H Q E h => ?_) (fun A outer s H vs ws Q E hr hf0 hc0 hws h => ?_)
  · obtain ⟨_, _, _, _, _, _, _, _, _, _, rfl, _⟩ := h
    rfl
  · obtain ⟨b, m, w, T, acc, tn, x, r, j, rfl, rfl, hb, hm, hk, hx, hj, ht, ok⟩ := h
    refine ⟨_, (pss_cons (ps_asg (pv 0) (pg_tup (n := 2) rfl (pgs_cons (pg_name (i := 4) sc_fix_follow.nd rfl (by first | exact Or.inl rfl | exact Or.inr rfl)) (pgs_cons (pg_name (i := 5) sc_fix_follow.nd rfl (by first | exact Or.inl rfl | exact Or.inr rfl)) pgs_nil)))) (pss_one (ps_ret (pe_tup (pa_cons (pe_ix (ixL K) (pe_ix (ixL K) (pe_fd K (pv 2) (by rfl)) (pv 4) (fun _ _ => rfl)) (C8.pe_c c_with_track hr (by decide) (by rfl) (pa_cons (pv 1) (pa_cons (pv 3) (pa_cons (pe_op op_mod (pv 5) pe_int) pa_nil)))) (fun _ _ => rfl)) (pa_cons (pe_op op_fdiv (pv 5) pe_int) pa_nil)))))), ?_⟩
    walk_at "rd"
    obtain ⟨d1, t1, b1, rs1, p1, p2, p3, p4⟩ := hm.ex
    have h2 : r % 2 < 2 := Nat.mod_lt _ (by decide)
    have h6 := hk.w6
    have hl := wt_lt hj ht h2
    obtain ⟨r1, e1, e2, _⟩ := goodT_at hk.good hx hl
    obtain ⟨ra1, g1, g2⟩ := p3.get e1
    have hj6 : j < 2 ^ 1000 := Nat.lt_of_lt_of_le hj (Nat.pow_le_pow_right (by decide) (by omega))
    refine ⟨_, SqT.of hb, rfl, _, _, rfl, _, _, rfl, rfl, fld_of c_M n_table p1 (mf_t _ _ _) ⟨t1, rfl, _, _, rfl, SqL.of p2, .ref ra1, at_map g1, _, rfl, by decide, j, tn, r % 2, rfl, hj6, by omega, h2, ra1, rfl, _, _, rfl, SqL.of g2, _, at_map e2, _, rfl, ⟨by decide, by decide⟩, by decide, fun c hc => ?_⟩⟩
    exact ok c _ (same_upd hc) (by rw [upd_same, gF_at]; rfl)
def sp_rest (C : Addr) : Sp := fun vs H Q _ => ∃ (m b : Addr) (w : Nat) (T : List (List Int)) (acc : List Bool) (tn x r : Nat), vs = [.ref m, nv tn, .ref b] ∧ H b = some (.tup [nv x, nv r]) ∧ MachAt C H m w T acc ∧ MOk w T acc ∧ x < T.length ∧ tn < w ∧ r < 2 ^ 64 ∧ Q (.bl (fL T acc tn [(x : Int), (r : Int)])) H
theorem c_accepts_rest {f : Addr} {fd : FuncData} (D : C8.Def K mg "accepts_rest" s_accepts_rest f fd) (b : Binds K fd ["machine", "track", "pair"] []) {CM : Addr} (c_M : Cls K CM) (n_width : NoAttr K CM "width") (n_table : NoAttr K CM "table") (n_accepting : NoAttr K CM "accepting") (c_with_track : C8.Cal P w K mg base 1 "with_track" sp_with_track []) : C8.Cal P w K mg base 2 "accepts_rest" (sp_rest CM) [] := by
  refine C8.cal0 D b .nil sc_accepts_rest (fun vs H Q E h => ?_) (fun cdv A outer s H vs Q E hr h => ?_)
  · obtain ⟨_, _, _, _, _, _, _, _, rfl, _⟩ := h
    rfl
  · obtain ⟨m, b, w, T, acc, tn, x, r, rfl, hb, hm, hk, hx, ht, hr64, ok⟩ := h
    refine ⟨_, (pss_cons (ps_asg (pv 2) (pg_tup (n := 2) rfl (pgs_cons (pg_name (i := 3) sc_accepts_rest.nd rfl (by first | exact Or.inl rfl | exact Or.inr rfl)) (pgs_cons (pg_name (i := 4) sc_accepts_rest.nd rfl (by first | exact Or.inl rfl | exact Or.inr rfl)) pgs_nil)))) (pss_cons (ps_while PassesOwn.never (pt_cmpR (op_gt) (pv 4) pe_int (nomark _)) (pss_cons (ps_set (i := 3) sc_accepts_rest.nd rfl (by first | exact Or.inl rfl | exact Or.inr rfl) (pe_ix (ixL K) (pe_ix (ixL K) (pe_fd K (pv 0) (by rfl)) (pv 3) (fun _ _ => rfl)) (C8.pe_c c_with_track hr (by decide) (by rfl) (pa_cons pe_int (pa_cons (pv 1) (pa_cons (pe_op op_mod (pv 4) pe_int) pa_nil)))) (fun _ _ => rfl))) (pss_one (ps_aug (i := 4) sc_accepts_rest.nd rfl (by first | exact Or.inl rfl | exact Or.inr rfl) pe_int iop_fdiv)))) (pss_one (ps_ret (pe_ix (ixL K) (pe_fd K (pv 0) (by rfl)) (pv 3) (fun _ _ => rfl)))))), ?_⟩
    walk_at "rd"
    obtain ⟨d1, t1, b1, rs1, p1, p2, p3, p4⟩ := hm.ex
    have h6 := hk.w6
    refine ⟨_, SqT.of hb, rfl, _, _, rfl, _, _, rfl, rfl, ?_⟩
    refine while_W (fun k σ H1 => ∃ i, 64 - i = k ∧ i ≤ 64 ∧ σ = [some (V.ref m), some (nv tn), some (.ref b), some (nv (runT T x (rwd tn i r))), some (nv (r / 2 ^ i))] ∧ H1 = H) ⟨_, 0, rfl, by decide, by rw [Nat.pow_zero, Nat.div_one]; rfl, rfl⟩ ?_
    rintro k σ H1 ⟨i, rfl, hi, rfl, rfl⟩
    walk_at "rd"
    refine ite2 (fun hlt => nxw_of fun N hN => ?_) (fun hge => ?_)
    · have hi64 : i < 64 := by
        rcases Nat.lt_or_ge i 64 with z | z
        · exact z
        · have : i = 64 := by omega
          rw [this, Nat.div_eq_of_lt hr64] at hlt
          exact absurd hlt (by decide)
      have hq := runT_lt hk.good (rwd tn i r) x (rwd_lt ht) hx
      have h2 : r / 2 ^ i % 2 < 2 := Nat.mod_lt _ (by decide)
      have hl : wt 0 tn (r / 2 ^ i % 2) < 2 ^ w := wt_lt (Nat.two_pow_pos _) ht h2
      obtain ⟨r1, e1, e2, _⟩ := goodT_at hk.good hq hl
      obtain ⟨ra1, g1, g2⟩ := p3.get e1
      walk_at "rd"
      refine fld_of c_M n_table p1 (mf_t _ _ _) ⟨t1, rfl, _, SqL.of p2, .ref ra1, at_map g1, by decide, 0, tn, r / 2 ^ i % 2, rfl, Nat.two_pow_pos _, by omega, h2, ra1, rfl, _, _, rfl, SqL.of g2, _, at_map e2, ⟨by decide, by decide⟩, hN (64 - (i + 1)) _ _ (by omega) ⟨i + 1, rfl, by omega, ?_, rfl⟩⟩
      have es : rwd tn (i + 1) r = rwd tn i r ++ [wt 0 tn (r / 2 ^ i % 2)] := by unfold rwd; rw [List.range_succ, List.map_append]; rfl
      rw [es, runT_snoc, Nat.pow_succ, ← Nat.div_div_eq_div_mul]
      rfl
    · have hq := runT_lt hk.good (rwd tn i r) x (rwd_lt ht) hx
      have hz : r / 2 ^ i = 0 := by
        rcases Nat.eq_zero_or_pos (r / 2 ^ i) with z | z
        · exact z
        · exact absurd (Int.ofNat_lt.mpr z) hge
      have hr : r < 2 ^ i := by
        rcases Nat.lt_or_ge r (2 ^ i) with z | z
        · exact z
        · have := Nat.div_pos z (Nat.two_pow_pos i)
          omega
      have e := rwd_acc hk (m := 64 - i) ht hx hr
      rw [show i + (64 - i) = 64 by omega] at e
      rw [fL_at, e] at ok
      exact fld_of c_M n_accepting p1 (mf_a _ _ _) ⟨b1, rfl, _, SqL.of p4, _, at_map (getD_at (by rw [hk.al]; exact hq)), ok⟩
def qX : Str := (envOfC "fix" (C8.fnScope s_fix) 0 0 .none).qual ++ Str.ofString "follow"
def nmX : Nat → Nat → Str := fun _ _ => qX
def sp_fix (C CMis COv : Addr) (TBL : List NdefX.NTab) : Sp := fun vs H Q E => ∃ (m : Addr) (L : List Addr) (w : Nat) (T : List (List Int)) (acc : List Bool) (t : Int) (num : Nat), vs = [.ref m, .int t, nv num] ∧ MachP C H L m w T acc ∧ MOk w T acc ∧ NdefX.TabsN TBL H ∧
  (¬ (0 ≤ t ∧ t < w) → Rz CMis "why" (.str "track") H E) ∧ (0 ≤ t ∧ t < w → ¬ num < 2 ^ 64 → Rz COv "limit" (.str "number") H E) ∧
  (0 ≤ t ∧ t < w → num < 2 ^ 64 → ∀ ls T0 l j ls2 row, BfsI (gF T t.toNat) (fixU T.length num) (2 ^ (w - 1)) [0, (num : Int)] ls T0 → ls[T0.length]? = some l → RowI (gF T t.toNat) (fixU T.length num) ls l j ls2 row → j < 2 ^ (w - 1) → ls2.length = 400 → gF T t.toNat l j ∉ ls2 → RzX TBL COv "limit" (.str "states") H E) ∧
  (0 ≤ t ∧ t < w → num < 2 ^ 64 → ∀ m' L' ls T3 acc3 H', ExtT H H' → NdefX.TabsN TBL H' → MachP C H' L' m' (w - 1) (natT T3) acc3 → (∀ a ∈ L', H a = none) → MOk (w - 1) (natT T3) acc3 → BfsI (gF T t.toNat) (fixU T.length num) (2 ^ (w - 1)) [0, (num : Int)] ls T3 → T3.length = ls.length → acc3 = ls.map (fL T acc t.toNat) → Q (.ref m') H')
theorem c_fix {f c Pt : Addr} {oc kV doc pm ct : Value} {od an : Option Addr} {osl : Array (Option Value)} (lk : K.lookup f = some ⟨oc, od, .func (PySem.W.fnOf "fix" "fix" (C8.fnArgs s_fix) (C8.fnBody s_fix) (C8.fnScope s_fix) .none kV doc pm an (.ref c) ct), osl⟩) (hcd : PySem.W.codeIn K (.ref c) "fix" = true) (hmg : mg "fix" = some (.ref f)) (kp : PySem.W.keepIn K (.ref f) = true)
    (b : Binds K (PySem.W.fnOf "fix" "fix" (C8.fnArgs s_fix) (C8.fnBody s_fix) (C8.fnScope s_fix) .none kV doc pm an (.ref c) ct) ["machine", "track", "number"] []) (TB : LamX.TabB base mg c Pt) {TBL : List NdefX.NTab} (hmem_fix : (Pt, nmX) ∈ TBL) (huni_fix : ∀ p ∈ TBL, p.1 = Pt → p.2 = nmX) {CM : Addr} (c_M : Cls K CM) (n_width : NoAttr K CM "width") (n_table : NoAttr K CM "table") (n_accepting : NoAttr K CM "accepting") {CMis : Addr}  {COv : Addr} (x_Oversized : ExF P w K mg base "Oversized" COv "limit") (c_check_track : CalX P w K mg base 3 "check_track" (sp_check_track CM CMis)) (g_NUMBER_DIGITS : ∃ u, mg "NUMBER_DIGITS" = some u ∧ RelV (.int 64) u) (c_accepts_rest : C8.Cal P w K mg base 2 "accepts_rest" (sp_rest CM) []) (k_Machine : C8.Mak P w K mg base 3 "Machine" CM (sp_minit CM) []) (cT_reached : ∀ (cl : List (Str × Addr)) (ws : List (Option V)) (T : List (List Int)) (tn : Nat) (q : Str), CalG P w K mg base 3 "reached" (CbG cl ["machine", "track"] ws) (sp_reachedT COv (NdefX.NF.of s_fix_follow "follow" q cl) (gF T tn) (sp_followF CM ws))) : CalX P w K mg base 5 "fix" (sp_fix CM CMis COv TBL) := by
  refine calXK lk hcd hmg kp b sc_fix (fun vs H Q E h => ?_) (fun A outer s H vs Q E hr h => ?_)
  · obtain ⟨_, _, _, _, _, _, _, rfl, _⟩ := h
    rfl
  · obtain ⟨m, L, w1, T, acc, t, num, rfl, hm, hk, htb, bad1, bad2, bad3, ok⟩ := h
    obtain ⟨tn, htn⟩ : ∃ tn, tn = t.toNat := ⟨_, rfl⟩
    refine ⟨_, (pss_cons (ps_expr (pe_cx c_check_track hr (by decide) (passes_call (takes_of rfl rfl rfl rfl) (fun _ _ _ _ h => h)) (by rfl) (pa_cons (pv 0) (pa_cons (pv 1) pa_nil)))) (pss_cons (ps_if (pt_cmpR (op_gt) (pe_bits (pv 2)) (C8.pe_gc (by rfl) g_NUMBER_DIGITS) (nomark _)) (pss_one (ps_raise rfl (takes_of rfl rfl rfl rfl) (pmk_ex x_Oversized hr (by decide) (by rfl) (pa_cons pe_str pa_nil)))) pss_nil) (pss_cons (NdefX.ps_ndefMS (st := s_fix_follow) (T := TBL) (i := 3) (nm := nmX) rfl TB rfl hmem_fix rfl huni_fix (NdefX.ndef_free (by decide +kernel : NdefX.ndefB (C8.fnScope s_fix) (C8.fnScope s_fix_follow) ["machine", "track"] = true)) rfl rfl rfl sc_fix.nd rfl (Or.inl rfl) (Or.inl rfl)) (pss_cons (ps_asg (pe_cG (js := [0, 1]) (sp := fun ws => sp_reachedT COv (NdefX.NF.of s_fix_follow "follow" qX _) (gF T tn) (sp_followF CM ws)) (fun ws => cT_reached _ ws T tn qX) (fun ok => NdefX.Caps.made ok (NdefX.ndef_free (by decide +kernel : NdefX.ndefB (C8.fnScope s_fix) (C8.fnScope s_fix_follow) ["machine", "track"] = true)) (NdefX.ndef_fr (by decide +kernel : NdefX.ndefB (C8.fnScope s_fix) (C8.fnScope s_fix_follow) ["machine", "track"] = true)) rfl) (fun _ => rfl) hr (by decide) (passes_call (takes_of rfl rfl rfl rfl) (fun _ _ _ _ h => h)) (by rfl) (pa_cons (pe_tup (pa_cons pe_int (pa_cons (pv 2) pa_nil))) (pa_cons (pe_op op_sub (pe_fd K (pv 0) (by rfl)) pe_int) (pa_cons (pv 3) pa_nil)))) (pg_tup (n := 2) rfl (pgs_cons (pg_name (i := 4) sc_fix.nd rfl (by first | exact Or.inl rfl | exact Or.inr rfl)) (pgs_cons (pg_name (i := 5) sc_fix.nd rfl (by first | exact Or.inl rfl | exact Or.inr rfl)) pgs_nil)))) (pss_one (ps_ret (C8.pe_mk k_Machine hr (by decide) (by rfl) (pa_cons (pe_op op_sub (pe_fd K (pv 0) (by rfl)) pe_int) (pa_cons (pv 5) (pa_cons (pe_lc (own := [("pair", 6)]) (g := (gName 6)) (tt := tYes) rfl sc_fix.nd (piL K (pv 4)) (blkOk_by (N := N_fix) (sc := C8.fnScope s_fix) (by decide +kernel)) (fun _ _ _ _ _ => (pg_name (i := 6) sc_fix.nd rfl (by first | exact Or.inl rfl | exact Or.inr rfl))) (fun _ _ _ _ _ => pts_nil) (fun _ _ _ _ _ => (C8.pe_c c_accepts_rest hr (by decide) (by rfl) (pa_cons (pv 0) (pa_cons (pv 1) (pa_cons (pv 6) pa_nil)))))) pa_nil)))))))))), ?_⟩
    walk_at "rd"
    obtain ⟨d1, t1, b1, rs1, p1, p2, p3, p4⟩ := hm.at_.ex
    refine ⟨m, L, w1, T, acc, t, rfl, hm, fun ht => ?_, bad1⟩
    have et : t = (tn : Int) := by omega
    subst et
    have bad2 := bad2 ht
    have bad3 := bad3 ht
    have ok := ok ht
    clear bad1
    rw [Int.toNat_natCast] at bad3 ok
    have htw : tn < w1 := by omega
    refine ite2 (fun hb => ⟨by decide, fun a ha => raise_rz (bad2 fun z => by have h1 := blen_le z; have h2 : 64 < blen num := Int.ofNat_lt.mp hb; omega) ha⟩) (fun hb => ?_)
    have hb2 : ¬ 64 < blen num := fun z => hb (Int.ofNat_lt.mpr z)
    have hnum : num < 2 ^ 64 := Nat.lt_of_lt_of_le (lt_blen num) (Nat.pow_le_pow_right (by decide) (by omega))
    have bad3 := bad3 hnum
    have ok := ok hnum
    clear bad2
    have h6 := hk.w6
    have ew : (w1 : Int) - 1 = ((w1 - 1 : Nat) : Int) := by omega
    refine ⟨htb, fun fA c' H1 x1 n1 tb1 hfA hf1 hc1 => ⟨by decide, fun p0 hp0 => ?_⟩⟩
    have X1 : ExtT H H1 := ⟨x1, n1⟩
    have M1 := hm.at_.ext X1
    obtain ⟨H2, hH2⟩ : ∃ H2, H2 = upd H1 p0 (HO.tup [V.int 0, V.int num]) := ⟨_, rfl⟩
    have s0 : Same H1 H2 := by rw [hH2]; exact same_upd hp0
    rw [← hH2]
    have X2 : ExtT H H2 := X1.trans (ExtT.of s0)
    have tb2 : NdefX.TabsN TBL H2 := tb1.ext s0
    refine fld_of c_M n_width (s0 _ _ (X1.keep _ _ p1 (fun _ z => nomatch z))) (mf_w _ _ _) ⟨_, rfl, ?_⟩
    rw [ew]
    refine ⟨p0, fA, c', w1 - 1, [0, (num : Int)], fixU T.length num, rfl, s0 _ _ hf1, s0 _ _ hc1, by rw [hH2, upd_same]; rfl, by omega, mem_fixU.mpr ⟨0, 0, hk.pos, by decide, by rw [Nat.pow_zero, Nat.div_one]; rfl⟩, fun l hl j hj => gF_in hk htw hnum hl hj, ?_, fun ls T0 l j ls2 row h1 h2 h3 h4 h5 h6 => (bad3 ls T0 l j ls2 row h1 h2 h3 h4 h5 h6).rz X2 tb2, fun p ls T3 H3 s3 h400 r3 => ?_⟩
    · intro H3 b l j Q1 E1 s3 hb hl hj ok1
      obtain ⟨x, i, hx, hi, rfl⟩ := mem_fixU.mp hl
      exact ⟨b, m, w1, T, acc, tn, x, num / 2 ^ i, j, rfl, rfl, hb, (M1.same s0).same s3, hk, hx, hj, htw, fun c H4 s4 hc4 => ok1 c H4 s4 hc4⟩
    obtain ⟨f3, t3, fs, rs, hp3, hf3, tF3, ht3, rows3, f0, t0, ntf, nr3⟩ := r3.ex
    have X3 : ExtT H H3 := X2.trans (ExtT.of s3)
    refine ⟨p, rfl, _, SqT.of hp3, rfl, _, _, rfl, _, _, rfl, rfl, fld_of c_M n_width (X3.keep _ _ p1 (fun _ z => nomatch z)) (mf_w _ _ _) ⟨_, rfl, f3, rfl, ⟨_, SqL.of hf3⟩, fun D hD => ?_⟩⟩
    have lf := tF3.len
    refine lc_map (walk_list (xs := fs.map V.ref)) (fun i => .bl (fL T acc tn (ls.getD i []))) (by rw [List.length_map]; omega) hD (fun H6 s6 => s6.seq (SqL.of hf3)) ?_ ?_
    · rintro i x H6 H7 N hi s6 ⟨rfl, ex⟩ hN
      rw [List.length_map] at hi
      rw [List.getElem?_map, List.getElem?_eq_getElem hi] at ex
      cases ex
      have hil : i < ls.length := by omega
      have hli : ls[i]? = some ls[i] := List.getElem?_eq_getElem hil
      have htp := s6 _ _ (tF3.at_ i _ _ (List.getElem?_eq_getElem hi) hli)
      obtain ⟨y, q, hy, hq, hyl⟩ := mem_fixU.mp (r3.bfs.sub _ (List.getElem_mem hil))
      have h := hN _ (Same.refl _)
      rw [List.getD_eq_getElem?_getD, hli, Option.getD_some, hyl] at h
      rw [hyl] at htp
      have X7 := X3.trans (ExtT.of s6)
      walk_at "rd"
      exact ⟨m, _, w1, T, acc, tn, y, num / 2 ^ q, rfl, htp, hm.at_.ext X7, hk, hy, htw, Nat.lt_of_le_of_lt (Nat.div_le_self _ _) hnum, h⟩
    intro H6 s6 h6
    have X6 := X3.trans (ExtT.of s6)
    have e6 : (List.range (fs.map V.ref).length).map (fun i => V.bl (fL T acc tn (ls.getD i []))) = (ls.map (fL T acc tn)).map V.bl := by
      refine List.ext_getElem (by simp; omega) fun i p q => ?_
      have hi : i < ls.length := by simpa using q
      simp only [List.getElem_map, List.getElem_range]
      rw [List.getD_eq_getElem?_getD, List.getElem?_eq_getElem hi]
      rfl
    rw [e6] at h6
    have mk : MOk (w1 - 1) (natT T3) (ls.map (fL T acc tn)) := mok_bfs (by omega) r3.bfs r3.all h400 fun l hl => fL_set hk htw hnum hl
    intro y1 dx hx hdx ndx
    have s7 : Same H6 (upd (upd H6 dx (HO.own y1)) y1 (HO.ins CM dx [])) := same2 hx hdx
    rw [ew]
    refine ⟨y1, dx, t3, D, rs, w1 - 1, natT T3, ls.map (fL T acc tn), rfl, upd_same, s7 _ _ (s6 _ _ ht3), (rows3.same s6).same s7, s7 _ _ h6, mk, fun H8 b8 n8 => ⟨rfl, ?_⟩⟩
    have s8 : Same H6 H8 := same_mk (fun _ _ e => e) hx hdx b8
    obtain ⟨L8, mp8, fr8⟩ := n8.parts
    have fr : ∀ a ∈ L8, H a = none := fun a ha => by
      rcases fr8 a ha with rfl | e
      · exact X6.free _ hx
      · exact X6.free _ (Dw.Same.none s7 e)
    exact ok y1 L8 ls T3 _ _ (X6.trans (ExtT.of s8)) (((tb2.ext s3).ext s6).ext s8) mp8 fr mk r3.bfs r3.all rfl
local macro_rules | `(tactic| walk_at "rd15") => `(tactic| simp only [tSeq, tNext, tAsg, gName, tRet, tRetN, tIfS, tDrop, tVar, tC, tOp, tUn, tTest, tCB, tCons, tNil, tB, tAnd, tOr, tNot, tAndV, tOrV, tNotV, tIf, tCall, tTup, tLst, tSl, tPart, tNoPart, tM0, tM1, tBM, tChain, tBreak, tCont, tNever, tAug, ipI, tPar, tyV_str,
  tFor_eq, tLc_eq, tYes, wipe, Int.zero_add, gNil, gCons, gTup, gSub, iRng1, iRng2, iList, iTup, iStr, rI0, rI, rU, rEq, rNe, rIxL, rIxT, rIxS, Dw.rLen, rListOf, rTupOf, rNotB, rIsB, rMulS, rIn, rCat, rAppend, rCatA, C8.rSlX, tDGet, tFd, tFs, tMeth, tMake, tMkO, tCb, tDisp1T, tCallG, NdefX.tNdefM, NdefX.startF, nc_w, rKNo, nc_K, nc_prog, tLstRg, tRg1, tMakeS, Dw.tMethS, tCallS, WE, tProp, rMin, rMax, rRepA, rRep, rSlL, rAll, tCKw, tBits, rSum, rMaxDf, iEnum, Int.toNat_natCast, tDGet2, tDIn, tDNotIn, rAll, tBM0, rPop, rExtend, tDNewK, tDisp, tPairs, L2.start, cxOf_K, cxOf_w, cxOf_prog,
  List.map_cons, List.map_nil, List.length_cons, List.length_nil, List.replicate, List.cons_append, List.nil_append, Nat.reduceAdd, Nat.reduceSub, Nat.zero_add, List.append_nil,
  List.set_cons_zero, List.set_cons_succ, List.getElem?_cons_zero, List.getElem?_cons_succ, Option.some.injEq, V.int.injEq, V.bl.injEq, V.ref.injEq, V.str.injEq, V.ty.injEq, List.cons.injEq, and_true, true_and, reduceCtorEq, false_and, exists_false, or_false, false_or, exists_eq_left, exists_eq_left', exists_eq', sw_S, an_S, exists_and_left, exists_const, exists_eq, decide_eq_true_eq, Bool.false_eq_true, if_true, if_false, Bool.not_eq_true', decide_eq_false_iff_not, Bool.not_true, Bool.not_false, ite_not, scal, and_false])
def sp_check_widthX (CMis : Addr) : Sp := fun vs H Q E => ∃ w : Int, vs = [.int w] ∧ ((0 ≤ w ∧ w ≤ 6) → Q .non H) ∧ (¬ (0 ≤ w ∧ w ≤ 6) → Rz CMis "why" (.str "width") H E)
theorem cx_check_width {f : Addr} {fd : FuncData} (D : C8.Def K mg "check_width" s_check_width f fd) (b : Binds K fd ["width"] []) {CMis : Addr} (x_Misused : ExF P w K mg base "Misused" CMis "why") (g_TRACKS : ∃ u, mg "TRACKS" = some u ∧ RelV (.int 6) u) : CalX P w K mg base 3 "check_width" (sp_check_widthX CMis) := by
  refine calX0 D b sc_check_width (fun vs H Q E h => ?_) (fun cdv A outer s H vs Q E hr h => ?_)
  · obtain ⟨_, rfl, _⟩ := h
    rfl
  · obtain ⟨w, rfl, ok, bad⟩ := h
    refine ⟨_, (pss_one (ps_if (pt_not (pt_chain op_le op_le pe_int (pv 0) (C8.pe_gc (by rfl) g_TRACKS))) (pss_one (ps_raise rfl (takes_of rfl rfl rfl rfl) (pmk_ex x_Misused hr (by decide) (by rfl) (pa_cons pe_str pa_nil)))) pss_nil)), ?_⟩
    walk_at "rd15"
    refine ite2 (fun h0 => ite2 (fun h5 => ok ⟨h0, h5⟩) (fun h5 => ⟨by decide, fun a ha => raise_rz (bad fun z => h5 z.2) ha⟩)) (fun h0 => ⟨by decide, fun a ha => raise_rz (bad fun z => h0 z.1) ha⟩)
def gS (T : List (List Int)) (olds : List Nat) (l : Int) (j : Nat) : Int := ((nxt T l.toNat (olds.getD j 0) : Nat) : Int)
def sp_followS (C : Addr) (ws : List (Option V)) : Sp := fun vs H Q _ => ∃ (m oL : Addr) (w : Nat) (T : List (List Int)) (acc : List Bool) (olds : List Nat) (s j : Nat), ws = [some (.ref m), some (.ref oL)] ∧ vs = [nv s, nv j] ∧ MachAt C H m w T acc ∧ MOk w T acc ∧ H oL = some (.lst (olds.map nv)) ∧ s < T.length ∧ j < olds.length ∧ (∀ o ∈ olds, o < 2 ^ w) ∧ Q (.int (gS T olds s j)) H
theorem n_spread_with_states_follow {q : Str} {cl : List (Str × Addr)} {c' : Addr} {CM : Addr} (c_M : Cls K CM) (n_width : NoAttr K CM "width") (n_table : NoAttr K CM "table") (n_accepting : NoAttr K CM "accepting") : ∀ f, NdefX.NOk P w K mg base (L2.CX P w) 2 f (NdefX.NF.of s_spread_with_states_follow "follow" q cl c') ["state", "wide"] ["machine", "old_letters"] (sp_followS CM) := by
  intro f
  refine NdefX.nok_of sc_spread_with_states_follow (fun _ _ _ us hl => match us, hl with | [_, _], _ => rfl) (fun ws vs H Q E h => ?_) (fun A outer s H vs ws Q E hr hf0 hc0 hws h => ?_)
  · obtain ⟨_, _, _, _, _, _, _, _, _, rfl, _⟩ := h
    rfl
  · obtain ⟨m, oL, w, T, acc, olds, x, j, rfl, rfl, hm, hk, ho, hx, hj, hol, ok⟩ := h
    refine ⟨_, (pss_one (ps_ret (pe_ix (ixL K) (pe_ix (ixL K) (pe_fd K (pv 2) (by rfl)) (pv 0) (fun _ _ => rfl)) (pe_ix (ixL K) (pv 3) (pv 1) (fun _ _ => rfl)) (fun _ _ => rfl)))), ?_⟩
    walk_at "rd15"
    obtain ⟨d1, t1, b1, rs1, p1, p2, p3, p4⟩ := hm.ex
    have ej : olds[j]? = some olds[j] := List.getElem?_eq_getElem hj
    have hlt := hol _ (List.mem_of_getElem? ej)
    have eD : olds.getD j 0 = olds[j] := by rw [List.getD_eq_getElem?_getD, ej]; rfl
    obtain ⟨r1, e1, e2, _⟩ := goodT_at hk.good hx hlt
    obtain ⟨ra1, g1, g2⟩ := p3.get e1
    have ok' : Q (nv (nxt T x olds[j])) H := by
      have := ok
      unfold gS at this
      rw [Int.toNat_natCast, eD] at this
      exact this
    exact fld_of c_M n_table p1 (mf_t _ _ _) ⟨t1, rfl, _, SqL.of p2, V.ref ra1, at_map g1, _, SqL.of ho, nv olds[j], at_map ej, ra1, rfl, _, _, rfl, SqL.of g2, _, at_map e2, ok'⟩
def qS : Str := (envOfC "spread_with_states" (C8.fnScope s_spread_with_states) 0 0 .none).qual ++ Str.ofString "follow"
def nmS : Nat → Nat → Str := fun _ _ => qS
def oldsOf (ps : List Int) (W : Nat) : List Nat := (List.range (2 ^ W)).map fun j => Dw.lo (ps.map fun (p : Int) => j / 2 ^ p.toNat % 2)
def sp_sws (K : PySem.W.Frag) (C CMis : Addr) (TBL : List NdefX.NTab) : Sp := fun vs H Q E => ∃ (m pl : Addr) (w : Nat) (T : List (List Int)) (acc : List Bool) (ps : List Int) (W : Int), vs = [.ref m, .ref pl, .int W] ∧ MachAt C H m w T acc ∧ MOk w T acc ∧ AnyS K H pl (ps.map V.int) ∧ ps.length ≤ 100 ∧ NdefX.TabsN TBL H ∧
  (¬ (0 ≤ W ∧ W ≤ 6) → Rz CMis "why" (.str "width") H E) ∧ (0 ≤ W ∧ W ≤ 6 → ¬ (ps.length = w ∧ ∀ p ∈ ps, 0 ≤ p ∧ p < W) → Rz CMis "why" (.str "places") H E) ∧
  (0 ≤ W ∧ W ≤ 6 → ps.length = w → (∀ p ∈ ps, 0 ≤ p ∧ p < W) → ∀ z m' L f ls T3 acc3 H', ExtT H H' → NdefX.TabsN TBL H' → H' z = some (.tup [.ref m', .ref f]) → MachP C H' L m' W.toNat (natT T3) acc3 → (∀ a ∈ L, H a = none) → MOk W.toNat (natT T3) acc3 → H' f = some (.lst (ls.map V.int)) → BfsI (gS T (oldsOf ps W.toNat)) (intsU T.length) (2 ^ W.toNat) 0 ls T3 → T3.length = ls.length → acc3 = (ls.map fun l => acc.getD l.toNat false) → H f = none → Q (.ref z) H')
theorem bits_map (ps : List Int) (j : Nat) : Bits (ps.map fun p => j / 2 ^ p.toNat % 2) := fun d h => by
  obtain ⟨p, _, rfl⟩ := List.mem_map.mp h
  exact Nat.mod_lt _ (by decide)
theorem olds_len (ps : List Int) (W : Nat) : (oldsOf ps W).length = 2 ^ W := by unfold oldsOf; rw [List.length_map, List.length_range]
theorem olds_all {ps : List Int} {W o : Nat} (h : o ∈ oldsOf ps W) : o < 2 ^ ps.length := by
  unfold oldsOf at h
  obtain ⟨j, _, rfl⟩ := List.mem_map.mp h
  have := lo_lt (bits_map ps j)
  rwa [List.length_map] at this
theorem olds_at {ps : List Int} {W j : Nat} (hj : j < 2 ^ W) : (oldsOf ps W).getD j 0 = Dw.lo (ps.map fun (p : Int) => j / 2 ^ p.toNat % 2) := by
  unfold oldsOf
  rw [List.getD_eq_getElem?_getD, List.getElem?_map, List.getElem?_range hj]
  rfl
theorem olds_lt {ps : List Int} {W j : Nat} (hj : j < 2 ^ W) : (oldsOf ps W).getD j 0 < 2 ^ ps.length := by
  rw [olds_at hj]
  have := lo_lt (bits_map ps j)
  rwa [List.length_map] at this
theorem olds_zero (ps : List Int) (W : Nat) : (oldsOf ps W).getD 0 0 = 0 := by
  rw [olds_at (Nat.two_pow_pos W)]
  have : (ps.map fun p => 0 / 2 ^ p.toNat % 2) = List.replicate ps.length 0 := by
    rw [List.eq_replicate_iff]
    refine ⟨by rw [List.length_map], fun b hb => ?_⟩
    obtain ⟨p, _, rfl⟩ := List.mem_map.mp hb
    rw [Nat.zero_div]
  rw [this, lo_zeros]
/-- the letters of a word, as the old machine reads them -/
theorem spread_word {r : List Nat} {ps : List Int} {W : Nat} (hr : r.length = W) (hp : ∀ p ∈ ps, 0 ≤ p ∧ p < W) : (wd r).map (fun l => (oldsOf ps W).getD l 0) = (List.range (bls r)).map fun k => Dw.lo (bitAt (ps.map fun p => r.getD p.toNat 0) k) := by
  unfold wd
  rw [List.map_map]
  refine List.map_congr_left fun k _ => ?_
  show (oldsOf ps W).getD (Dw.lo (bitAt r k)) 0 = _
  have hb := lo_lt (bitAt_bits r k)
  rw [bitAt_len, hr] at hb
  rw [olds_at hb]
  congr 1
  unfold bitAt
  rw [List.map_map]
  refine List.map_congr_left fun p hpm => ?_
  have := hp p hpm
  show Dw.lo (bitAt r k) / 2 ^ p.toNat % 2 = r.getD p.toNat 0 / 2 ^ k % 2
  rw [lo_bit _ (bitAt_bits r k)]
  have hi : p.toNat < r.length := by omega
  unfold bitAt
  rw [List.getD_eq_getElem?_getD, List.getElem?_map, List.getD_eq_getElem?_getD, List.getElem?_eq_getElem hi]
  rfl
theorem spread_fold (T : List (List Int)) (olds : List Nat) : ∀ (word : List Nat) (s : Nat), word.foldl (gS T olds) ((s : Nat) : Int) = ((runT T s (word.map fun l => olds.getD l 0) : Nat) : Int)
  | [], _ => rfl
  | l :: r, s => spread_fold T olds r (nxt T s (olds.getD l 0))
theorem spread_run {w : Nat} {T : List (List Int)} {acc : List Bool} (hk : MOk w T acc) {ps : List Int} {W : Nat} {r : List Nat} (hr : r.length = W) (hp : ∀ p ∈ ps, 0 ≤ p ∧ p < W) (hl : ps.length = w) : acc.getD ((wd r).foldl (gS T (oldsOf ps W)) 0).toNat false = acc.getD (runT T 0 (wd (ps.map fun p => r.getD p.toNat 0))) false := by
  have e := spread_fold T (oldsOf ps W) (wd r) 0
  rw [show ((0 : Nat) : Int) = 0 from rfl] at e
  rw [e, Int.toNat_natCast, spread_word hr hp]
  refine takes_pad hk (by rw [List.length_map, hl]) (bls_sub fun x hx => ?_)
  obtain ⟨p, hpm, rfl⟩ := List.mem_map.mp hx
  have := hp p hpm
  have hi : p.toNat < r.length := by omega
  rw [List.getD_eq_getElem?_getD, List.getElem?_eq_getElem hi]
  exact List.getElem_mem hi
theorem c_spread_with_states {f c Pt : Addr} {oc kV doc pm ct : Value} {od an : Option Addr} {osl : Array (Option Value)} (lk : K.lookup f = some ⟨oc, od, .func (PySem.W.fnOf "spread_with_states" "spread_with_states" (C8.fnArgs s_spread_with_states) (C8.fnBody s_spread_with_states) (C8.fnScope s_spread_with_states) .none kV doc pm an (.ref c) ct), osl⟩) (hcd : PySem.W.codeIn K (.ref c) "spread_with_states" = true) (hmg : mg "spread_with_states" = some (.ref f)) (kp : PySem.W.keepIn K (.ref f) = true)
    (b : Binds K (PySem.W.fnOf "spread_with_states" "spread_with_states" (C8.fnArgs s_spread_with_states) (C8.fnBody s_spread_with_states) (C8.fnScope s_spread_with_states) .none kV doc pm an (.ref c) ct) ["machine", "places", "width"] []) (TB : LamX.TabB base mg c Pt) {TBL : List NdefX.NTab} (hmem_sws : (Pt, nmS) ∈ TBL) (huni_sws : ∀ p ∈ TBL, p.1 = Pt → p.2 = nmS) {CM : Addr} (c_M : Cls K CM) (n_width : NoAttr K CM "width") (n_table : NoAttr K CM "table") (n_accepting : NoAttr K CM "accepting") {CMis : Addr} (x_Misused : ExF P w K mg base "Misused" CMis "why") {COv : Addr} (cx_check_width : CalX P w K mg base 3 "check_width" (sp_check_widthX CMis)) (c_letter_of : C8.Cal P w K mg base 1 "letter_of" (sp_letter_of K) []) (c_digit : C8.Cal P w K mg base 1 "digit" sp_digit []) (c_letters : C8.Cal P w K mg base 1 "letters" sp_letters []) (z_len : mg "len" = none) (z_all : mg "all" = none) (z_range : mg "range" = none) (k_Machine : C8.Mak P w K mg base 3 "Machine" CM (sp_minit CM) []) (cS_reached : ∀ (cl : List (Str × Addr)) (ws : List (Option V)) (T : List (List Int)) (olds : List Nat) (q : Str), CalG P w K mg base 3 "reached" (CbG cl ["machine", "old_letters"] ws) (sp_reachedI COv (NdefX.NF.of s_spread_with_states_follow "follow" q cl) (gS T olds) (sp_followS CM ws))) : CalX P w K mg base 5 "spread_with_states" (sp_sws K CM CMis TBL) := by
  refine calXK lk hcd hmg kp b sc_spread_with_states (fun vs H Q E h => ?_) (fun A outer s H vs Q E hr h => ?_)
  · obtain ⟨_, _, _, _, _, _, _, rfl, _⟩ := h
    rfl
  · obtain ⟨m, pl, w1, T, acc, ps, W', rfl, hm, hk, hpl, hpn, htb, bad1, bad2, ok⟩ := h
    obtain ⟨W, hW⟩ : ∃ W, W = W'.toNat := ⟨_, rfl⟩
    refine ⟨_, (pss_cons (ps_expr (pe_cx cx_check_width hr (by decide) (passes_call (takes_of rfl rfl rfl rfl) (fun _ _ _ _ h => h)) (by rfl) (pa_cons (pv 2) pa_nil))) (pss_cons (ps_if (PW.pt (pw_or (pt_cmpR (op_ne) (pe_callB (lenS K) (by rfl) z_len PySem.boot_len (pa_cons (pv 1) pa_nil)) (pe_fd K (pv 0) (by rfl)) (nomark _)) (pw_or1 (pt_not (pt_val (pe_callB (allQ K) (by rfl) z_all (by decide +kernel) (pa_cons (pe_lc (own := [("place", 8)]) (g := (gName 8)) (tt := tYes) rfl sc_spread_with_states.nd (piA K (pv 1)) (blkOk_by (N := N_spread_with_states) (sc := C8.fnScope s_spread_with_states) (by decide +kernel)) (fun _ _ _ _ _ => (pg_name (i := 8) sc_spread_with_states.nd rfl (by first | exact Or.inl rfl | exact Or.inr rfl))) (fun _ _ _ _ _ => pts_nil) (fun _ _ _ _ _ => (pe_chain op_le op_lt pe_int (pv 8) (pv 2)))) pa_nil))))))) (pss_one (ps_raise rfl (takes_of rfl rfl rfl rfl) (pmk_ex x_Misused hr (by decide) (by rfl) (pa_cons pe_str pa_nil)))) pss_nil) (pss_cons (ps_set (i := 6) sc_spread_with_states.nd rfl (by first | exact Or.inl rfl | exact Or.inr rfl) (pe_lc (own := [("letter", 7)]) (g := (gName 7)) (tt := tYes) rfl sc_spread_with_states.nd (pi_range1 (by rfl) z_range (pa_cons (C8.pe_c c_letters hr (by decide) (by rfl) (pa_cons (pv 2) pa_nil)) pa_nil)) (blkOk_by (N := N_spread_with_states) (sc := C8.fnScope s_spread_with_states) (by decide +kernel)) (fun _ _ _ _ _ => (pg_name (i := 7) sc_spread_with_states.nd rfl (by first | exact Or.inl rfl | exact Or.inr rfl))) (fun _ _ _ _ _ => pts_nil) (fun _ _ _ _ _ => (C8.pe_c c_letter_of hr (by decide) (by rfl) (pa_cons (pe_lc (own := [("place", 8)]) (g := (gName 8)) (tt := tYes) rfl sc_spread_with_states.nd (piA K (pv 1)) (blkOk_nm (N := N_spread_with_states) [(".0", .local), ("letter", .cell), ("letter_of", .globalImplicit), ("places", .cell)] (by rfl) (by decide +kernel)) (fun _ _ _ _ _ => (pg_name (i := 8) sc_spread_with_states.nd rfl (by first | exact Or.inl rfl | exact Or.inr rfl))) (fun _ _ _ _ _ => pts_nil) (fun _ _ _ _ _ => (C8.pe_c c_digit hr (by decide) (by rfl) (pa_cons (pv 7) (pa_cons (pv 8) pa_nil))))) pa_nil))))) (pss_cons (NdefX.ps_ndefMS (st := s_spread_with_states_follow) (T := TBL) (i := 3) (nm := nmS) rfl TB rfl hmem_sws rfl huni_sws (NdefX.ndef_free (by decide +kernel : NdefX.ndefB (C8.fnScope s_spread_with_states) (C8.fnScope s_spread_with_states_follow) ["machine", "old_letters"] = true)) rfl rfl rfl sc_spread_with_states.nd rfl (Or.inl rfl) (Or.inl rfl)) (pss_cons (ps_asg (pe_cG (js := [0, 6]) (sp := fun ws => sp_reachedI COv (NdefX.NF.of s_spread_with_states_follow "follow" qS _) (gS T (oldsOf ps W)) (sp_followS CM ws)) (fun ws => cS_reached _ ws T (oldsOf ps W) qS) (fun ok => NdefX.Caps.made ok (NdefX.ndef_free (by decide +kernel : NdefX.ndefB (C8.fnScope s_spread_with_states) (C8.fnScope s_spread_with_states_follow) ["machine", "old_letters"] = true)) (NdefX.ndef_fr (by decide +kernel : NdefX.ndefB (C8.fnScope s_spread_with_states) (C8.fnScope s_spread_with_states_follow) ["machine", "old_letters"] = true)) rfl) (fun _ => rfl) hr (by decide) (passes_call (takes_of rfl rfl rfl rfl) (fun _ _ _ _ h => h)) (by rfl) (pa_cons pe_int (pa_cons (pv 2) (pa_cons (pv 3) pa_nil)))) (pg_tup (n := 2) rfl (pgs_cons (pg_name (i := 4) sc_spread_with_states.nd rfl (by first | exact Or.inl rfl | exact Or.inr rfl)) (pgs_cons (pg_name (i := 5) sc_spread_with_states.nd rfl (by first | exact Or.inl rfl | exact Or.inr rfl)) pgs_nil)))) (pss_one (ps_ret (pe_tup (pa_cons (C8.pe_mk k_Machine hr (by decide) (by rfl) (pa_cons (pv 2) (pa_cons (pv 5) (pa_cons (pe_lc (own := [("state", 9)]) (g := (gName 9)) (tt := tYes) rfl sc_spread_with_states.nd (piL K (pv 4)) (blkOk_by (N := N_spread_with_states) (sc := C8.fnScope s_spread_with_states) (by decide +kernel)) (fun _ _ _ _ _ => (pg_name (i := 9) sc_spread_with_states.nd rfl (by first | exact Or.inl rfl | exact Or.inr rfl))) (fun _ _ _ _ _ => pts_nil) (fun _ _ _ _ _ => (pe_ix (ixL K) (pe_fd K (pv 0) (by rfl)) (pv 9) (fun _ _ => rfl)))) pa_nil)))) (pa_cons (pv 4) pa_nil)))))))))), ?_⟩
    walk_at "rd15"
    obtain ⟨d1, t1, b1, rs1, p1, p2, p3, p4⟩ := hm.ex
    refine ⟨W', rfl, fun hW6 => ?_, bad1⟩
    have bad2 := bad2 hW6
    have ok := ok hW6
    refine ⟨_, hpl, fld_of c_M n_width p1 (mf_w _ _ _) ⟨rfl, ?_⟩⟩
    by_cases hlen : ps.length = w1
    rotate_left 1
    · rw [if_neg (fun e => hlen (by have := V.int.inj e; rw [List.length_map] at this; omega))]
      exact ⟨by decide, fun a ha => raise_rz (bad2 fun z => hlen z.1) ha⟩
    rw [if_pos (by rw [List.length_map, hlen])]
    refine lc_any hpl (fun Q q => ⟨_, rfl, q⟩) (fun i => .bl (decide (0 ≤ ps.getD i 0) && decide (ps.getD i 0 < W'))) (by rw [List.length_map]; omega) ?_ ?_
    · rintro D i x H2 N hD hi s2 ex hN
      rw [List.length_map] at hi
      rw [List.getElem?_map, List.getElem?_eq_getElem hi] at ex
      cases ex
      walk_at "rd15"
      have h := hN _ (Same.refl _)
      rw [List.getD_eq_getElem?_getD, List.getElem?_eq_getElem hi] at h
      refine ite2 (fun h0 => ?_) (fun h0 => ?_)
      · simpa [h0] using h
      · simpa [h0] using h
    intro D H2 hD s2 h2
    have eall : (List.range (ps.map V.int).length).map (fun i => V.bl (decide (0 ≤ ps.getD i 0) && decide (ps.getD i 0 < W'))) = (ps.map fun p => decide (0 ≤ p) && decide (p < W')).map V.bl := by
      refine List.ext_getElem (by simp) fun j p q => ?_
      have hj : j < ps.length := by simpa using p
      simp only [List.getElem_map, List.getElem_range]
      rw [List.getD_eq_getElem?_getD, List.getElem?_eq_getElem hj]
      rfl
    rw [eall] at h2
    refine ⟨_, SqL.of h2, ?_⟩
    by_cases hin : ∀ p ∈ ps, 0 ≤ p ∧ p < W'
    rotate_left 1
    · have e : (ps.map fun p => decide (0 ≤ p) && decide (p < W')).all id = false := by
        cases h : (ps.map fun p => decide (0 ≤ p) && decide (p < W')).all id with
        | false => rfl
        | true =>
          refine absurd (fun p hp => ?_) hin
          have := List.all_eq_true.mp h _ (List.mem_map.mpr ⟨p, hp, rfl⟩)
          simpa using this
      rw [if_pos e]
      exact ⟨by decide, fun a ha => raise_rz (Rz.same (bad2 fun z => hin z.2) s2) ha⟩
    have e : (ps.map fun p => decide (0 ≤ p) && decide (p < W')).all id = true := by
      rw [List.all_eq_true]
      intro x hx
      obtain ⟨p, hp, rfl⟩ := List.mem_map.mp hx
      simpa using hin p hp
    rw [if_neg (by rw [e]; decide)]
    have ok := ok hlen hin
    have eW : W' = (W : Int) := by omega
    clear hW
    subst eW
    rw [Int.toNat_natCast] at ok
    have hW6' : W ≤ 6 := by omega
    have h64 : 2 ^ W ≤ 64 := Nat.pow_le_pow_right (by decide) hW6'
    refine ⟨W, rfl, by omega, _, rfl, Int.le_trans (by decide) (Int.natCast_nonneg _), Int.lt_of_le_of_lt (Int.ofNat_le.mpr h64) (by decide), fun O hO => ?_⟩
    rw [Int.toNat_natCast]
    refine lc_map walk_range (fun j => nv (Dw.lo (ps.map fun p => j / 2 ^ p.toNat % 2))) (by omega) hO (fun _ _ => trivial) ?_ ?_
    · rintro j x H3 H4 N hj s3 ⟨rfl, rfl⟩ hN
      walk_at "rd15"
      refine lc_any (hpl.same (s2.trans s3)) (fun Q q => ⟨_, rfl, q⟩) (fun i => nv (j / 2 ^ (ps.getD i 0).toNat % 2)) (by rw [List.length_map]; omega) ?_ ?_
      · rintro D3 i x H5 N2 hD3 hi s5 ex hN2
        rw [List.length_map] at hi
        rw [List.getElem?_map, List.getElem?_eq_getElem hi] at ex
        cases ex
        walk_at "rd15"
        obtain ⟨pn, hpn⟩ : ∃ pn : Nat, ps[i] = (pn : Int) := ⟨(ps[i]).toNat, by have := hin _ (List.getElem_mem hi); omega⟩
        have h := hN2 _ (Same.refl _)
        rw [List.getD_eq_getElem?_getD, List.getElem?_eq_getElem hi, Option.getD_some, hpn, Int.toNat_natCast] at h
        exact ⟨j, pn, by rw [hpn], h⟩
      · intro D3 H5 hD3 s5 h5
        have e2 : (List.range (ps.map V.int).length).map (fun i => nv (j / 2 ^ (ps.getD i 0).toNat % 2)) = (ps.map fun p => j / 2 ^ p.toNat % 2).map nv := by
          refine List.ext_getElem (by simp) fun i p q => ?_
          have hi : i < ps.length := by simpa using p
          simp only [List.getElem_map, List.getElem_range]
          rw [List.getD_eq_getElem?_getD, List.getElem?_eq_getElem hi]
          rfl
        rw [e2] at h5
        exact ⟨D3, ps.map fun p => j / 2 ^ p.toNat % 2, rfl, SqL.of h5, bits_map ps j, by rw [List.length_map]; omega, fun H6 s6 => hN _ (s5.trans s6)⟩
    intro H3 s3 h3
    have h3 : H3 O = some (.lst ((oldsOf ps W).map nv)) := by rw [h3]; unfold oldsOf; rw [List.map_map]; rfl
    refine ⟨(htb.ext s2).ext s3, fun fA c' H4 x4 n4 tb4 hfA hf4 hc4 => ?_⟩
    have X4 : ExtT H H4 := (ExtT.of (s2.trans s3)).trans ⟨x4, n4⟩
    have X34 : ExtT H3 H4 := ⟨x4, n4⟩
    have M4 := hm.ext X4
    have hO4 := X34.lst h3
    have hclo : ∀ l ∈ intsU T.length, ∀ j, j < 2 ^ W → gS T (oldsOf ps W) l j ∈ intsU T.length := fun l hl j hj => by
      obtain ⟨x, hx, rfl⟩ := mem_intsU.mp hl
      have ho := olds_lt (ps := ps) (W := W) hj
      rw [hlen] at ho
      obtain ⟨_, _, _, h1⟩ := goodT_at hk.good hx ho
      exact mem_intsU.mpr ⟨_, h1, by unfold gS; rw [Int.toNat_natCast]⟩
    have hT4 := hk.le
    refine ⟨fA, c', W, 0, intsU T.length, rfl, hf4, hc4, hW6', mem_intsU.mpr ⟨0, hk.pos, rfl⟩, hclo, ?_, fun ls T0 l j ls2 row bf hl ri hj h4 hno => absurd (ri.bound1 hno (hclo _ (bf.sub _ (List.mem_of_getElem? hl)) _ hj)) (by rw [intsU_len]; omega), fun p ls T3 H5 s5 h400 r5 => ?_⟩
    · intro H5 l j Q1 E1 s5 hl hj ok1
      obtain ⟨x, hx, rfl⟩ := mem_intsU.mp hl
      exact ⟨m, O, w1, T, acc, oldsOf ps W, x, j, rfl, rfl, M4.same s5, hk, s5 _ _ hO4, hx, by rw [olds_len]; exact hj, fun o ho => by have := olds_all ho; rwa [hlen] at this, ok1 _ (Same.refl _)⟩
    obtain ⟨f5, t5, rs, hp5, hf5, ht5, rows5, f0, t0, ntf, nr5⟩ := r5.ex
    have X5 : ExtT H H5 := X4.trans (ExtT.of s5)
    refine ⟨p, rfl, _, SqT.of hp5, rfl, _, _, rfl, _, _, rfl, rfl, f5, rfl, ⟨_, SqL.of hf5⟩, fun D hD => ?_⟩
    refine lc_map (walk_list (xs := ls.map V.int)) (fun i => .bl (acc.getD (ls.getD i 0).toNat false)) (by rw [List.length_map]; omega) hD (fun H6 s6 => s6.seq (SqL.of hf5)) ?_ ?_
    · rintro i x H6 H7 N hi s6 ⟨rfl, ex⟩ hN
      rw [List.length_map] at hi
      rw [List.getElem?_map, List.getElem?_eq_getElem hi] at ex
      cases ex
      obtain ⟨y, hy, hyl⟩ := mem_intsU.mp (r5.bfs.sub _ (List.getElem_mem hi))
      have h := hN _ (Same.refl _)
      rw [List.getD_eq_getElem?_getD (l := ls), List.getElem?_eq_getElem hi, Option.getD_some, hyl, Int.toNat_natCast] at h
      have X6 := X5.trans (ExtT.of s6)
      walk_at "rd15"
      rw [hyl]
      exact fld_of c_M n_accepting (X6.keep _ _ p1 (fun _ z => nomatch z)) (mf_a _ _ _) ⟨b1, rfl, _, SqL.of (X6.lst p4), _, at_map (getD_at (by rw [hk.al]; exact hy)), h⟩
    intro H6 s6 h6
    have X6 := X5.trans (ExtT.of s6)
    have e6 : (List.range (ls.map V.int).length).map (fun i => V.bl (acc.getD (ls.getD i 0).toNat false)) = (ls.map fun l => acc.getD l.toNat false).map V.bl := by
      refine List.ext_getElem (by simp) fun i p q => ?_
      have hi : i < ls.length := by simpa using p
      simp only [List.getElem_map, List.getElem_range]
      rw [List.getD_eq_getElem?_getD (l := ls), List.getElem?_eq_getElem hi]
      rfl
    rw [e6] at h6
    have mk : MOk W (natT T3) (ls.map fun l => acc.getD l.toNat false) := mok_bfs hW6' r5.bfs r5.all h400 fun l hl => by
      obtain ⟨x, hx, rfl⟩ := mem_intsU.mp hl
      unfold gS
      rw [Int.toNat_natCast, olds_zero, Int.toNat_natCast, List.getD_eq_getElem?_getD, List.getD_eq_getElem?_getD, hk.set x hx]
    intro x1 dx hx hdx ndx
    have s7 : Same H6 (upd (upd H6 dx (HO.own x1)) x1 (HO.ins CM dx [])) := same2 hx hdx
    refine ⟨x1, dx, t5, D, rs, W, natT T3, ls.map fun l => acc.getD l.toNat false, rfl, upd_same, s7 _ _ (s6 _ _ ht5), (rows5.same s6).same s7, s7 _ _ h6, mk, fun H8 b8 n8 => ⟨rfl, by decide, fun z hz => ?_⟩⟩
    have s8 : Same H6 (upd H8 z (HO.tup [V.ref x1, V.ref f5])) := (same_mk (fun _ _ e => e) hx hdx b8).trans (same_upd hz)
    obtain ⟨L8, mp8, fr8⟩ := n8.parts
    have fr : ∀ a ∈ L8, H a = none := fun a ha => by
      rcases fr8 a ha with rfl | e
      · exact X6.free _ hx
      · exact X6.free _ (Dw.Same.none s7 e)
    exact ok z x1 L8 f5 ls T3 _ _ (X6.trans (ExtT.of s8)) (((tb4.ext s5).ext s6).ext s8) upd_same (mp8.same (same_upd hz)) fr mk (s8 _ _ (s6 _ _ hf5)) r5.bfs r5.all rfl (X4.free _ f0)
def sp_spread (K : PySem.W.Frag) (C CMis : Addr) (TBL : List NdefX.NTab) : Sp := fun vs H Q E => ∃ (m pl : Addr) (w : Nat) (T : List (List Int)) (acc : List Bool) (ps : List Int) (W : Int), vs = [.ref m, .ref pl, .int W] ∧ MachAt C H m w T acc ∧ MOk w T acc ∧ AnyS K H pl (ps.map V.int) ∧ ps.length ≤ 100 ∧ NdefX.TabsN TBL H ∧
  (¬ (0 ≤ W ∧ W ≤ 6) → Rz CMis "why" (.str "width") H E) ∧ (0 ≤ W ∧ W ≤ 6 → ¬ (ps.length = w ∧ ∀ p ∈ ps, 0 ≤ p ∧ p < W) → Rz CMis "why" (.str "places") H E) ∧
  (0 ≤ W ∧ W ≤ 6 → ps.length = w → (∀ p ∈ ps, 0 ≤ p ∧ p < W) → ∀ m' L ls T3 acc3 H', ExtT H H' → NdefX.TabsN TBL H' → MachP C H' L m' W.toNat (natT T3) acc3 → (∀ a ∈ L, H a = none) → MOk W.toNat (natT T3) acc3 → BfsI (gS T (oldsOf ps W.toNat)) (intsU T.length) (2 ^ W.toNat) 0 ls T3 → T3.length = ls.length → acc3 = (ls.map fun l => acc.getD l.toNat false) → Q (.ref m') H')
theorem c_spread {f : Addr} {fd : FuncData} (D : C8.Def K mg "spread" s_spread f fd) (b : Binds K fd ["machine", "places", "width"] []) {CM CMis : Addr} {TBL : List NdefX.NTab} (c_spread_with_states : CalX P w K mg base 5 "spread_with_states" (sp_sws K CM CMis TBL)) : CalX P w K mg base 6 "spread" (sp_spread K CM CMis TBL) := by
  refine calX0 D b sc_spread (fun vs H Q E h => ?_) (fun cdv A outer s H vs Q E hr h => ?_)
  · obtain ⟨_, _, _, _, _, _, _, rfl, _⟩ := h
    rfl
  · obtain ⟨m, pl, w1, T, acc, ps, W', rfl, hm, hk, hpl, hpn, htb, bad1, bad2, ok⟩ := h
    refine ⟨_, (pss_one (ps_ret (pe_ix (ixT K) (pe_cx c_spread_with_states hr (by decide) (passes_call (takes_of rfl rfl rfl rfl) (fun _ _ _ _ h => h)) (by rfl) (pa_cons (pv 0) (pa_cons (pv 1) (pa_cons (pv 2) pa_nil)))) pe_int (fun _ _ => rfl)))), ?_⟩
    walk_at "rd15"
    exact ⟨m, pl, w1, T, acc, ps, W', rfl, hm, hk, hpl, hpn, htb, bad1, bad2, fun e1 e2 e3 z m' L f ls T3 acc3 H' x1 x2 x3 x4 xf x5 x6 x7 x8 x9 x10 => ⟨z, rfl, _, SqT.of x3, _, rfl, ok e1 e2 e3 m' L ls T3 acc3 H' x1 x2 x4 xf x5 x7 x8 x9⟩⟩
def sp_draw (K : PySem.W.Frag) : Sp := fun vs H Q _ => ∃ (p q : Addr) (ns : List Int) (m : Nat), vs = [.ref p, nv m] ∧ Draw K H p q ns ∧ 0 < m ∧ m < 2 ^ 80 ∧ ∀ (r : Nat) H', r < m → But p H H' → Draw K H' p q ns → Q (nv r) H'
theorem c__law_draw {f : Addr} {fd : FuncData} (D : C8.Def K mg "_law_draw" s__law_draw f fd) (b : Binds K fd ["state", "many"] []) (z_len : mg "len" = none) (z_int : mg "int" = none) (z_abs : mg "abs" = none) : C8.Cal P w K mg base 1 "_law_draw" (sp_draw K) [] := by
  refine C8.cal0 D b .nil sc__law_draw (fun vs H Q E h => ?_) (fun cdv A outer s H vs Q E hr h => ?_)
  · obtain ⟨_, _, _, _, rfl, _⟩ := h
    rfl
  · obtain ⟨p, q, ns, m, rfl, ⟨hq, a, v, x, hp, ha, hv⟩, hm0, hm1, ok⟩ := h
    refine ⟨_, (C8.pss_cut (ps_if (pt_cmpR (op_le) (pe_ix (ixL K) (pv 0) pe_int (fun _ _ => rfl)) pe_int (nomark _)) (pss_cons (ps_set (i := 2) sc__law_draw.nd rfl (by first | exact Or.inl rfl | exact Or.inr rfl) (pe_ix (ixL K) (pv 0) pe_int (fun _ _ => rfl))) (pss_cons (ps_asg (pe_op op_add (pv 2) pe_int) (pg_sub (pv 0) pe_int set_list)) (pss_cons (ps_set (i := 3) sc__law_draw.nd rfl (by first | exact Or.inl rfl | exact Or.inr rfl) (pe_op op_add (pe_op op_mul (pv 2) pe_int) pe_int)) (C8.pss_cut (ps_if (pt_cmpR (op_lt) (pv 2) (pe_callB (lenS K) (by rfl) z_len PySem.boot_len (pa_cons (pe_ix (ixL K) (pv 0) pe_int (fun _ _ => rfl)) pa_nil)) (nomark _)) (pss_one (ps_set (i := 3) sc__law_draw.nd rfl (by first | exact Or.inl rfl | exact Or.inr rfl) (pe_ix (ixL K) (pe_ix (ixL K) (pv 0) pe_int (fun _ _ => rfl)) (pv 2) (fun _ _ => rfl)))) pss_nil) (C8.pss_cut (ps_if (pt_chain op_le op_lt pe_int (pv 3) pe_int) (pss_cons (ps_set (i := 4) sc__law_draw.nd rfl (by first | exact Or.inl rfl | exact Or.inr rfl) (pe_op op_mod (pe_callTy call_int1 (by rfl) z_int (by decide +kernel) (pa_cons (pe_op op_add (pe_op op_add (pe_op op_mul (pv 3) pe_int) (pe_op op_mul (pv 2) pe_int)) (pe_ix (ixL K) (pv 0) pe_int (fun _ _ => rfl))) pa_nil)) pe_int)) (pss_cons (ps_set (i := 5) sc__law_draw.nd rfl (by first | exact Or.inl rfl | exact Or.inr rfl) (pe_op op_mod (pe_callTy call_int1 (by rfl) z_int (by decide +kernel) (pa_cons (pe_op op_add (pe_op op_add (pe_op op_mul (pv 4) pe_int) (pv 3)) pe_int) pa_nil)) pe_int)) (pss_one (ps_asg (pe_op op_add (pe_op op_mul (pv 4) pe_int) (pv 5)) (pg_sub (pv 0) pe_int set_list))))) (pss_one (ps_asg (pe_callB call_abs (by rfl) z_abs (by decide +kernel) (pa_cons (pv 3) pa_nil)) (pg_sub (pv 0) pe_int set_list)))) (pss_one (ps_asg (pe_op op_mod (pe_callTy call_int1 (by rfl) z_int (by decide +kernel) (pa_cons (pe_op op_add (pe_op op_mul (pe_ix (ixL K) (pv 0) pe_int (fun _ _ => rfl)) pe_int) (pv 3)) pa_nil)) pe_int) (pg_sub (pv 0) pe_int set_list)))))))) pss_nil) (pss_cons (ps_set (i := 6) sc__law_draw.nd rfl (by first | exact Or.inl rfl | exact Or.inr rfl) (pe_op op_mod (pe_callTy call_int1 (by rfl) z_int (by decide +kernel) (pa_cons (pe_ix (ixL K) (pv 0) pe_int (fun _ _ => rfl)) pa_nil)) (pv 1))) (pss_cons (ps_asg (pe_op op_fdivW (pe_callTy call_int1 (by rfl) z_int (by decide +kernel) (pa_cons (pe_ix (ixL K) (pv 0) pe_int (fun _ _ => rfl)) pa_nil)) (pv 1)) (pg_sub (pv 0) pe_int set_list)) (pss_one (ps_ret (pv 6)))))), ?_⟩
    walk_at "rd"
    obtain ⟨M, hM⟩ : ∃ M : L2.St → Hp → Prop, M = fun σ' H' => But p H H' ∧ (∃ a v x : Int, H' p = some (.lst [.ref q, .int a, .int v, .int x]) ∧ 0 ≤ a ∧ 0 ≤ v) ∧ ∃ u1 u2 u3 u4, σ' = [some (.ref p), some (nv m), u1, u2, u3, u4, none] := ⟨_, rfl⟩
    refine ⟨M, ?_, fun σ' H' hm => ?_⟩
    · walk_at "rd"
      refine ⟨_, SqL.of hp, _, rfl, ?_⟩
      walk_at "rd"
      refine ite2 (fun h1 => ?_) (fun h1 => ?_)
      · refine ⟨_, SqL.of hp, _, rfl, _, rfl, ?_⟩
        walk_at "rd"
        refine ⟨_, _, _, _, rfl, rfl, hp, rfl, ?_⟩
        obtain ⟨H1, hH1⟩ : ∃ H1, H1 = upd H p (.lst [.ref q, .int (a + 1), .int v, .int x]) := ⟨_, rfl⟩
        have e1 : upd H p (.lst ([V.ref q, V.int a, V.int v, V.int x].set (Int.toNat 1) (V.int (a + 1)))) = H1 := hH1.symm
        rw [e1]
        have b1 : But p H H1 := hH1 ▸ But.upd
        have hq1 := hq _ b1
        have hp1 : H1 p = some (.lst [.ref q, .int (a + 1), .int v, .int x]) := by rw [hH1, upd_same]
        refine ⟨.inr ⟨by decide, by decide⟩, ?_⟩
        obtain ⟨M1, hM1⟩ : ∃ M1 : L2.St → Hp → Prop, M1 = fun σ' H' => H' = H1 ∧ ∃ c : Int, σ' = [some (.ref p), some (nv m), some (.int a), some (.int c), none, none, none] := ⟨_, rfl⟩
        refine ⟨M1, ?_, fun σ2 H2 hm2 => ?_⟩
        · walk_at "rd"
          refine ⟨_, SqL.of hp1, _, rfl, ?_⟩
          walk_at "rd"
          refine ⟨_, .inl hq1, ite2 (fun h2 => ?_) (fun h2 => ?_)⟩
          · rw [List.length_map] at h2
            refine ⟨_, SqL.of hp1, _, rfl, ?_⟩
            walk_at "rd"
            refine ⟨_, hq1, .int (ns.getD a.toNat 0), at_ints ha h2, ?_⟩
            rw [hM1]
            exact ⟨rfl, _, rfl⟩
          · rw [hM1]
            exact ⟨rfl, _, rfl⟩
        · rw [hM1] at hm2
          obtain ⟨rfl, c, rfl⟩ := hm2
          obtain ⟨M2, hM2⟩ : ∃ M2 : L2.St → Hp → Prop, M2 = fun σ' H' => But p H H' ∧ (∃ v : Int, H' p = some (.lst [.ref q, .int (a + 1), .int v, .int x]) ∧ 0 ≤ v) ∧ ∃ u3 u4, σ' = [some (.ref p), some (nv m), some (.int a), some (.int c), u3, u4, none] := ⟨_, rfl⟩
          refine ⟨M2, ?_, fun σ3 H3 hm3 => ?_⟩
          · walk_at "rd"
            have other : ∀ w1 : Int, 0 ≤ w1 → ∀ u3 u4, M2 [some (.ref p), some (nv m), some (.int a), some (.int c), u3, u4, none] (upd H2 p (.lst ([V.ref q, V.int (a + 1), V.int v, V.int x].set 2 (V.int w1)))) := fun w1 h0 u3 u4 => by
              rw [hM2]
              exact ⟨b1.trans But.upd, ⟨w1, upd_same, h0⟩, u3, u4, rfl⟩
            refine ite2 (fun h3 => ite2 (fun h4 => ?_) (fun h4 => ?_)) (fun h3 => ?_)
            · refine ⟨.inr ⟨by decide, by decide⟩, .inr ⟨by decide, by decide⟩, _, SqL.of hp1, _, rfl, ?_⟩
              walk_at "rd"
              refine ⟨by decide, .inr ⟨by decide, by decide⟩, by decide, .inr ⟨by decide, by decide⟩, _, _, _, _, rfl, rfl, hp1, rfl, other _ ?_ _ _⟩
              exact Int.add_nonneg (Int.mul_nonneg (Int.emod_nonneg _ (by decide)) (by decide)) (Int.emod_nonneg _ (by decide))
            · exact ⟨_, _, _, _, rfl, rfl, hp1, rfl, other _ (by split <;> omega) _ _⟩
            · exact ⟨_, _, _, _, rfl, rfl, hp1, rfl, other _ (by split <;> omega) _ _⟩
          · rw [hM2] at hm3
            obtain ⟨b3, ⟨v3, hp3, hv3⟩, u3, u4, rfl⟩ := hm3
            walk_at "rd"
            refine ⟨_, SqL.of hp3, _, rfl, ?_⟩
            walk_at "rd"
            refine ⟨.inr ⟨by decide, by decide⟩, by decide, _, _, _, _, rfl, rfl, hp3, rfl, ?_⟩
            rw [hM]
            exact ⟨b3.trans But.upd, ⟨_, _, _, upd_same, by omega, hv3⟩, _, _, _, _, rfl⟩
      · rw [hM]
        exact ⟨But.refl _ _, ⟨a, v, x, hp, ha, hv⟩, _, _, _, _, rfl⟩
    · rw [hM] at hm
      obtain ⟨hB, ⟨a1, v1, x1, hp1, ha1, hv1⟩, u1, u2, u3, u4, rfl⟩ := hm
      walk_at "rd"
      have hm0' : (0 : Int) < (m : Int) := by omega
      refine ⟨_, SqL.of hp1, _, rfl, ?_⟩
      walk_at "rd"
      refine ⟨hm0', _, SqL.of hp1, _, rfl, ?_⟩
      walk_at "rd"
      refine ⟨wide_div hm0' (b := 80) (by rw [Int.natAbs_natCast]; exact hm1) (by decide) (by decide), _, _, _, _, rfl, rfl, hp1, rfl, ?_⟩
      have h0 := Int.emod_nonneg v1 (show (m : Int) ≠ 0 by omega)
      have h1 := Int.emod_lt_of_pos v1 hm0'
      have e : v1 % (m : Int) = ((v1 % (m : Int)).toNat : Int) := (Int.toNat_of_nonneg h0).symm
      rw [e]
      have hB2 : But p H (upd H' p (.lst ([V.ref q, V.int a1, V.int v1, V.int x1].set 2 (V.int (v1 / (m : Int)))))) := hB.trans But.upd
      exact ok _ _ (by omega) hB2 ⟨fun H2 b2 => hq _ (hB2.trans b2), a1, _, x1, upd_same, ha1, Int.ediv_nonneg hv1 (by omega)⟩
def sp_table (K : PySem.W.Frag) : Sp := fun vs H Q _ => ∃ (p q : Addr) (ns : List Int) (w n : Nat), vs = [.ref p, nv w, nv n] ∧ Draw K H p q ns ∧ w ≤ 6 ∧ 0 < n ∧ n ≤ 100 ∧ ∀ t rs T H', But p H H' → Draw K H' p q ns → H t = none → (∀ y ∈ rs, H y = none ∧ y ≠ t) → rs.Nodup → H' t = some (.lst (rs.map V.ref)) → RowsAt H' rs T → T.length = n → goodT T (2 ^ w) = true → Q (.ref t) H'
theorem c__law_table {f : Addr} {fd : FuncData} (D : C8.Def K mg "_law_table" s__law_table f fd) (b : Binds K fd ["state", "width", "size"] []) (c__law_draw : C8.Cal P w K mg base 1 "_law_draw" (sp_draw K) []) (z_range : mg "range" = none) : C8.Cal P w K mg base 2 "_law_table" (sp_table K) [] := by
  refine C8.cal0 D b .nil sc__law_table (fun vs H Q E h => ?_) (fun cdv A outer s H vs Q E hr h => ?_)
  · obtain ⟨_, _, _, _, _, rfl, _⟩ := h
    rfl
  · obtain ⟨p, q, ns, w, n, rfl, hD, hw, hn0, hn, ok⟩ := h
    refine ⟨_, (pss_cons (ps_set (i := 3) sc__law_table.nd rfl (by first | exact Or.inl rfl | exact Or.inr rfl) (pe_lst pa_nil)) (pss_cons (ps_for PassesOwn.never rfl (pi_range1 (by rfl) z_range (pa_cons (pv 2) pa_nil)) (pg_name (i := 4) sc__law_table.nd rfl (by first | exact Or.inl rfl | exact Or.inr rfl)) (pss_cons (ps_setLc (i := 5) (own := [("letter", 6)]) (g := (gName 6)) (tt := tYes) rfl sc__law_table.nd rfl rfl (sw_true rfl rfl rfl (by decide +kernel)) (pi_range1 (by rfl) z_range (pa_cons (pe_op op_shlW pe_int (pv 1)) pa_nil)) (blkOk_by (N := N__law_table) (sc := C8.fnScope s__law_table) (by decide +kernel)) (fun _ _ _ _ _ => (pg_name (i := 6) sc__law_table.nd rfl (by first | exact Or.inl rfl | exact Or.inr rfl))) (fun _ _ _ _ _ => pts_nil) (fun _ _ _ _ _ => (C8.pe_c c__law_draw hr (by decide) (by rfl) (pa_cons (pv 0) (pa_cons (pv 2) pa_nil))))) (C8.pss_cut (ps_if (pt_cmpR (op_eq) (C8.pe_c c__law_draw hr (by decide) (by rfl) (pa_cons (pv 0) (pa_cons pe_int pa_nil))) pe_int (nomark _)) (pss_one (ps_asg (pv 4) (pg_sub (pv 5) pe_int set_list))) pss_nil) (pss_one (ps_expr (pe_bm PySem.F.plainAttrs_list PySem.F.slot_list_append PySem.F.type_list_append mt_append (pv 3) (pa_cons (pv 5) pa_nil))))))) (pss_one (ps_ret (pv 3))))), ?_⟩
    walk_at "rd"
    have h64 : 2 ^ w ≤ 64 := Nat.pow_le_pow_right (by decide) hw
    have hpos : 0 < 2 ^ w := Nat.two_pow_pos w
    refine ⟨by decide, fun t ht => ⟨by omega, by omega, ?_⟩⟩
    have htp := hD.ne ht
    refine for_rangeN (fun i σ H1 => (∃ u1 u2 u3, σ = [some (V.ref p), some (nv w), some (nv n), some (.ref t), u1, u2, u3]) ∧ ∃ rs T, But p H H1 ∧ Draw K H1 p q ns ∧ (∀ y ∈ rs, H y = none ∧ y ≠ t) ∧ rs.Nodup ∧ H1 t = some (.lst (rs.map V.ref)) ∧ RowsAt H1 rs T ∧ T.length = i ∧ ∀ r ∈ T, goodRow n (2 ^ w) r = true) ?_ ?_ ?_
    · exact ⟨⟨_, _, _, rfl⟩, [], [], But.of (same_upd ht), hD.same (same_upd ht), (fun _ h => nomatch h), List.nodup_nil, upd_same, ⟨rfl, fun i a r h _ => nomatch h⟩, rfl, fun _ h => nomatch h⟩
    · rintro i σ H1 N hi ⟨⟨u1, u2, u3, rfl⟩, rs, T, b1, D1, nr1, nd1, h1, r1, l1, g1⟩ hN
      walk_at "rd"
      refine ⟨shlN (n := 1) (b := 1) (by decide) (by omega), ?_⟩
      rw [i_one, Int.toNat_natCast]
      refine ⟨by omega, by omega, fun D hDn => ?_⟩
      have hDp := D1.ne hDn
      have hDt : D ≠ t := (ne_of_none h1 hDn).symm
      refine lc_rangeN (fun j H2 => ∃ ls : List Int, ls.length = j ∧ (∀ x ∈ ls, 0 ≤ x ∧ x < (n : Int)) ∧ H2 D = some (.lst (ls.map V.int)) ∧ But p H1 H2 ∧ Draw K H2 p q ns) ?_ ?_ ?_
      · exact ⟨[], rfl, (fun _ h => nomatch h), upd_same, But.of (same_upd hDn), D1.same (same_upd hDn)⟩
      · rintro j H2 N2 hj ⟨ls, hl2, hm2, h2, b2, D2⟩ hN2
        walk_at "rd"
        refine ⟨p, q, ns, n, rfl, D2, hn0, Nat.lt_of_le_of_lt hn (by decide), fun x H3 hx b3 D3 => ?_⟩
        refine ⟨_, b3 _ _ hDp h2, smallt (by rw [List.length_map]; omega), hN2 _ ⟨ls ++ [(x : Int)], by rw [List.length_append, hl2]; rfl, ?_, ?_, (b2.trans b3).new hDn, D1.upd (b2.trans b3) D3 hDn⟩⟩
        · intro y hy
          rcases List.mem_append.mp hy with hy | hy
          · exact hm2 y hy
          · rw [List.mem_singleton.mp hy]; omega
        · rw [upd_same, List.map_append]
          rfl
      · rintro H2 ⟨ls, hl2, hm2, h2, b2, D2⟩
        refine cut_by (fun σ' H' => (∃ u3, [some (V.ref p), some (nv w), some (nv n), some (.ref t), some (.int (i : Nat)), some (.ref D), u3] = σ') ∧ ∃ ls : List Int, ls.length = 2 ^ w ∧ (∀ x ∈ ls, 0 ≤ x ∧ x < (n : Int)) ∧ H' D = some (.lst (ls.map V.int)) ∧ But p H1 H' ∧ Draw K H' p q ns) (fun N2 hN2 => ?_) ?_
        · walk_at "rd"
          refine ⟨p, q, ns, 3, rfl, D2, by decide, by decide, fun c H3 hc b3 D3 => ⟨rfl, ?_⟩⟩
          have h3 := b3 _ _ hDp h2
          refine ite2 (fun _ => ?_) (fun _ => hN2 _ _ ⟨⟨_, rfl⟩, ls, hl2, hm2, h3, b2.trans b3, D3⟩)
          refine setL_of (j := 0) h3 (by rw [List.length_map]; omega) (hN2 _ _ ⟨⟨_, rfl⟩, ls.set 0 (i : Nat), by rw [List.length_set]; exact hl2, ?_, ?_, (b2.trans b3).new hDn, D1.upd (b2.trans b3) D3 hDn⟩)
          · intro y hy
            rcases List.mem_or_eq_of_mem_set hy with hy | hy
            · exact hm2 y hy
            · rw [hy]; omega
          · rw [upd_same, List.map_set]
        · rintro σ' H4 ⟨⟨u4, rfl⟩, ls4, hl4, hm4, h4, b4, D4⟩
          walk_at "rd"
          have h4t := b4 _ _ htp h1
          refine ⟨tyL h4t, _, h4t, by rw [List.length_map, r1.len]; exact smallt (by omega), hN _ _ ⟨⟨_, _, _, rfl⟩, rs ++ [D], T ++ [ls4], (b1.trans b4).new ht, hD.upd (b1.trans b4) D4 ht, ?_, nodup_snoc nd1 (r1.free hDn), ?_, ?_, by rw [List.length_append, l1]; rfl, ?_⟩⟩
          · intro y hy
            rcases List.mem_append.mp hy with hy | hy
            · exact nr1 y hy
            · rw [List.mem_singleton.mp hy]
              exact ⟨hD.free b1 D1 hDn, hDt⟩
          · rw [upd_same, List.map_append]
            rfl
          · refine RowsAt.but (RowsAt.snoc (r1.but b4 fun y hy => hD.ne (nr1 y hy).1) h4) But.upd fun y hy => ?_
            rcases List.mem_append.mp hy with hy | hy
            · exact (nr1 y hy).2
            · rw [List.mem_singleton.mp hy]; exact hDt
          · intro r hr2
            rcases List.mem_append.mp hr2 with hr2 | hr2
            · exact g1 r hr2
            · rw [List.mem_singleton.mp hr2]
              unfold goodRow
              rw [decide_eq_true hl4, Bool.true_and, List.all_eq_true]
              intro x hx
              have := hm4 x hx
              rw [decide_eq_true this.1, decide_eq_true this.2]
              rfl
    · rintro σ H1 ⟨⟨u1, u2, u3, rfl⟩, rs, T, b1, D1, nr1, nd1, h1, r1, l1, g1⟩
      walk_at "rd"
      exact ok t rs T H1 b1 D1 ht nr1 nd1 h1 r1 l1 (by unfold goodT; rw [List.all_eq_true, l1]; exact g1)
def sp_marks (K : PySem.W.Frag) : Sp := fun vs H Q _ => ∃ (p q : Addr) (ns : List Int) (t : Addr) (rs : List Addr) (T : List (List Int)) (l : Nat), vs = [.ref p, .ref t] ∧ Draw K H p q ns ∧ H t = some (.lst (rs.map V.ref)) ∧ RowsAt H rs T ∧ t ≠ p ∧ (∀ y ∈ rs, y ≠ p) ∧ goodT T l = true ∧ 0 < l ∧ T.length ≤ 100 ∧ ∀ (a : Addr) (acc : List Bool) H', But p H H' → Draw K H' p q ns → H a = none → H' a = some (.lst (acc.map V.bl)) → acc.length = T.length → (∀ i, i < T.length → acc[i]? = acc[nxt T i 0]?) → Q (.ref a) H'
theorem c__law_marks {f : Addr} {fd : FuncData} (D : C8.Def K mg "_law_marks" s__law_marks f fd) (b : Binds K fd ["state", "table"] []) (c__law_draw : C8.Cal P w K mg base 1 "_law_draw" (sp_draw K) []) (z_range : mg "range" = none) (z_list : mg "list" = none) (z_len : mg "len" = none) (z_min : mg "min" = none) : C8.Cal P w K mg base 2 "_law_marks" (sp_marks K) [] := by
  refine C8.cal0 D b .nil sc__law_marks (fun vs H Q E h => ?_) (fun cdv A outer s H vs Q E hr h => ?_)
  · obtain ⟨_, _, _, _, _, _, _, rfl, _⟩ := h
    rfl
  · obtain ⟨p, q, ns, t, rs, T, l, rfl, hD, ht, hr1, htp, hrp, hgood, hl, hn, ok⟩ := h
    refine ⟨_, (pss_cons (ps_set (i := 2) sc__law_marks.nd rfl (by first | exact Or.inl rfl | exact Or.inr rfl) (pe_listRg rfl (by rfl) z_list (prg_1 (by rfl) z_range (pe_callB (lenS K) (by rfl) z_len PySem.boot_len (pa_cons (pv 1) pa_nil))))) (pss_cons (ps_for PassesOwn.never rfl (pi_range1 (by rfl) z_range (pa_cons (pe_callB (lenS K) (by rfl) z_len PySem.boot_len (pa_cons (pv 1) pa_nil)) pa_nil)) (pg_name (i := 3) sc__law_marks.nd rfl (by first | exact Or.inl rfl | exact Or.inr rfl)) (pss_one (ps_for PassesOwn.never rfl (pi_range1 (by rfl) z_range (pa_cons (pe_callB (lenS K) (by rfl) z_len PySem.boot_len (pa_cons (pv 1) pa_nil)) pa_nil)) (pg_name (i := 4) sc__law_marks.nd rfl (by first | exact Or.inl rfl | exact Or.inr rfl)) (pss_cons (ps_set (i := 5) sc__law_marks.nd rfl (by first | exact Or.inl rfl | exact Or.inr rfl) (pe_callB (call_min2 rfl) (by rfl) z_min (by decide +kernel) (pa_cons (pe_ix (ixL K) (pv 2) (pv 4) (fun _ _ => rfl)) (pa_cons (pe_ix (ixL K) (pv 2) (pe_ix (ixL K) (pe_ix (ixL K) (pv 1) (pv 4) (fun _ _ => rfl)) pe_int (fun _ _ => rfl)) (fun _ _ => rfl)) pa_nil)))) (pss_cons (ps_asg (pv 5) (pg_sub (pv 2) (pv 4) set_list)) (pss_one (ps_asg (pv 5) (pg_sub (pv 2) (pe_ix (ixL K) (pe_ix (ixL K) (pv 1) (pv 4) (fun _ _ => rfl)) pe_int (fun _ _ => rfl)) set_list)))))))) (pss_cons (ps_set (i := 6) sc__law_marks.nd rfl (by first | exact Or.inl rfl | exact Or.inr rfl) (pe_lc (own := [("k", 4)]) (g := (gName 4)) (tt := tYes) rfl sc__law_marks.nd (pi_range1 (by rfl) z_range (pa_cons (pe_callB (lenS K) (by rfl) z_len PySem.boot_len (pa_cons (pv 1) pa_nil)) pa_nil)) (blkOk_by (N := N__law_marks) (sc := C8.fnScope s__law_marks) (by decide +kernel)) (fun _ _ _ _ _ => (pg_name (i := 4) sc__law_marks.nd rfl (by first | exact Or.inl rfl | exact Or.inr rfl))) (fun _ _ _ _ _ => pts_nil) (fun _ _ _ _ _ => (pe_cmpR (op_eq) (C8.pe_c c__law_draw hr (by decide) (by rfl) (pa_cons (pv 0) (pa_cons pe_int pa_nil))) pe_int (nomark _))))) (pss_one (ps_ret (pe_lc (own := [("k", 4)]) (g := (gName 4)) (tt := tYes) rfl sc__law_marks.nd (pi_range1 (by rfl) z_range (pa_cons (pe_callB (lenS K) (by rfl) z_len PySem.boot_len (pa_cons (pv 1) pa_nil)) pa_nil)) (blkOk_by (N := N__law_marks) (sc := C8.fnScope s__law_marks) (by decide +kernel)) (fun _ _ _ _ _ => (pg_name (i := 4) sc__law_marks.nd rfl (by first | exact Or.inl rfl | exact Or.inr rfl))) (fun _ _ _ _ _ => pts_nil) (fun _ _ _ _ _ => (pe_ix (ixL K) (pv 6) (pe_ix (ixL K) (pv 2) (pv 4) (fun _ _ => rfl)) (fun _ _ => rfl))))))))), ?_⟩
    walk_at "rd"
    have hlen : ((rs.map V.ref).length : Int) = (T.length : Int) := by rw [List.length_map, hr1.len]
    refine ⟨_, .inl (SqL.of ht), ?_⟩
    rw [hlen]
    refine ⟨RgOk.of_le (by decide) (by omega) (by decide) (by omega), fun g0 hg0 => ?_⟩
    rw [rgV_zero]
    obtain ⟨n, hnT⟩ : ∃ n, n = T.length := ⟨_, rfl⟩
    obtain ⟨f, hff⟩ : ∃ f, f = fun x => nxt T x 0 := ⟨_, rfl⟩
    have hfn : ∀ x, f x = nxt T x 0 := fun x => by rw [hff]
    have hf : ∀ x, x < n → f x < n := fun x hx => by
      obtain ⟨_, _, _, h⟩ := goodT_at hgood (s := x) (a := 0) (by omega) hl
      rw [hfn]
      omega
    obtain ⟨H0, hH0⟩ : ∃ H0, H0 = upd H g0 (.lst (((List.range n).map (trn f n id 0)).map nv)) := ⟨_, rfl⟩
    have s0 : Same H H0 := by rw [hH0]; exact same_upd hg0
    have e0 : H0 g0 = some (.lst (((List.range n).map (trn f n id 0)).map nv)) := by rw [hH0, upd_same]
    have eq0 : upd H g0 (.lst (((List.range T.length).map fun x => x).map nv)) = H0 := by rw [hH0, hnT]; rfl
    rw [eq0]
    have ht0 := s0 _ _ ht
    have r0 := hr1.same s0
    have ntg : t ≠ g0 := ne_of_none ht hg0
    have nrg : ∀ y ∈ rs, y ≠ g0 := fun y hy e => hr1.free hg0 (e ▸ hy)
    refine ⟨_, .inl (SqL.of ht0), by omega, by omega, ?_⟩
    rw [List.length_map, hr1.len, ← hnT]
    have glen : ∀ h : Nat → Nat, (((List.range n).map h).map nv).length = n := fun h => by rw [List.length_map, List.length_map, List.length_range]
    have gat : ∀ (h : Nat → Nat) (x : Nat), x < n → atI (((List.range n).map h).map nv) (x : Int) = some (nv (h x)) := fun h x hx => at_map (by rw [List.getElem?_map, List.getElem?_range hx]; rfl)
    have gset : ∀ (h : Nat → Nat) (k v : Nat), (((List.range n).map h).map nv).set k (nv v) = ((List.range n).map fun x => if x = k then v else h x).map nv := fun h k v => by rw [← map_set, List.map_set]
    refine for_rangeN (fun i σ H1 => (∃ u1 u2 u3, σ = [some (V.ref p), some (.ref t), some (.ref g0), u1, u2, u3, none]) ∧ But g0 H0 H1 ∧ H1 g0 = some (.lst (((List.range n).map (trn f n id i)).map nv))) ?_ ?_ ?_
    · exact ⟨⟨_, _, _, rfl⟩, But.refl _ _, e0⟩
    · rintro i σ H1 N hi ⟨⟨u1, u2, u3, rfl⟩, b1, e1⟩ hN
      have ht1 := b1 _ _ ntg ht0
      walk_at "rd"
      refine ⟨_, .inl (SqL.of ht1), by omega, by omega, ?_⟩
      rw [List.length_map, hr1.len, ← hnT]
      refine for_rangeN (fun j σ H2 => (∃ u1 u2 u3, σ = [some (V.ref p), some (.ref t), some (.ref g0), u1, u2, u3, none]) ∧ But g0 H0 H2 ∧ H2 g0 = some (.lst (((List.range n).map (rnd f (trn f n id i) j)).map nv))) ?_ ?_ ?_
      · exact ⟨⟨_, _, _, rfl⟩, b1, e1⟩
      · rintro j σ H2 N2 hj ⟨⟨u1, u2, u3, rfl⟩, b2, e2⟩ hN2
        obtain ⟨h, hh⟩ : ∃ h, h = rnd f (trn f n id i) j := ⟨_, rfl⟩
        rw [← hh] at e2
        have ht2 := b2 _ _ ntg ht0
        have r2 := r0.but b2 nrg
        obtain ⟨r, er, e3, _⟩ := goodT_at hgood (s := j) (a := 0) (by omega) hl
        rw [← hfn] at e3
        obtain ⟨ra, hra, hrow⟩ := r2.get er
        have hfj := hf j hj
        walk_at "rd"
        refine ⟨_, SqL.of e2, nv (h j), gat h j hj, _, SqL.of ht2, .ref ra, at_map hra, ra, rfl, _, SqL.of hrow, nv (f j), at_map e3, _, _, rfl, SqL.of e2, nv (h (f j)), gat h _ hfj, _, _, ⟨rfl, rfl⟩, ?_⟩
        have elow : (if ((h (f j) : Nat) : Int) < ((h j : Nat) : Int) then ((h (f j) : Nat) : Int) else ((h j : Nat) : Int)) = ((min (h j) (h (f j)) : Nat) : Int) := by
          split <;> omega
        rw [elow]
        obtain ⟨low, hlow⟩ : ∃ low, low = min (h j) (h (f j)) := ⟨_, rfl⟩
        rw [← hlow]
        refine setL_of e2 (by rw [glen]; exact hj) ?_
        rw [gset]
        obtain ⟨H3, hH3⟩ : ∃ H3, H3 = upd H2 g0 (.lst (((List.range n).map fun x => if x = j then low else h x).map nv)) := ⟨_, rfl⟩
        have b3 : But g0 H0 H3 := by rw [hH3]; exact b2.trans But.upd
        have e4 : H3 g0 = some (.lst (((List.range n).map fun x => if x = j then low else h x).map nv)) := by rw [hH3, upd_same]
        rw [← hH3]
        obtain ⟨ra3, hra3, hrow3⟩ := (r0.but b3 nrg).get er
        refine ⟨_, SqL.of (b3 _ _ ntg ht0), .ref ra3, at_map hra3, ra3, rfl, _, SqL.of hrow3, nv (f j), at_map e3, ?_⟩
        refine setL_of e4 (by rw [glen]; exact hfj) ?_
        rw [gset]
        refine hN2 _ _ ⟨⟨_, _, _, rfl⟩, b3.trans But.upd, ?_⟩
        rw [upd_same]
        refine congrArg (fun z => some (HO.lst (z.map nv))) (List.map_congr_left fun x _ => ?_)
        show _ = rel f (rnd f (trn f n id i) j) j x
        unfold rel
        rw [← hh, ← hlow]
      · rintro σ H2 ⟨⟨u1, u2, u3, rfl⟩, b2, e2⟩
        exact hN _ _ ⟨⟨_, _, _, rfl⟩, b2, e2⟩
    · rintro σ H1 ⟨⟨u1, u2, u3, rfl⟩, b1, e1⟩
      obtain ⟨G, hG⟩ : ∃ G, G = trn f n id n := ⟨_, rfl⟩
      rw [← hG] at e1
      have ht1 := b1 _ _ ntg ht0
      have s1 : Same H H1 := same_of_but hg0 ((But.of s0).trans b1)
      have D1 := hD.same s1
      walk_at "rd"
      refine ⟨_, .inl (SqL.of ht1), by omega, by omega, fun Md hMd => ?_⟩
      rw [List.length_map, hr1.len, ← hnT]
      have hMp := D1.ne hMd
      refine lc_rangeN (fun i H2 => ∃ ms : List Bool, ms.length = i ∧ H2 Md = some (.lst (ms.map V.bl)) ∧ But p H1 H2 ∧ Draw K H2 p q ns) ?_ ?_ ?_
      · exact ⟨[], rfl, upd_same, But.of (same_upd hMd), D1.same (same_upd hMd)⟩
      · rintro i H2 N2 hi ⟨ms, hl2, h2, b2, D2⟩ hN2
        walk_at "rd"
        refine ⟨p, q, ns, 2, rfl, D2, by decide, by decide, fun x H3 hx b3 D3 => ⟨rfl, ?_⟩⟩
        refine ⟨_, b3 _ _ hMp h2, smallt (by rw [List.length_map]; omega), hN2 _ ⟨ms ++ [decide (V.int (x : Int) = V.int 1)], by rw [List.length_append, hl2]; rfl, ?_, (b2.trans b3).new hMd, D1.upd (b2.trans b3) D3 hMd⟩⟩
        rw [upd_same, List.map_append]
        rfl
      · rintro H2 ⟨ms, hl2, h2, b2, D2⟩
        have ht2 := b2 _ _ htp ht1
        have hgp : g0 ≠ p := hD.ne hg0
        have e2 := b2 _ _ hgp e1
        refine ⟨_, .inl (SqL.of ht2), by omega, by omega, fun A hA => ?_⟩
        rw [List.length_map, hr1.len, ← hnT]
        have hGn : ∀ x, x < n → G x < n := fun x hx => by
          rw [hG]
          exact Nat.lt_of_le_of_lt (trn_le f n n x) hx
        refine lc_map walk_range (fun k => .bl (ms.getD (G k) false)) (by omega) hA (fun _ _ => trivial) ?_ ?_
        · rintro i x H5 H6 N2 hi s5 ⟨rfl, rfl⟩ hN2
          walk_at "rd"
          have hgi := hGn i hi
          refine ⟨_, SqL.of (s5 _ _ e2), nv (G i), gat G i hi, _, _, rfl, SqL.of (s5 _ _ h2), .bl (ms.getD (G i) false), at_map ?_, hN2 _ (Same.refl _)⟩
          rw [List.getD_eq_getElem?_getD, List.getElem?_eq_getElem (by omega)]
          rfl
        · intro H5 s5 h5
          have eacc : (List.range n).map (fun k => V.bl (ms.getD (G k) false)) = ((List.range n).map fun k => ms.getD (G k) false).map V.bl := by rw [List.map_map]; rfl
          rw [eacc] at h5
          have b15 : But p H1 H5 := b2.trans (But.of s5)
          refine ok A _ H5 ((But.of s1).trans b15) (D2.same s5) (hD.free ((But.of s1).trans b2) D2 hA) h5 (by rw [List.length_map, List.length_range, hnT]) fun i hi => ?_
          rw [← hnT] at hi
          have := hf i hi
          rw [← hfn, List.getElem?_map, List.getElem?_map, List.getElem?_range hi, List.getElem?_range this]
          show some (ms.getD (G i) false) = some (ms.getD (G (f i)) false)
          rw [hG, trn_settled hf hi]
def sp_parts (K : PySem.W.Frag) : Sp := fun vs H Q _ => ∃ (p q : Addr) (ns : List Int) (w m : Nat), vs = [.ref p, nv w, nv m] ∧ Draw K H p q ns ∧ w ≤ 6 ∧ 0 < m ∧ m ≤ 99 ∧ ∀ z t a (rs : List Addr) T acc H', But p H H' → Draw K H' p q ns → H t = none → H a = none → t ≠ a → (∀ y ∈ rs, H y = none ∧ y ≠ t ∧ y ≠ a) → rs.Nodup → H' z = some (.tup [.ref t, .ref a]) → H' t = some (.lst (rs.map V.ref)) → RowsAt H' rs T → H' a = some (.lst (acc.map V.bl)) → MOk w T acc → T.length ≤ m → Q (.ref z) H'
theorem c__law_parts {f : Addr} {fd : FuncData} (D : C8.Def K mg "_law_parts" s__law_parts f fd) (b : Binds K fd ["state", "width", "most"] []) (c__law_draw : C8.Cal P w K mg base 1 "_law_draw" (sp_draw K) []) (c__law_table : C8.Cal P w K mg base 2 "_law_table" (sp_table K) []) (c__law_marks : C8.Cal P w K mg base 2 "_law_marks" (sp_marks K) []) : C8.Cal P w K mg base 3 "_law_parts" (sp_parts K) [] := by
  refine C8.cal0 D b .nil sc__law_parts (fun vs H Q E h => ?_) (fun cdv A outer s H vs Q E hr h => ?_)
  · obtain ⟨_, _, _, _, _, rfl, _⟩ := h
    rfl
  · obtain ⟨p, q, ns, w, m, rfl, hD, hw, hm0, hm, ok⟩ := h
    refine ⟨_, (pss_cons (ps_set (i := 3) sc__law_parts.nd rfl (by first | exact Or.inl rfl | exact Or.inr rfl) (pe_op op_add pe_int (C8.pe_c c__law_draw hr (by decide) (by rfl) (pa_cons (pv 0) (pa_cons (pv 2) pa_nil))))) (pss_cons (ps_set (i := 4) sc__law_parts.nd rfl (by first | exact Or.inl rfl | exact Or.inr rfl) (C8.pe_c c__law_table hr (by decide) (by rfl) (pa_cons (pv 0) (pa_cons (pv 1) (pa_cons (pv 3) pa_nil))))) (pss_one (ps_ret (pe_tup (pa_cons (pv 4) (pa_cons (C8.pe_c c__law_marks hr (by decide) (by rfl) (pa_cons (pv 0) (pa_cons (pv 4) pa_nil))) pa_nil))))))), ?_⟩
    walk_at "rd"
    refine ⟨p, q, ns, m, rfl, hD, hm0, Nat.lt_of_le_of_lt hm (by decide), fun x H1 hx b1 D1 => ⟨_, rfl, ?_⟩⟩
    have ex : (1 : Int) + (x : Int) = ((1 + x : Nat) : Int) := by omega
    rw [ex]
    refine ⟨p, q, ns, w, 1 + x, rfl, D1, hw, by omega, by omega, fun t rs T H2 b2 D2 ht nrs nd h2 r2 l2 g2 => ?_⟩
    have htp := D1.ne ht
    refine ⟨p, q, ns, t, rs, T, 2 ^ w, rfl, D2, h2, r2, htp, fun y hy => D1.ne (nrs y hy).1, g2, Nat.two_pow_pos w, by omega, fun a acc H3 b3 D3 ha h3 l3 set3 => ⟨by decide, fun z hz => ?_⟩⟩
    have h3t := b3 _ _ htp h2
    have fr : ∀ y, H1 y = none → H y = none := fun y hy => hD.free b1 D1 hy
    refine ok z t a rs T acc _ ((b1.trans (b2.trans b3)).trans (But.of (same_upd hz))) (D3.same (same_upd hz)) (fr t ht) (fr a (D1.free b2 D2 ha)) (ne_of_none h2 ha) (fun y hy => ⟨fr y (nrs y hy).1, (nrs y hy).2, fun e => r2.free ha (e ▸ hy)⟩) nd upd_same ((same_upd hz) _ _ h3t) ((r2.but b3 fun y hy => D1.ne (nrs y hy).1).same (same_upd hz)) ((same_upd hz) _ _ h3) ⟨hw, by omega, by omega, g2, l3, set3⟩ (by omega)
theorem cls_const {T : List (List Int)} {acc : List Bool} {k : Nat} (h : cls T acc (k + 1) = cls T acc k) : ∀ d, cls T acc (k + d) = cls T acc k := fun d => cls_stay h d
section
variable {w : Nat} {T : List (List Int)} {acc : List Bool} {C : List Nat}
/-- two states are apart if and only if their classes differ -/
theorem StabC.ap_iff (h : StabC T acc C) (k : MOk w T acc) {s t : Nat} (hs : s < T.length) (ht : t < T.length) : Ap T acc (2 ^ w) s t ↔ C.getD s 0 ≠ C.getD t 0 := by
  obtain ⟨kk, rfl, est, _⟩ := h
  rw [cls_getD, cls_getD]
  constructor
  · rintro ⟨n, h⟩
    by_cases hn : n ≤ kk
    · exact (cls_ap k kk s t hs ht).mpr (h.mono hn)
    · have h1 := (cls_ap k n s t hs ht).mpr h
      have e := cls_const est (n - kk)
      rw [show kk + (n - kk) = n by omega] at e
      rw [← cls_getD, ← cls_getD, e, cls_getD, cls_getD] at h1
      exact h1
  · intro h
    exact ⟨kk, (cls_ap k kk s t hs ht).mp h⟩
/-- a class not met has the number of how many were met -/
theorem StabC.first (h : StabC T acc C) (hal : acc.length = T.length) {i : Nat} (hi : i < T.length) (hno : ∀ j, j < i → C.getD j 0 ≠ C.getD i 0) : C.getD i 0 = nC ((C.take i).map fun x => ((x : Nat) : Int)) := by
  obtain ⟨kk, rfl, _, _⟩ := h
  rw [cls_sg] at hno ⊢
  exact num_new (by rw [sg_len hal]; exact hi) hno
/-- the label behind a word is the class behind it -/
theorem fold_gC (h : StabC T acc C) (k : MOk w T acc) : ∀ (ws : List Nat), (∀ x ∈ ws, x < 2 ^ w) → ∀ s, s < T.length → ws.foldl (gC T C) ((C.getD s 0 : Nat) : Int) = ((C.getD (runT T s ws) 0 : Nat) : Int)
  | [], _, _, _ => rfl
  | x :: r, hx, s, hs => by
    obtain ⟨_, _, _, l1⟩ := goodT_at k.good hs (hx x List.mem_cons_self)
    show r.foldl (gC T C) (gC T C ((C.getD s 0 : Nat) : Int) x) = _
    rw [gC_at h k hs (hx x List.mem_cons_self)]
    exact fold_gC h k r (fun y hy => hx y (List.mem_cons_of_mem _ hy)) _ l1
end
/-! one search carried to another -/
section
variable {L M : Type} [DecidableEq L] [DecidableEq M] {g : L → Nat → L} {g' : M → Nat → M} {h : L → M} {S : List L}
theorem ixL1_map (inj : ∀ a ∈ S, ∀ b ∈ S, h a = h b → a = b) {y : L} (hy : y ∈ S) : ∀ {f : List L}, (∀ x ∈ f, x ∈ S) → ixL1 (h y) (f.map h) = ixL1 y f
  | [], _ => rfl
  | x :: f, hf => by
    show (if h x = h y then 0 else ixL1 (h y) (f.map h) + 1) = if x = y then 0 else ixL1 y f + 1
    rw [ixL1_map inj hy fun z hz => hf z (List.mem_cons_of_mem _ hz)]
    by_cases e : x = y
    · rw [if_pos e, if_pos (congrArg h e)]
    · rw [if_neg e, if_neg fun z => e (inj x (hf x List.mem_cons_self) y hy z)]
theorem mem_mapI (inj : ∀ a ∈ S, ∀ b ∈ S, h a = h b → a = b) {y : L} (hy : y ∈ S) {f : List L} (hf : ∀ x ∈ f, x ∈ S) : h y ∈ f.map h ↔ y ∈ f := by
  constructor
  · intro hm
    obtain ⟨x, hx, e⟩ := List.mem_map.mp hm
    rw [← inj x (hf x hx) y hy e]
    exact hx
  · exact List.mem_map_of_mem
theorem stepL_map (inj : ∀ a ∈ S, ∀ b ∈ S, h a = h b → a = b) {y : L} (hy : y ∈ S) {p : List L × List Nat} (hf : ∀ x ∈ p.1, x ∈ S) : stepL (h y) (p.1.map h, p.2) = ((stepL y p).1.map h, (stepL y p).2) := by
  unfold stepL
  by_cases hm : y ∈ p.1
  · rw [if_pos hm, if_pos ((mem_mapI inj hy hf).mpr hm)]
    show (p.1.map h, p.2 ++ [ixL1 (h y) (p.1.map h)]) = _
    rw [ixL1_map inj hy hf]
  · rw [if_neg hm, if_neg fun z => hm ((mem_mapI inj hy hf).mp z)]
    show (p.1.map h ++ [h y], p.2 ++ [(p.1.map h).length]) = ((p.1 ++ [y]).map h, p.2 ++ [p.1.length])
    rw [List.length_map, List.map_append]
    rfl
theorem rowF_map {G : Nat → L} {G' : Nat → M} {f0 : List L} (inj : ∀ a ∈ S, ∀ b ∈ S, h a = h b → a = b) (hf : ∀ x ∈ f0, x ∈ S) : ∀ n, (∀ j, j < n → G j ∈ S) → (∀ j, j < n → G' j = h (G j)) → rowF G' (f0.map h) n = ((rowF G f0 n).1.map h, (rowF G f0 n).2)
  | 0, _, _ => rfl
  | n + 1, hG, e => by
    show stepL (G' n) (rowF G' (f0.map h) n) = ((stepL (G n) (rowF G f0 n)).1.map h, (stepL (G n) (rowF G f0 n)).2)
    rw [rowF_map inj hf n (fun j hj => hG j (Nat.lt_succ_of_lt hj)) fun j hj => e j (Nat.lt_succ_of_lt hj), e n (Nat.lt_succ_self n)]
    exact stepL_map inj (hG n (Nat.lt_succ_self n)) (rowF_mem hf n fun i hi => hG i (Nat.lt_succ_of_lt hi))
theorem bfsN_map {n : Nat} {l0 : L} (h0 : l0 ∈ S) (hc : ∀ l ∈ S, ∀ j, j < n → g l j ∈ S) (inj : ∀ a ∈ S, ∀ b ∈ S, h a = h b → a = b) (comm : ∀ l ∈ S, ∀ j, j < n → g' (h l) j = h (g l j)) : ∀ k, bfsN g' n (h l0) k = ((bfsN g n l0 k).1.map h, (bfsN g n l0 k).2)
  | 0 => rfl
  | k + 1 => by
    have ih := bfsN_map h0 hc inj comm k
    have hm := bfsN_mem (g := g) h0 hc k
    show (match (bfsN g' n (h l0) k).1[k]? with | some l => ((rowF (g' l) (bfsN g' n (h l0) k).1 n).1, (bfsN g' n (h l0) k).2 ++ [(rowF (g' l) (bfsN g' n (h l0) k).1 n).2]) | none => bfsN g' n (h l0) k) = ((match (bfsN g n l0 k).1[k]? with | some l => ((rowF (g l) (bfsN g n l0 k).1 n).1, (bfsN g n l0 k).2 ++ [(rowF (g l) (bfsN g n l0 k).1 n).2]) | none => bfsN g n l0 k).1.map h, (match (bfsN g n l0 k).1[k]? with | some l => ((rowF (g l) (bfsN g n l0 k).1 n).1, (bfsN g n l0 k).2 ++ [(rowF (g l) (bfsN g n l0 k).1 n).2]) | none => bfsN g n l0 k).2)
    rw [ih]
    simp only [List.getElem?_map]
    cases e : (bfsN g n l0 k).1[k]? with
    | none => rfl
    | some l =>
      have hl := hm l (List.mem_of_getElem? e)
      have hr := rowF_map (G := g l) (G' := g' (h l)) inj hm n (fun j hj => hc l hl j hj) fun j hj => comm l hl j hj
      simp only [Option.map_some]
      rw [hr]
theorem BfsI.carry {U : List L} {U' : List M} {n : Nat} {l0 : L} {f : List L} {f' : List M} {T T' : List (List Nat)} (bf : BfsI g U n l0 f T) (al : T.length = f.length) (bf' : BfsI g' U' n (h l0) f' T') (al' : T'.length = f'.length)
    (inj : ∀ a ∈ f, ∀ b ∈ f, h a = h b → a = b) (comm : ∀ l ∈ f, ∀ j, j < n → g' (h l) j = h (g l j)) : f' = f.map h ∧ T' = T := by
  have hc : ∀ l ∈ f, ∀ j, j < n → g l j ∈ f := fun l hl j hj => by
    obtain ⟨i, hi⟩ := List.mem_iff_getElem?.mp hl
    obtain ⟨_, _, _, _, _, e, _⟩ := bfs_row bf al hi hj
    exact List.mem_of_getElem? e
  have e := bfsN_map (g := g) (g' := g') (List.mem_of_getElem? bf.hd) hc inj comm T.length
  rw [bf.fn] at e
  have st := bfsN_stop (g := g') (n := n) (l0 := h l0) (k := T.length) (by rw [e]; exact List.getElem?_eq_none (by show (f.map h).length ≤ T.length; rw [List.length_map]; omega))
  have st' := bfsN_stop (g := g') (n := n) (l0 := h l0) (k := T'.length) (by rw [bf'.fn]; exact List.getElem?_eq_none (by show f'.length ≤ T'.length; omega))
  rcases Nat.le_total T.length T'.length with z | z
  · have := st (T'.length - T.length)
    rw [show T.length + (T'.length - T.length) = T'.length by omega, bf'.fn, e] at this
    exact ⟨(Prod.mk.inj this).1, (Prod.mk.inj this).2⟩
  · have := st' (T.length - T'.length)
    rw [show T'.length + (T.length - T'.length) = T.length by omega, bf'.fn, e] at this
    exact ⟨(Prod.mk.inj this).1.symm, (Prod.mk.inj this).2.symm⟩
end
section
variable {w : Nat} {T : List (List Int)} {acc : List Bool} {C : List Nat} {ls : List Int} {T3 : List (List Nat)}
theorem ls_at (h : StabC T acc C) (k : MOk w T acc) (bf : BfsI (gC T C) (clsU C) (2 ^ w) ((C.getD 0 0 : Nat) : Int) ls T3) {i : Nat} (hi : i < ls.length) : ∃ s, s < T.length ∧ ls[i]? = some ((C.getD s 0 : Nat) : Int) := by
  have e : ls[i]? = some ls[i] := List.getElem?_eq_getElem hi
  obtain ⟨s, hs, el⟩ := mem_clsU.mp (bf.sub _ (List.mem_of_getElem? e))
  exact ⟨s, by rw [← h.len k.al]; exact hs, by rw [e, el]⟩
/-- the mark behind a word in a least machine -/
theorem small_run (h : StabC T acc C) (k : MOk w T acc) (bf : BfsI (gC T C) (clsU C) (2 ^ w) ((C.getD 0 0 : Nat) : Int) ls T3) (al : T3.length = ls.length) {i s : Nat} (hs : s < T.length) (hi : ls[i]? = some ((C.getD s 0 : Nat) : Int)) {ws : List Nat} (hw : ∀ x ∈ ws, x < 2 ^ w) : (ls.map (fC acc C)).getD (runT (natT T3) i ws) false = acc.getD (runT T s ws) false := by
  have e := bfs_run bf al ws hw i _ hi
  rw [fold_gC h k ws hw s hs] at e
  rw [List.getD_eq_getElem?_getD, List.getElem?_map, e]
  exact fC_at h k (runT_lt k.good ws s hw hs)
/-- the classes of a least machine are single -/
theorem small_inj (h : StabC T acc C) (k : MOk w T acc) (bf : BfsI (gC T C) (clsU C) (2 ^ w) ((C.getD 0 0 : Nat) : Int) ls T3) (al : T3.length = ls.length) (mk : MOk w (natT T3) (ls.map (fC acc C))) {C' : List Nat} (h' : StabC (natT T3) (ls.map (fC acc C)) C') {i j : Nat} (hi : i < ls.length) (hj : j < ls.length) (e : C'.getD i 0 = C'.getD j 0) : i = j := by
  refine Classical.byContradiction fun hne => ?_
  obtain ⟨s, hs, es⟩ := ls_at h k bf hi
  obtain ⟨t, ht, et⟩ := ls_at h k bf hj
  have hd : C.getD s 0 ≠ C.getD t 0 := fun z => by
    rw [z, ← et] at es
    exact hne ((List.getElem?_inj hi bf.nd).mp es)
  obtain ⟨n, ws, h1, h2, h3⟩ := (h.ap_iff k hs ht).mpr hd
  have ln : (natT T3).length = ls.length := by unfold natT; rw [List.length_map, al]
  refine (h'.ap_iff mk (s := i) (t := j) (by omega) (by omega)).mp ⟨n, ws, h1, h2, ?_⟩ e
  rw [small_run h k bf al hs es h2, small_run h k bf al ht et h2]
  exact h3
/-- the least machine of a least machine -/
theorem least_twice (h : StabC T acc C) (k : MOk w T acc) (bf : BfsI (gC T C) (clsU C) (2 ^ w) ((C.getD 0 0 : Nat) : Int) ls T3) (al : T3.length = ls.length) (mk : MOk w (natT T3) (ls.map (fC acc C))) {C' : List Nat} (h' : StabC (natT T3) (ls.map (fC acc C)) C') {ls' : List Int} {T3' : List (List Nat)}
    (bf' : BfsI (gC (natT T3) C') (clsU C') (2 ^ w) ((C'.getD 0 0 : Nat) : Int) ls' T3') (al' : T3'.length = ls'.length) : T3' = T3 ∧ ls'.map (fC (ls.map (fC acc C)) C') = ls.map (fC acc C) := by
  have ln : (natT T3).length = ls.length := by unfold natT; rw [List.length_map, al]
  have at_ : ∀ l ∈ ls, ∃ i, i < ls.length ∧ ls[i]? = some l ∧ ixL1 l ls = i := fun l hl => by
    obtain ⟨i, hi⟩ := List.mem_iff_getElem?.mp hl
    exact ⟨i, (List.getElem?_eq_some_iff.mp hi).1, hi, ix_at bf.nd hi⟩
  have e0 : ((C'.getD 0 0 : Nat) : Int) = ((C'.getD (ixL1 ((C.getD 0 0 : Nat) : Int) ls) 0 : Nat) : Int) := by rw [ix_at bf.nd bf.hd]
  rw [e0] at bf'
  obtain ⟨r1, r2⟩ := BfsI.carry (h := fun l => ((C'.getD (ixL1 l ls) 0 : Nat) : Int)) bf al bf' al' (fun a ha b hb e => by
    obtain ⟨i, hi, ei, xi⟩ := at_ a ha
    obtain ⟨j, hj, ej, xj⟩ := at_ b hb
    simp only [xi, xj] at e
    have := small_inj h k bf al mk h' hi hj (Int.ofNat.inj e)
    rw [this, ej] at ei
    exact (Option.some.inj ei).symm) (fun l hl j hj => by
    obtain ⟨i, hi, ei, xi⟩ := at_ l hl
    obtain ⟨_, x, _, _, _, e1, e2⟩ := bfs_row bf al ei hj
    simp only [xi]
    rw [gC_at h' mk (by omega) hj, e2, ix_at bf.nd e1])
  refine ⟨r2, ?_⟩
  rw [r1, List.map_map]
  refine List.map_congr_left fun l hl => ?_
  obtain ⟨i, hi, ei, xi⟩ := at_ l hl
  show fC _ C' ((C'.getD (ixL1 l ls) 0 : Nat) : Int) = _
  rw [xi, fC_at h' mk (by omega), List.getD_eq_getElem?_getD, List.getElem?_map, ei]
  rfl
/-! the states reached -/
def RchS (T : List (List Int)) (m s : Nat) : Prop := ∃ ws : List Nat, (∀ x ∈ ws, x < m) ∧ runT T 0 ws = s
theorem RchS.zero (T : List (List Int)) (m : Nat) : RchS T m 0 := ⟨[], (fun _ h => nomatch h), rfl⟩
theorem RchS.step {T : List (List Int)} {m s j : Nat} (h : RchS T m s) (hj : j < m) : RchS T m (nxt T s j) := by
  obtain ⟨ws, h1, rfl⟩ := h
  exact ⟨ws ++ [j], fun x hx => by
    rcases List.mem_append.mp hx with hx | hx
    · exact h1 x hx
    · rw [List.mem_singleton.mp hx]; exact hj, runT_snoc T 0 ws j⟩
def Clo (T : List (List Int)) (m : Nat) (R : List Nat) : Prop := ∀ s ∈ R, ∀ j, j < m → nxt T s j ∈ R
/-- the labels are the classes of the states reached -/
theorem rch_labels (h : StabC T acc C) (k : MOk w T acc) (bf : BfsI (gC T C) (clsU C) (2 ^ w) ((C.getD 0 0 : Nat) : Int) ls T3) (al : T3.length = ls.length) {R : List Nat} (h0 : 0 ∈ R) (hc : Clo T (2 ^ w) R) (hl : ∀ s ∈ R, s < T.length) (hr : ∀ s ∈ R, RchS T (2 ^ w) s) (l : Int) : l ∈ ls ↔ l ∈ R.map fun s => ((C.getD s 0 : Nat) : Int) := by
  constructor
  · refine bf.mem (C := R.map fun s => ((C.getD s 0 : Nat) : Int)) (List.mem_map.mpr ⟨0, h0, rfl⟩) (fun l hl2 j hj => ?_) l
    obtain ⟨s, hs, rfl⟩ := List.mem_map.mp hl2
    exact List.mem_map.mpr ⟨nxt T s j, hc s hs j hj, (gC_at h k (hl s hs) hj).symm⟩
  · intro hm
    obtain ⟨s, hs, rfl⟩ := List.mem_map.mp hm
    obtain ⟨ws, h1, h2⟩ := hr s hs
    have e := bfs_run bf al ws h1 0 _ bf.hd
    rw [fold_gC h k ws h1 0 k.pos, h2] at e
    exact List.mem_of_getElem? e
theorem mem_numF {L : Type} [DecidableEq L] (ks : List L) (y : L) : y ∈ (numF ks).1 ↔ y ∈ ks := by
  have I := numI_of ks
  constructor
  · intro hm
    obtain ⟨x, hx⟩ := List.mem_iff_getElem?.mp hm
    obtain ⟨i, h1, h2⟩ := I.sur x (List.getElem?_eq_some_iff.mp hx).1
    obtain ⟨z, h3, h4⟩ := I.at_ i ks[i] (List.getElem?_eq_getElem h2)
    rw [h1] at h3
    cases h3
    rw [hx] at h4
    rw [Option.some.inj h4]
    exact List.getElem_mem h2
  · intro hm
    obtain ⟨i, hi⟩ := List.mem_iff_getElem?.mp hm
    obtain ⟨x, _, h2⟩ := I.at_ i y hi
    exact List.mem_of_getElem? h2
/-- how many different things stand in a list -/
theorem nC_mem {L : Type} [DecidableEq L] {ks ls : List L} (nd : ls.Nodup) (h : ∀ l, l ∈ ls ↔ l ∈ ks) : nC ks = ls.length := by
  refine Nat.le_antisymm (nodup_le (numI_of ks).nd fun y hy => (h y).mpr ((mem_numF ks y).mp hy)) (nodup_le nd fun y hy => (mem_numF ks y).mpr ((h y).mp hy))
theorem posC_at {ls : List Int} (nd : ls.Nodup) {t : Nat} {l : Int} (h : ls[t]? = some l) : posC ls l = some t := by
  unfold posC
  rw [if_pos (List.mem_of_getElem? h), ix_at nd h]
theorem posC_no {ls : List Int} {l : Int} (h : l ∉ ls) : posC ls l = none := if_neg h
/-- the row of a class -/
theorem row_pos (h : StabC T acc C) (k : MOk w T acc) (bf : BfsI (gC T C) (clsU C) (2 ^ w) ((C.getD 0 0 : Nat) : Int) ls T3) (al : T3.length = ls.length) {s t : Nat} (hs : s < T.length) (ht : ls[t]? = some ((C.getD s 0 : Nat) : Int)) {row : List Int} (hr : T[s]? = some row) : ∃ r3, T3[t]? = some r3 ∧ row.length = r3.length ∧ ∀ j, j < row.length → posC ls ((C.getD (row.getD j 0).toNat 0 : Nat) : Int) = some (r3.getD j 0) := by
  obtain ⟨r, er, hl, _⟩ := goodT_row k.good hs
  rw [hr] at er
  cases er
  obtain ⟨r3, x0, e1, e2, _⟩ := bfs_row bf al ht (Nat.two_pow_pos w)
  refine ⟨r3, e1, by omega, fun j hj => ?_⟩
  obtain ⟨r3', x, e3, _, e4, e5, _⟩ := bfs_row bf al ht (show j < 2 ^ w by omega)
  rw [e1] at e3
  cases e3
  obtain ⟨r', er', ej, _⟩ := goodT_at k.good hs (show j < 2 ^ w by omega)
  rw [hr] at er'
  cases er'
  rw [List.getD_eq_getElem?_getD (l := row), ej, Option.getD_some, Int.toNat_natCast, List.getD_eq_getElem?_getD (l := r3), e4, Option.getD_some]
  rw [gC_at h k hs (by omega)] at e5
  exact posC_at bf.nd e5
end
section
variable {w : Nat} {T : List (List Int)} {acc : List Bool} {C : List Nat} {ls : List Int} {T3 : List (List Nat)}
/-- a word leads to each label -/
theorem lbl_word (h : StabC T acc C) (k : MOk w T acc) (bf : BfsI (gC T C) (clsU C) (2 ^ w) ((C.getD 0 0 : Nat) : Int) ls T3) (al : T3.length = ls.length) : ∀ l ∈ ls, ∃ ws : List Nat, (∀ x ∈ ws, x < 2 ^ w) ∧ l = ((C.getD (runT T 0 ws) 0 : Nat) : Int) := by
  classical
  have hm := bf.mem (C := ls.filter fun l => decide (∃ ws : List Nat, (∀ x ∈ ws, x < 2 ^ w) ∧ l = ((C.getD (runT T 0 ws) 0 : Nat) : Int))) (List.mem_filter.mpr ⟨List.mem_of_getElem? bf.hd, decide_eq_true ⟨[], (fun _ h => nomatch h), rfl⟩⟩) (fun l hl j hj => by
    obtain ⟨h1, h2⟩ := List.mem_filter.mp hl
    obtain ⟨ws, h3, h4⟩ := of_decide_eq_true h2
    obtain ⟨i, hi⟩ := List.mem_iff_getElem?.mp h1
    obtain ⟨_, _, _, _, _, e, _⟩ := bfs_row bf al hi hj
    refine List.mem_filter.mpr ⟨List.mem_of_getElem? e, decide_eq_true ⟨ws ++ [j], snoc_lt h3 hj, ?_⟩⟩
    rw [h4, gC_at h k (runT_lt k.good ws 0 h3 k.pos) hj, runT_snoc])
  intro l hl
  exact of_decide_eq_true (List.mem_filter.mp (hm l hl)).2
end
section
variable {w : Nat} {T1 T2 : List (List Int)} {a1 a2 : List Bool}
theorem ap_carry (hs : ∀ u, (∀ x ∈ u, x < 2 ^ w) → ¬ Sep2 T1 T2 a1 a2 u) {u v : List Nat} (hu : ∀ x ∈ u, x < 2 ^ w) (hv : ∀ x ∈ v, x < 2 ^ w) (h : Ap T1 a1 (2 ^ w) (runT T1 0 u) (runT T1 0 v)) : Ap T2 a2 (2 ^ w) (runT T2 0 u) (runT T2 0 v) := by
  obtain ⟨n, x, h1, h2, h3⟩ := h
  refine ⟨n, x, h1, h2, ?_⟩
  have app : ∀ {a b : List Nat}, (∀ x ∈ a, x < 2 ^ w) → (∀ x ∈ b, x < 2 ^ w) → ∀ x ∈ a ++ b, x < 2 ^ w := fun ha hb x hx => by
    rcases List.mem_append.mp hx with hx | hx
    · exact ha x hx
    · exact hb x hx
  have e1 := Classical.not_not.mp (hs (u ++ x) (app hu h2))
  have e2 := Classical.not_not.mp (hs (v ++ x) (app hv h2))
  rw [runT_app2, runT_app2] at e1 e2
  rw [← e1, ← e2]
  exact h3
theorem cls_carry (k1 : MOk w T1 a1) (k2 : MOk w T2 a2) {C1 C2 : List Nat} (h1 : StabC T1 a1 C1) (h2 : StabC T2 a2 C2) (hs : ∀ u, (∀ x ∈ u, x < 2 ^ w) → ¬ Sep2 T1 T2 a1 a2 u) {u v : List Nat} (hu : ∀ x ∈ u, x < 2 ^ w) (hv : ∀ x ∈ v, x < 2 ^ w) : C1.getD (runT T1 0 u) 0 = C1.getD (runT T1 0 v) 0 ↔ C2.getD (runT T2 0 u) 0 = C2.getD (runT T2 0 v) 0 := by
  have l1 := fun {z : List Nat} (hz : ∀ x ∈ z, x < 2 ^ w) => runT_lt k1.good z 0 hz k1.pos
  have l2 := fun {z : List Nat} (hz : ∀ x ∈ z, x < 2 ^ w) => runT_lt k2.good z 0 hz k2.pos
  have hs' : ∀ u, (∀ x ∈ u, x < 2 ^ w) → ¬ Sep2 T2 T1 a2 a1 u := fun u hu z => hs u hu fun e => z e.symm
  constructor
  · intro e
    refine Classical.byContradiction fun hne => ?_
    exact (h1.ap_iff k1 (l1 hu) (l1 hv)).mp (ap_carry hs' hu hv ((h2.ap_iff k2 (l2 hu) (l2 hv)).mpr hne)) e
  · intro e
    refine Classical.byContradiction fun hne => ?_
    exact (h2.ap_iff k2 (l2 hu) (l2 hv)).mp (ap_carry hs hu hv ((h1.ap_iff k1 (l1 hu) (l1 hv)).mpr hne)) e
/-- machines that no word parts have one least machine -/
theorem same_small (k1 : MOk w T1 a1) (k2 : MOk w T2 a2) {C1 C2 : List Nat} (h1 : StabC T1 a1 C1) (h2 : StabC T2 a2 C2) {ls1 ls2 : List Int} {S1 S2 : List (List Nat)}
    (bf1 : BfsI (gC T1 C1) (clsU C1) (2 ^ w) ((C1.getD 0 0 : Nat) : Int) ls1 S1) (al1 : S1.length = ls1.length) (bf2 : BfsI (gC T2 C2) (clsU C2) (2 ^ w) ((C2.getD 0 0 : Nat) : Int) ls2 S2) (al2 : S2.length = ls2.length)
    (hs : ∀ u, (∀ x ∈ u, x < 2 ^ w) → ¬ Sep2 T1 T2 a1 a2 u) : S2 = S1 ∧ ls2.map (fC a2 C2) = ls1.map (fC a1 C1) := by
  classical
  have hw := lbl_word h1 k1 bf1 al1
  obtain ⟨W, hW⟩ : ∃ W : Int → List Nat, ∀ l ∈ ls1, (∀ x ∈ W l, x < 2 ^ w) ∧ l = ((C1.getD (runT T1 0 (W l)) 0 : Nat) : Int) := ⟨fun l => if h : l ∈ ls1 then (hw l h).choose else [], fun l hl => by
    simp only [dif_pos hl]
    exact (hw l hl).choose_spec⟩
  have h0 := List.mem_of_getElem? bf1.hd
  have nil_lt : ∀ x ∈ ([] : List Nat), x < 2 ^ w := fun _ h => nomatch h
  have e0 : ((C2.getD 0 0 : Nat) : Int) = ((C2.getD (runT T2 0 (W ((C1.getD 0 0 : Nat) : Int))) 0 : Nat) : Int) := by
    obtain ⟨q1, q2⟩ := hW _ h0
    have := (cls_carry k1 k2 h1 h2 hs nil_lt q1).mp (Int.ofNat.inj q2)
    exact congrArg _ this
  rw [e0] at bf2
  obtain ⟨r1, r2⟩ := BfsI.carry (h := fun l => ((C2.getD (runT T2 0 (W l)) 0 : Nat) : Int)) bf1 al1 bf2 al2 (fun a ha b hb e => by
    obtain ⟨p1, p2⟩ := hW a ha
    obtain ⟨q1, q2⟩ := hW b hb
    have := (cls_carry k1 k2 h1 h2 hs p1 q1).mpr (Int.ofNat.inj e)
    rw [p2, q2, this]) (fun l hl j hj => by
    obtain ⟨p1, p2⟩ := hW l hl
    obtain ⟨i, hi⟩ := List.mem_iff_getElem?.mp hl
    obtain ⟨_, _, _, _, _, e, _⟩ := bfs_row bf1 al1 hi hj
    obtain ⟨q1, q2⟩ := hW _ (List.mem_of_getElem? e)
    show gC T2 C2 ((C2.getD (runT T2 0 (W l)) 0 : Nat) : Int) j = ((C2.getD (runT T2 0 (W (gC T1 C1 l j))) 0 : Nat) : Int)
    rw [gC_at h2 k2 (runT_lt k2.good _ 0 p1 k2.pos) hj, ← runT_snoc]
    refine congrArg _ ((cls_carry k1 k2 h1 h2 hs (snoc_lt p1 hj) q1).mp (Int.ofNat.inj ?_))
    rw [runT_snoc]
    refine Eq.trans ?_ q2
    show ((C1.getD (nxt T1 (runT T1 0 (W l)) j) 0 : Nat) : Int) = gC T1 C1 l j
    rw [← gC_at h1 k1 (runT_lt k1.good _ 0 p1 k1.pos) hj, ← p2])
  refine ⟨r2, ?_⟩
  rw [r1, List.map_map]
  refine List.map_congr_left fun l hl => ?_
  obtain ⟨p1, p2⟩ := hW l hl
  show fC a2 C2 ((C2.getD (runT T2 0 (W l)) 0 : Nat) : Int) = fC a1 C1 l
  rw [fC_at h2 k2 (runT_lt k2.good _ 0 p1 k2.pos), p2, fC_at h1 k1 (runT_lt k1.good _ 0 p1 k1.pos), ← p2]
  exact (Classical.not_not.mp (hs (W l) p1)).symm
/-- one least machine: no word parts -/
theorem small_same (k1 : MOk w T1 a1) (k2 : MOk w T2 a2) {C1 C2 : List Nat} (h1 : StabC T1 a1 C1) (h2 : StabC T2 a2 C2) {ls1 ls2 : List Int} {S1 S2 : List (List Nat)}
    (bf1 : BfsI (gC T1 C1) (clsU C1) (2 ^ w) ((C1.getD 0 0 : Nat) : Int) ls1 S1) (al1 : S1.length = ls1.length) (bf2 : BfsI (gC T2 C2) (clsU C2) (2 ^ w) ((C2.getD 0 0 : Nat) : Int) ls2 S2) (al2 : S2.length = ls2.length)
    (e : natT S2 = natT S1) (ea : ls2.map (fC a2 C2) = ls1.map (fC a1 C1)) (u : List Nat) (hu : ∀ x ∈ u, x < 2 ^ w) : ¬ Sep2 T1 T2 a1 a2 u := fun hs => by
  have r1 := small_run h1 k1 bf1 al1 k1.pos bf1.hd hu
  have r2 := small_run h2 k2 bf2 al2 k2.pos bf2.hd hu
  rw [e, ea, r1] at r2
  exact hs r2
end
theorem bools_eqvA : ∀ a b : List Bool, PyData.eqvAll (a.map boolD) (b.map boolD) = decide (a = b)
  | [], [] => by simp [PyData.eqvAll]
  | [], _ :: _ => by simp [PyData.eqvAll]
  | _ :: _, [] => by simp [PyData.eqvAll]
  | x :: a, y :: b => by
    rw [List.map_cons, List.map_cons, PyData.eqvAll, bools_eqvA a b]
    have e : PyData.eqv (boolD x) (boolD y) = decide (x = y) := by
      unfold boolD
      cases x <;> cases y <;> simp [PyData.eqv]
    rw [e]
    by_cases h : x = y <;> by_cases h2 : a = b <;> simp [h, h2]
theorem rows_eqvA : ∀ a b : List (List Int), PyData.eqvAll (a.map trowD) (b.map trowD) = decide (a = b)
  | [], [] => by simp [PyData.eqvAll]
  | [], _ :: _ => by simp [PyData.eqvAll]
  | _ :: _, [] => by simp [PyData.eqvAll]
  | x :: a, y :: b => by
    rw [List.map_cons, List.map_cons, PyData.eqvAll, rows_eqvA a b]
    have e : PyData.eqv (trowD x) (trowD y) = decide (x = y) := by
      unfold trowD
      simp only [PyData.eqv]
      rw [ints_eqvA]
    rw [e]
    by_cases h : x = y <;> by_cases h2 : a = b <;> simp [h, h2]
theorem eqv_shape (w1 w2 : Nat) (T1 T2 : List (List Int)) (a1 a2 : List Bool) : PyData.eqv (shapeD w1 T1 a1) (shapeD w2 T2 a2) = decide (w1 = w2 ∧ T1 = T2 ∧ a1 = a2) := by
  unfold shapeD
  simp only [PyData.eqv, PyData.eqvAll]
  rw [rows_eqvA, bools_eqvA]
  by_cases h : w1 = w2 <;> by_cases h2 : T1 = T2 <;> by_cases h3 : a1 = a2 <;> simp [h, h2, h3] <;> omega
theorem natT_inj {A B : List (List Nat)} (h : natT A = natT B) : A = B := by
  unfold natT at h
  exact (List.map_inj_right fun x y e => (List.map_inj_right fun a b e2 => Int.ofNat.inj e2).mp e).mp h
theorem ShapeAt.ext {H H' : Hp} {s : Addr} {w : Nat} {T : List (List Int)} {acc : List Bool} (h : ShapeAt H s w T acc) (e : ExtT H H') : ShapeAt H' s w T acc := by
  obtain ⟨tt, ta, ts, h1, h2, h3, h4⟩ := h
  exact ⟨tt, ta, ts, e.tup h1, e.tup h2, h3.ext e, e.tup h4⟩
def sp_same (CM : Addr) (TBL : List NdefX.NTab) : Sp := fun vs H Q E => ∃ (m1 m2 : Addr) (L1 L2' : List Addr) (w1 w2 : Nat) (T1 T2 : List (List Int)) (a1 a2 : List Bool), vs = [.ref m1, .ref m2] ∧ MachP CM H L1 m1 w1 T1 a1 ∧ MOk w1 T1 a1 ∧ MachP CM H L2' m2 w2 T2 a2 ∧ MOk w2 T2 a2 ∧ NdefX.TabsN TBL H ∧
  ∀ c H', ExtT H H' → NdefX.TabsN TBL H' → (c = true ↔ w1 = w2 ∧ ∀ u, (∀ x ∈ u, x < 2 ^ w1) → ¬ Sep2 T1 T2 a1 a2 u) → Q (.bl c) H'
theorem c_same {f : Addr} {fd : FuncData} (D : C8.Def K mg "same" s_same f fd) (b : Binds K fd ["one", "two"] []) {CM : Addr} {TBL : List NdefX.NTab} (c_M : Cls K CM) (c_least : CalX P w K mg base 6 "least" (sp_least CM TBL)) (m_Machine_shape : C8.Met P w K mg base 1 CM "shape" (sp_shape CM) []) : CalX P w K mg base 7 "same" (sp_same CM TBL) := by
  refine calX0 D b sc_same (fun vs H Q E h => ?_) (fun cdv A outer s H vs Q E hr h => ?_)
  · obtain ⟨_, _, _, _, _, _, _, _, _, _, rfl, _⟩ := h
    rfl
  · obtain ⟨m1, m2, L1, L2', w1, w2, T1, T2, a1, a2, rfl, hm1, hk1, hm2, hk2, htb, ok⟩ := h
    refine ⟨_, (pss_one (ps_ret (pe_cmpR (eqDK K (hu64 hr)) (C8.pe_mt0 m_Machine_shape hr (by decide) (pe_cx c_least hr (by decide) passF (by rfl) (pa_cons (pv 0) pa_nil))) (C8.pe_mt0 m_Machine_shape hr (by decide) (pe_cx c_least hr (by decide) passF (by rfl) (pa_cons (pv 1) pa_nil))) (nomark _)))), ?_⟩
    walk_at "rd"
    refine ⟨m1, L1, w1, T1, a1, rfl, hm1, hk1, htb, fun C1 z1 La ls1 S1 H1 hC1 x1 tb1 mp1 fr1 mk1 bf1 al1 => ?_⟩
    obtain ⟨dx1, t1, b1, rs1, _, v1, v2, v3, v4⟩ := id mp1
    refine ⟨z1, rfl, _, _, v1, mf_no _ _ _ (by decide +kernel) (by decide +kernel) (by decide +kernel), z1, w1, natT S1, _, rfl, mp1.at_, mk1, fun q1 H2 s2 sh1 => ?_⟩
    have X2 := x1.trans (ExtT.of s2)
    refine ⟨m2, L2', w2, T2, a2, rfl, hm2.ext X2, hk2, tb1.ext s2, fun C2 z2 Lb ls2 S2 H3 hC2 x3 tb3 mp3 fr3 mk3 bf3 al3 => ?_⟩
    obtain ⟨dx2, t2, b2, rs2, _, y1, y2, y3, y4⟩ := id mp3
    refine ⟨z2, rfl, _, _, y1, mf_no _ _ _ (by decide +kernel) (by decide +kernel) (by decide +kernel), z2, w2, natT S2, _, rfl, mp3.at_, mk3, fun q2 H4 s4 sh2 => ?_⟩
    have sh1' := ShapeAt.same (ShapeAt.ext sh1 x3) s4
    refine ⟨_, _, sh1'.dp, sh2.dp, shape_shaped _ _ _, shape_shaped _ _ _, ?_⟩
    rw [eqv_shape]
    refine ok _ _ ((X2.trans x3).trans (ExtT.of s4)) (tb3.ext s4) ?_
    rw [decide_eq_true_eq]
    constructor
    · rintro ⟨rfl, e2, e3⟩
      exact ⟨rfl, small_same hk1 hk2 hC1 hC2 bf1 al1 bf3 al3 e2.symm e3.symm⟩
    · rintro ⟨rfl, hs⟩
      obtain ⟨r1, r2⟩ := same_small hk1 hk2 hC1 hC2 bf1 al1 bf3 al3 hs
      exact ⟨rfl, by rw [r1], r2.symm⟩
/-- a machine that takes just the tuples of f -/
def IsM (CM : Addr) (H : Hp) (m : Addr) (w n : Nat) (f : List Nat → Prop) : Prop := ∃ L T acc, MachP CM H L m w T acc ∧ MOk w T acc ∧ T.length ≤ n ∧ ∀ ns : List Nat, ns.length = w → (Tk T acc ns = true ↔ f ns)
theorem IsM.same {CM : Addr} {H H' : Hp} {m : Addr} {w n : Nat} {f : List Nat → Prop} (h : IsM CM H m w n f) (s : Same H H') : IsM CM H' m w n f := by
  obtain ⟨L, T, acc, h1, h2⟩ := h
  exact ⟨L, T, acc, h1.same s, h2⟩
theorem IsM.ext {CM : Addr} {H H' : Hp} {m : Addr} {w n : Nat} {f : List Nat → Prop} (h : IsM CM H m w n f) (s : ExtT H H') : IsM CM H' m w n f := by
  obtain ⟨L, T, acc, h1, h2⟩ := h
  exact ⟨L, T, acc, h1.ext s, h2⟩
theorem IsM.but {CM : Addr} {H H' : Hp} {m p : Addr} {w n : Nat} {f : List Nat → Prop} (h : IsM CM H m w n f) (b : But p H H') (hp : ∃ xs, H p = some (.lst xs) ∧ ∀ L T acc, MachP CM H L m w T acc → p ∉ L) : IsM CM H' m w n f := by
  obtain ⟨L, T, acc, h1, h2⟩ := h
  exact ⟨L, T, acc, h1.but b (hp.choose_spec.2 L T acc h1), h2⟩
theorem IsM.mono {CM : Addr} {H : Hp} {m : Addr} {w n n' : Nat} {f g : List Nat → Prop} (h : IsM CM H m w n f) (hn : n ≤ n') (hg : ∀ ns : List Nat, ns.length = w → (f ns ↔ g ns)) : IsM CM H m w n' g := by
  obtain ⟨L, T, acc, h1, h2, h3, h4⟩ := h
  exact ⟨L, T, acc, h1, h2, Nat.le_trans h3 hn, fun ns hl => (h4 ns hl).trans (hg ns hl)⟩
theorem at_of {C : Addr} {H : Hp} {m : Addr} {w : Nat} {T : List (List Int)} {acc : List Bool} (h : MachAt C H m w T acc) : ∃ L, MachP C H L m w T acc := by
  obtain ⟨dx, t, b, rs, h1, h2, h3, h4⟩ := h.ex
  exact ⟨_, dx, t, b, rs, rfl, h1, h2, h3, h4⟩
/-! complement -/
theorem compl_ok {w : Nat} {T : List (List Int)} {acc : List Bool} (k : MOk w T acc) : MOk w T (acc.map (!·)) :=
  ⟨k.w6, k.pos, k.le, k.good, by rw [List.length_map]; exact k.al, fun i hi => by rw [List.getElem?_map, List.getElem?_map, k.set i hi]⟩
theorem compl_tk {w : Nat} {T : List (List Int)} {acc : List Bool} (k : MOk w T acc) {ns : List Nat} (hn : ns.length = w) : Tk T (acc.map (!·)) ns = !Tk T acc ns := by
  have hl := runT_lt k.good (wd ns) 0 (fun x hx => by have := wd_lt hx; rwa [hn] at this) k.pos
  unfold Tk
  rw [List.getD_eq_getElem?_getD, List.getElem?_map, List.getD_eq_getElem?_getD, List.getElem?_eq_getElem (by rw [k.al]; exact hl)]
  rfl
theorem isM_compl {CM : Addr} {H : Hp} {Q : VK} {E : XK} {m : Addr} {w n : Nat} {f : List Nat → Prop} (h : IsM CM H m w n f) (ok : ∀ c H', Same H H' → IsM CM H' c w n (fun ns => ¬ f ns) → Q (.ref c) H') : sp_complement CM [.ref m] H Q E := by
  obtain ⟨L, T, acc, h1, h2, h3, h4⟩ := h
  refine ⟨m, w, T, acc, rfl, h1.at_, h2, fun c L' H' s _ mp => ok c H' s ⟨L', T, _, mp, compl_ok h2, h3, fun ns hl => ?_⟩⟩
  show _ ↔ ¬ f ns
  rw [compl_tk h2 hl, ← h4 ns hl]
  cases Tk T acc ns <;> simp
/-! both -/
theorem fold_gP {w : Nat} {T1 T2 : List (List Int)} : ∀ (ws : List Nat) (x y : Nat), ws.foldl (gP T1 T2) [((x : Nat) : Int), ((y : Nat) : Int)] = [((runT T1 x ws : Nat) : Int), ((runT T2 y ws : Nat) : Int)]
  | [], _, _ => rfl
  | l :: r, x, y => by
    show r.foldl (gP T1 T2) (gP T1 T2 [((x : Nat) : Int), ((y : Nat) : Int)] l) = _
    rw [show gP T1 T2 [((x : Nat) : Int), ((y : Nat) : Int)] l = [((nxt T1 x l : Nat) : Int), ((nxt T2 y l : Nat) : Int)] from rfl, fold_gP (w := w) r]
    rfl
theorem both_tk {w : Nat} {T1 T2 : List (List Int)} {a1 a2 : List Bool} {nm : Str} {U : List (List Int)} {ls : List (List Int)} {T3 : List (List Nat)} (bf : BfsI (gP T1 T2) U (2 ^ w) [0, 0] ls T3) (al : T3.length = ls.length) {ns : List Nat} (hn : ns.length = w) : Tk (natT T3) (ls.map fun l => joinB nm (a1.getD (l.getD 0 0).toNat false) (a2.getD (l.getD 1 0).toNat false)) ns = joinB nm (Tk T1 a1 ns) (Tk T2 a2 ns) := by
  have e := bfs_run bf al (wd ns) (fun x hx => by have := wd_lt hx; rwa [hn] at this) 0 _ bf.hd
  have ef : (wd ns).foldl (gP T1 T2) [0, 0] = [((runT T1 0 (wd ns) : Nat) : Int), ((runT T2 0 (wd ns) : Nat) : Int)] := fold_gP (w := w) (T1 := T1) (T2 := T2) (wd ns) 0 0
  rw [ef] at e
  unfold Tk
  rw [List.getD_eq_getElem?_getD (l := ls.map _), List.getElem?_map, e]
  rfl
theorem isM_both {K : PySem.W.Frag} {wd : World} {CM CMis aJ : Addr} {TBL : List NdefX.NTab} {H : Hp} {Q : VK} {E : XK} {m1 m2 : Addr} {w n1 n2 : Nat} {f1 f2 g : List Nat → Prop} {nm : Str} (h1 : IsM CM H m1 w n1 f1) (h2 : IsM CM H m2 w n2 f2) (hn : n1 * n2 ≤ 400) (tb : NdefX.TabsN TBL H) (hj : KAt K wd aJ nm true)
    (hg : ∀ (ns : List Nat) (a b : Bool), ns.length = w → (a = true ↔ f1 ns) → (b = true ↔ f2 ns) → (joinB nm a b = true ↔ g ns)) (ok : ∀ c H', ExtT H H' → NdefX.TabsN TBL H' → IsM CM H' c w (n1 * n2) g → Q (.ref c) H') : sp_both K wd CM CMis aJ TBL [.ref m1, .ref m2, .str nm] H Q E := by
  obtain ⟨L1, T1, a1, p1, p2, p3, p4⟩ := h1
  obtain ⟨L2', T2, a2, q1, q2, q3, q4⟩ := h2
  have hnn : T1.length * T2.length ≤ n1 * n2 := Nat.mul_le_mul p3 q3
  refine ⟨m1, m2, w, w, T1, T2, a1, a2, nm, true, rfl, p1.at_, q1.at_, p2, q2, by omega, tb, hj, fun z => absurd rfl z, (fun _ z => nomatch z), fun _ _ m L ls T acc H' x tb' mp fr mk bf al hacc => ok m H' x tb' ⟨L, natT T, acc, mp, mk, ?_, fun ns hl => ?_⟩⟩
  · have := bf.bound
    rw [pairsU_len] at this
    unfold natT
    rw [List.length_map, al]
    omega
  · rw [hacc, both_tk bf al hl]
    exact hg ns _ _ hl (p4 ns hl) (q4 ns hl)
/-! some -/
theorem isM_some {CM CMis COv : Addr} {TBL : List NdefX.NTab} {H : Hp} {Q : VK} {E : XK} {m : Addr} {w n t : Nat} {f : List Nat → Prop} (h : IsM CM H m w n f) (ht : t < w) (hn : n ≤ 8) (tb : NdefX.TabsN TBL H)
    (ok : ∀ c H', ExtT H H' → NdefX.TabsN TBL H' → IsM CM H' c (w - 1) (2 ^ n) (fun ns => ∃ x, f (ns.take t ++ [x] ++ ns.drop t)) → Q (.ref c) H') : sp_some1 CM CMis COv TBL [.ref m, .int ((t : Nat) : Int)] H Q E := by
  obtain ⟨L, T, acc, p1, p2, p3, p4⟩ := h
  have h2n : 2 ^ T.length ≤ 2 ^ n := Nat.pow_le_pow_right (by decide) p3
  have h28 : 2 ^ n ≤ 2 ^ 8 := Nat.pow_le_pow_right (by decide) hn
  refine ⟨m, L, w, T, acc, (t : Int), rfl, p1, p2, by omega, tb, fun z => absurd ⟨by omega, by omega⟩ z, fun _ ls T0 l j ls2 row bf hl r hj h4 hno => ?_, fun _ m' L' ls T3 acc3 H' x tb' mp fr mk bf al hacc => ok m' H' x tb' ⟨L', natT T3, acc3, mp, mk, ?_, fun ns hl => ?_⟩⟩
  · have := r.bound1 hno (gW_in _ _ _ _)
    rw [subU_len] at this
    omega
  · have := bf.bound
    rw [subU_len] at this
    unfold natT
    rw [List.length_map, al]
    omega
  · rw [Int.toNat_natCast] at bf hacc
    rw [hacc, some_tk p2 ht bf al (by omega)]
    have hx : ∀ x : Nat, (ns.take t ++ [x] ++ ns.drop t).length = w := fun x => by simp; omega
    constructor
    · rintro ⟨x, e⟩
      exact ⟨x, (p4 _ (hx x)).mp e⟩
    · rintro ⟨x, e⟩
      exact ⟨x, (p4 _ (hx x)).mpr e⟩
/-! fix: what it stands on is told too -/
def IsF (CM : Addr) (H : Hp) (m : Addr) (w n num : Nat) (f : List Nat → Prop) : Prop := ∃ L T0 t ls T3 acc3, MachP CM H L m w (natT T3) acc3 ∧ MOk w (natT T3) acc3 ∧ T3.length = ls.length ∧ BfsI (gF T0 t) (fixU T0.length num) (2 ^ w) [0, (num : Int)] ls T3 ∧ (∀ l ∈ ls, ∃ s k : Nat, s < n ∧ k < 7 ∧ l = [(s : Int), ((num / 2 ^ k : Nat) : Int)]) ∧ ∀ ns : List Nat, ns.length = w → (Tk (natT T3) acc3 ns = true ↔ f ns)
def fixC (n num : Nat) : List (List Int) := (List.range n).flatMap fun a => (List.range 7).map fun k => [((a : Nat) : Int), ((num / 2 ^ k : Nat) : Int)]
theorem mem_fixC {n num : Nat} {l : List Int} : l ∈ fixC n num ↔ ∃ s k : Nat, s < n ∧ k < 7 ∧ l = [(s : Int), ((num / 2 ^ k : Nat) : Int)] := by
  unfold fixC
  simp only [List.mem_flatMap, List.mem_map, List.mem_range]
  constructor
  · rintro ⟨a, ha, k, hk, rfl⟩; exact ⟨a, k, ha, hk, rfl⟩
  · rintro ⟨a, k, ha, hk, rfl⟩; exact ⟨a, ha, k, hk, rfl⟩
theorem fixC_len (n num : Nat) : (fixC n num).length = n * 7 := flat_const (fun a => by rw [List.length_map, List.length_range]) n
theorem half7 {num k : Nat} (hn : num < 64) (hk : k < 7) : ∃ k', k' < 7 ∧ num / 2 ^ k / 2 = num / 2 ^ k' := by
  by_cases h : k < 6
  · exact ⟨k + 1, by omega, by rw [Nat.pow_succ, Nat.div_div_eq_div_mul]⟩
  · have : k = 6 := by omega
    subst this
    have e : num / 2 ^ 6 = 0 := Nat.div_eq_of_lt hn
    exact ⟨6, by decide, by rw [e]⟩
theorem isM_fix {CM CMis COv : Addr} {TBL : List NdefX.NTab} {H : Hp} {Q : VK} {E : XK} {m : Addr} {w n t num : Nat} {f : List Nat → Prop} (h : IsM CM H m w n f) (ht : t < w) (hnum : num < 64) (hn : n * 7 ≤ 400) (tb : NdefX.TabsN TBL H)
    (ok : ∀ c H', ExtT H H' → NdefX.TabsN TBL H' → IsF CM H' c (w - 1) n num (fun ns => f (ns.take t ++ [num] ++ ns.drop t)) → Q (.ref c) H') : sp_fix CM CMis COv TBL [.ref m, .int ((t : Nat) : Int), nv num] H Q E := by
  obtain ⟨L, T, acc, p1, p2, p3, p4⟩ := h
  have hT : ∀ j, j < 2 ^ (w - 1) → ∀ b, b < 2 → wt j t b < 2 ^ w := fun j hj b hb => wt_lt hj ht hb
  have n264 : num < 2 ^ 64 := Nat.lt_of_lt_of_le hnum (by decide)
  have h0 : [0, (num : Int)] ∈ fixC T.length num := mem_fixC.mpr ⟨0, 0, p2.pos, by decide, by rw [Nat.pow_zero, Nat.div_one]; rfl⟩
  have hc : ∀ l ∈ fixC T.length num, ∀ j, j < 2 ^ (w - 1) → gF T t l j ∈ fixC T.length num := fun l hl j hj => by
    obtain ⟨s, k, hs, hk, rfl⟩ := mem_fixC.mp hl
    obtain ⟨k', hk', ek⟩ := half7 hnum hk
    obtain ⟨_, _, _, hlt⟩ := goodT_at p2.good hs (hT j hj (num / 2 ^ k % 2) (Nat.mod_lt _ (by decide)))
    refine mem_fixC.mpr ⟨_, k', hlt, hk', ?_⟩
    rw [← ek]
    rfl
  refine ⟨m, L, w, T, acc, (t : Int), num, rfl, p1, p2, tb, fun z => absurd ⟨by omega, by omega⟩ z, fun _ z => absurd n264 z, fun _ _ ls T0 l j ls2 row bf hl r hj h4 hno => ?_, fun _ _ m' L' ls T3 acc3 H' x tb' mp fr mk bf al hacc => ok m' H' x tb' ⟨L', T, t, ls, T3, acc3, mp, mk, al, ?_, fun l hl => ?_, fun ns hl => ?_⟩⟩
  · rw [Int.toNat_natCast] at bf r hno
    refine absurd ?_ (fun z : False => z)
    refine no_more bf hl r hj h4 hno h0 hc ?_
    rw [fixC_len]
    have := Nat.mul_le_mul_right 7 p3
    omega
  · rw [Int.toNat_natCast] at bf
    exact bf
  · rw [Int.toNat_natCast] at bf
    obtain ⟨s, k, hs, hk, e⟩ := mem_fixC.mp (bf.mem h0 hc l hl)
    exact ⟨s, k, by omega, hk, e⟩
  · rw [Int.toNat_natCast] at bf hacc
    rw [hacc, fix_tk p2 ht n264 bf al (by omega)]
    have hx : (ns.take t ++ [num] ++ ns.drop t).length = w := by simp; omega
    exact p4 _ hx
theorem IsF.isM {CM : Addr} {H : Hp} {m : Addr} {w n num : Nat} {f : List Nat → Prop} (h : IsF CM H m w n num f) : IsM CM H m w (n * 7) f := by
  obtain ⟨L, T0, t, ls, T3, acc3, h1, h2, h3, h4, h5, h6⟩ := h
  refine ⟨L, natT T3, acc3, h1, h2, ?_, h6⟩
  have := nodup_le (U := fixC n num) h4.nd fun y hy => mem_fixC.mpr (h5 y hy)
  rw [fixC_len] at this
  unfold natT
  rw [List.length_map, h3]
  exact this
theorem IsF.ext {CM : Addr} {H H' : Hp} {m : Addr} {w n num : Nat} {f : List Nat → Prop} (h : IsF CM H m w n num f) (s : ExtT H H') : IsF CM H' m w n num f := by
  obtain ⟨L, T0, t, ls, T3, acc3, h1, h2⟩ := h
  exact ⟨L, T0, t, ls, T3, acc3, h1.ext s, h2⟩
/-! some of what fix gives: the members of a set have one rest -/
def rsL (ls : List (List Int)) (x : Int) : Int := (ls.getD x.toNat []).getD 1 0
def stL (ls : List (List Int)) (x : Int) : Nat := ((ls.getD x.toNat []).getD 0 0).toNat
def SfP (ls : List (List Int)) (num : Nat) (l : List Int) : Prop := l.Nodup ∧ ∃ k, k < 7 ∧ ∀ x ∈ l, ∃ i s : Nat, s < 3 ∧ x = (i : Int) ∧ ls[i]? = some [(s : Int), ((num / 2 ^ k : Nat) : Int)]
def phiF (ls : List (List Int)) (l : List Int) : Int × List Nat := ((l.map (rsL ls)).headD 0, l.map (stL ls))
theorem rs_at {ls : List (List Int)} {i s r : Nat} (h : ls[i]? = some [(s : Int), (r : Int)]) : rsL ls ((i : Nat) : Int) = (r : Int) ∧ stL ls ((i : Nat) : Int) = s := by
  unfold rsL stL
  rw [Int.toNat_natCast, List.getD_eq_getElem?_getD (l := ls), h]
  exact ⟨rfl, rfl⟩
theorem SfP.names {ls : List (List Int)} {num : Nat} (nd : ls.Nodup) {a b : List Int} (ha : SfP ls num a) (hb : SfP ls num b) (e : phiF ls a = phiF ls b) : a = b := by
  obtain ⟨_, k, hk, h1⟩ := ha
  obtain ⟨_, k', hk', h2⟩ := hb
  unfold phiF at e
  have e1 := (Prod.mk.inj e).1
  have e2 := (Prod.mk.inj e).2
  have hl : a.length = b.length := by have := congrArg List.length e2; rwa [List.length_map, List.length_map] at this
  have hr : a ≠ [] → num / 2 ^ k = num / 2 ^ k' := fun hne => by
    cases a with
    | nil => exact absurd rfl hne
    | cons x a =>
      cases b with
      | nil => cases hl
      | cons y b =>
        obtain ⟨i, s, _, rfl, hi⟩ := h1 x List.mem_cons_self
        obtain ⟨j, t, _, rfl, hj⟩ := h2 y List.mem_cons_self
        have e3 : rsL ls ((i : Nat) : Int) = rsL ls ((j : Nat) : Int) := e1
        rw [(rs_at hi).1, (rs_at hj).1] at e3
        exact Int.ofNat.inj e3
  refine List.ext_getElem hl fun n p q => ?_
  have hne : a ≠ [] := fun z => by rw [z] at p; cases p
  obtain ⟨i, s, _, ei, hi⟩ := h1 a[n] (List.getElem_mem p)
  obtain ⟨j, t, _, ej, hj⟩ := h2 b[n] (List.getElem_mem q)
  have e3 : stL ls a[n] = stL ls b[n] := by
    have := congrArg (fun l => l[n]?) e2
    simp only [List.getElem?_map, List.getElem?_eq_getElem p, List.getElem?_eq_getElem q, Option.map_some] at this
    exact Option.some.inj this
  rw [ei, ej, (rs_at hi).2, (rs_at hj).2] at e3
  rw [← e3, ← hr hne, ← hi] at hj
  have := (List.getElem?_inj (List.getElem?_eq_some_iff.mp hi).1 nd).mp hj.symm
  rw [ei, ej, this]
def phiV (num : Nat) : List (Int × List Nat) := (0 :: (List.range 7).map fun k => ((num / 2 ^ k : Nat) : Int)).flatMap fun r => (AL 3 3).map fun l => (r, l)
theorem phiV_len (num : Nat) : (phiV num).length = 320 := by
  unfold phiV
  rw [List.length_flatMap]
  simp only [List.length_map, AL3]
  rfl
theorem SfP.into {ls : List (List Int)} {num : Nat} (nd : ls.Nodup) {a : List Int} (ha : SfP ls num a) : phiF ls a ∈ phiV num := by
  obtain ⟨hn, k, hk, h1⟩ := ha
  refine List.mem_flatMap.mpr ⟨_, ?_, List.mem_map.mpr ⟨_, ?_, rfl⟩⟩
  · cases a with
    | nil => exact List.mem_cons_self
    | cons x a =>
      obtain ⟨i, s, _, rfl, hi⟩ := h1 x List.mem_cons_self
      exact List.mem_cons_of_mem _ (List.mem_map.mpr ⟨k, List.mem_range.mpr hk, (rs_at hi).1.symm⟩)
  · have hs : ∀ y ∈ a.map (stL ls), y < 3 := fun y hy => by
      obtain ⟨x, hx, rfl⟩ := List.mem_map.mp hy
      obtain ⟨i, s, h3, rfl, hi⟩ := h1 x hx
      rw [(rs_at hi).2]
      exact h3
    refine mem_AL ?_ hs
    have nd2 : (a.map (stL ls)).Nodup := by
      refine List.pairwise_map.mpr (List.Pairwise.imp_of_mem (R := (· ≠ ·)) (fun {x y} hx hy hxy e => ?_) hn)
      obtain ⟨i, s, _, rfl, hi⟩ := h1 x hx
      obtain ⟨j, t, _, rfl, hj⟩ := h1 y hy
      rw [(rs_at hi).2, (rs_at hj).2] at e
      subst e
      rw [← hi] at hj
      exact hxy (congrArg _ ((List.getElem?_inj (List.getElem?_eq_some_iff.mp hi).1 nd).mp hj.symm))
    have := nodup_le (U := List.range 3) nd2 fun y hy => List.mem_range.mpr (hs y hy)
    rwa [List.length_range] at this
theorem isM_some_fix {CM CMis COv : Addr} {TBL : List NdefX.NTab} {H : Hp} {Q : VK} {E : XK} {m : Addr} {w n t num : Nat} {f : List Nat → Prop} (h : IsF CM H m w n num f) (hn : n ≤ 3) (hnum : num < 64) (ht : t < w) (tb : NdefX.TabsN TBL H)
    (ok : ∀ c H', ExtT H H' → NdefX.TabsN TBL H' → IsM CM H' c (w - 1) 400 (fun ns => ∃ x, f (ns.take t ++ [x] ++ ns.drop t)) → Q (.ref c) H') : sp_some1 CM CMis COv TBL [.ref m, .int ((t : Nat) : Int)] H Q E := by
  have hM := h.isM
  obtain ⟨L, T0, t0, ls0, T, acc, p1, p2, pal, pbf, pls, p4⟩ := h
  have lenT : (natT T).length ≤ 21 := by
    have := nodup_le (U := fixC n num) pbf.nd fun y hy => mem_fixC.mpr (pls y hy)
    rw [fixC_len] at this
    unfold natT
    rw [List.length_map, pal]
    omega
  have h0 : SfP ls0 num [0] := by
    refine ⟨List.pairwise_singleton _ _, 0, by decide, fun x hx => ⟨0, 0, by decide, List.mem_singleton.mp hx, ?_⟩⟩
    rw [pbf.hd, Nat.pow_zero, Nat.div_one]
    rfl
  have hc : ∀ l, SfP ls0 num l → ∀ j, j < 2 ^ (w - 1) → SfP ls0 num (gW (natT T) t l j) := fun l hl j hj => by
    obtain ⟨_, k, hk, h1⟩ := hl
    obtain ⟨k', hk', ek⟩ := half7 hnum hk
    refine ⟨List.Pairwise.imp (fun {a b} (hab : a < b) e => by omega) (setI_asc _ _), k', hk', fun z hz => ?_⟩
    obtain ⟨x, hx, v, hv, _, rfl⟩ := mem_gW.mp hz
    obtain ⟨i, s, hs, rfl, hi⟩ := h1 x hx
    obtain ⟨_, y, _, _, _, e1, e2⟩ := bfs_row pbf pal hi (wt_lt hj ht hv)
    rw [Int.toNat_natCast, e2]
    obtain ⟨s', k2, hs', _, el⟩ := pls _ (List.mem_of_getElem? e1)
    refine ⟨y, s', by omega, rfl, ?_⟩
    rw [e1, el]
    have h3 := congrArg (fun l => l.getD 1 0) el
    have h4 : (((num / 2 ^ k : Nat) : Int).toNat / 2 : Nat) = num / 2 ^ k2 := Int.ofNat.inj h3
    rw [Int.toNat_natCast, ek] at h4
    rw [← h4]
  refine ⟨m, L, w, natT T, acc, (t : Int), rfl, p1, p2, by omega, tb, fun z => absurd ⟨by omega, by omega⟩ z, fun _ ls T0' l j ls2 row bf hl r hj h4 hno => ?_, fun _ m' L' ls T3 acc3 H' x tb' mp fr mk bf al hacc => ok m' H' x tb' ⟨L', natT T3, acc3, mp, mk, mk.le, fun ns hl => ?_⟩⟩
  · rw [Int.toNat_natCast] at bf r hno
    refine absurd ?_ (fun z : False => z)
    exact no_moreP (P := SfP ls0 num) (φ := phiF ls0) (V := phiV num) bf hl r hj h4 hno h0 hc (fun a b ha hb e => SfP.names pbf.nd ha hb e) (fun a ha => SfP.into pbf.nd ha) (by rw [phiV_len]; decide)
  · rw [Int.toNat_natCast] at bf hacc
    rw [hacc, some_tk p2 ht bf al (by omega)]
    have hx : ∀ x : Nat, (ns.take t ++ [x] ++ ns.drop t).length = w := fun x => by simp; omega
    constructor
    · rintro ⟨x, e⟩
      exact ⟨x, (p4 _ (hx x)).mp e⟩
    · rintro ⟨x, e⟩
      exact ⟨x, (p4 _ (hx x)).mpr e⟩
/-! spread -/
theorem fold_gS {T : List (List Int)} {olds : List Nat} : ∀ (ws : List Nat) (s : Nat), ws.foldl (gS T olds) ((s : Nat) : Int) = ((runT T s (ws.map fun j => olds.getD j 0) : Nat) : Int)
  | [], _ => rfl
  | x :: r, s => by
    show r.foldl (gS T olds) (gS T olds ((s : Nat) : Int) x) = _
    rw [show gS T olds ((s : Nat) : Int) x = ((nxt T s (olds.getD x 0) : Nat) : Int) from by unfold gS; rw [Int.toNat_natCast], fold_gS r]
    rfl
theorem spread_tk {w W : Nat} {T : List (List Int)} {acc : List Bool} {ps : List Int} {U : List Int} {ls : List Int} {T3 : List (List Nat)} (k : MOk w T acc) (hl : ps.length = w) (hp : ∀ p ∈ ps, 0 ≤ p ∧ p < (W : Int)) (bf : BfsI (gS T (oldsOf ps W)) U (2 ^ W) 0 ls T3) (al : T3.length = ls.length) {ns : List Nat} (hn : ns.length = W) : Tk (natT T3) (ls.map fun l => acc.getD l.toNat false) ns = Tk T acc (ps.map fun p => ns.getD p.toNat 0) := by
  have hwl : ∀ x ∈ wd ns, x < 2 ^ W := fun x hx => by have := wd_lt hx; rwa [hn] at this
  have e := bfs_run bf al (wd ns) hwl 0 _ bf.hd
  have ef := fold_gS (T := T) (olds := oldsOf ps W) (wd ns) 0
  rw [show (wd ns).foldl (gS T (oldsOf ps W)) 0 = _ from ef] at e
  have ew : (wd ns).map (fun j => (oldsOf ps W).getD j 0) = Wn (ps.map fun p => ns.getD p.toNat 0) (bls ns) := by
    unfold wd Wn
    rw [List.map_map]
    refine List.map_congr_left fun i hi => ?_
    show (oldsOf ps W).getD (lo (bitAt ns i)) 0 = _
    rw [olds_at (by have := lo_lt (bitAt_bits ns i); rwa [bitAt_len, hn] at this)]
    congr 1
    unfold bitAt
    rw [List.map_map]
    refine List.map_congr_left fun p hp2 => ?_
    have hpb := hp p hp2
    have h1 := lo_bit p.toNat (bitAt_bits ns i)
    unfold bitAt at h1
    rw [h1]
    show (ns.map fun n => n / 2 ^ i % 2).getD p.toNat 0 = ns.getD p.toNat 0 / 2 ^ i % 2
    rw [List.getD_eq_getElem?_getD, List.getD_eq_getElem?_getD, List.getElem?_map, List.getElem?_eq_getElem (show p.toNat < ns.length by omega)]
    rfl
  rw [ew] at e
  have hb : bls (ps.map fun p => ns.getD p.toNat 0) ≤ bls ns := bls_sub fun x hx => by
    obtain ⟨p, hp2, rfl⟩ := List.mem_map.mp hx
    have hpb := hp p hp2
    rw [List.getD_eq_getElem?_getD, List.getElem?_eq_getElem (show p.toNat < ns.length by omega)]
    exact List.getElem_mem _
  rw [← Wn_tk k (by rw [List.length_map, hl]) hb]
  unfold Tk
  rw [List.getD_eq_getElem?_getD (l := ls.map _), List.getElem?_map, e]
  show acc.getD ((runT T 0 _ : Nat) : Int).toNat false = _
  rw [Int.toNat_natCast]
theorem isM_spread {K : PySem.W.Frag} {CM CMis : Addr} {TBL : List NdefX.NTab} {H : Hp} {Q : VK} {E : XK} {m pl : Addr} {w n W : Nat} {ps : List Int} {f : List Nat → Prop} (h : IsM CM H m w n f) (hpl : H pl = some (.lst (ps.map V.int))) (hl : ps.length = w) (hW : W ≤ 6) (hp : ∀ p ∈ ps, 0 ≤ p ∧ p < (W : Int)) (tb : NdefX.TabsN TBL H)
    (ok : ∀ c H', ExtT H H' → NdefX.TabsN TBL H' → IsM CM H' c W n (fun ns => f (ps.map fun p => ns.getD p.toNat 0)) → Q (.ref c) H') : sp_spread K CM CMis TBL [.ref m, .ref pl, nv W] H Q E := by
  obtain ⟨L, T, acc, p1, p2, p3, p4⟩ := h
  have hw6 := p2.w6
  refine ⟨m, pl, w, T, acc, ps, (W : Int), rfl, p1.at_, p2, .inl (SqL.of hpl), by omega, tb, fun z => absurd ⟨by omega, by omega⟩ z, fun _ z => absurd ⟨hl, hp⟩ z, fun _ _ _ m' L' ls T3 acc3 H' x tb' mp fr mk bf al hacc => ?_⟩
  rw [Int.toNat_natCast] at mp mk bf
  refine ok m' H' x tb' ⟨L', natT T3, acc3, mp, mk, ?_, fun ns hn => ?_⟩
  · have := bf.bound
    rw [intsU_len] at this
    unfold natT
    rw [List.length_map, al]
    omega
  · rw [hacc, spread_tk p2 hl hp bf al hn]
    exact p4 _ (by rw [List.length_map, hl])
/-! same -/
theorem isM_same {CM : Addr} {TBL : List NdefX.NTab} {H : Hp} {Q : VK} {E : XK} {m1 m2 : Addr} {w n1 n2 : Nat} {f1 f2 : List Nat → Prop} (h1 : IsM CM H m1 w n1 f1) (h2 : IsM CM H m2 w n2 f2) (tb : NdefX.TabsN TBL H)
    (ok : ∀ c H', ExtT H H' → NdefX.TabsN TBL H' → (c = true ↔ ∀ ns : List Nat, ns.length = w → (f1 ns ↔ f2 ns)) → Q (.bl c) H') : sp_same CM TBL [.ref m1, .ref m2] H Q E := by
  obtain ⟨L1, T1, a1, p1, p2, p3, p4⟩ := h1
  obtain ⟨L2', T2, a2, q1, q2, q3, q4⟩ := h2
  refine ⟨m1, m2, L1, L2', w, w, T1, T2, a1, a2, rfl, p1, p2, q1, q2, tb, fun c H' x tb' hc => ok c H' x tb' (hc.trans ?_)⟩
  rw [sep_tk p2 q2]
  constructor
  · rintro ⟨_, h⟩ ns hn
    rw [← p4 ns hn, ← q4 ns hn, h ns hn]
  · intro h
    refine ⟨rfl, fun ns hn => ?_⟩
    rw [Bool.eq_iff_iff, p4 ns hn, q4 ns hn]
    exact h ns hn
theorem isM_same_yes {CM : Addr} {TBL : List NdefX.NTab} {H : Hp} {Q : VK} {E : XK} {m1 m2 : Addr} {w n1 n2 : Nat} {f1 f2 : List Nat → Prop} (h1 : IsM CM H m1 w n1 f1) (h2 : IsM CM H m2 w n2 f2) (tb : NdefX.TabsN TBL H) (he : ∀ ns : List Nat, ns.length = w → (f1 ns ↔ f2 ns))
    (ok : ∀ H', ExtT H H' → NdefX.TabsN TBL H' → Q (.bl true) H') : sp_same CM TBL [.ref m1, .ref m2] H Q E :=
  isM_same h1 h2 tb fun c H' x tb' hc => by
    rw [hc.mpr he]
    exact ok H' x tb'
/-! the least machine of a machine that takes nothing -/
theorem least_empty {w : Nat} {T : List (List Int)} {acc : List Bool} {C : List Nat} {ls : List Int} {T3 : List (List Nat)} (h : StabC T acc C) (k : MOk w T acc) (bf : BfsI (gC T C) (clsU C) (2 ^ w) ((C.getD 0 0 : Nat) : Int) ls T3) (al : T3.length = ls.length) (he : ∀ ns : List Nat, ns.length = w → Tk T acc ns = false) : natT T3 = [List.replicate (2 ^ w) 0] ∧ ls.map (fC acc C) = [false] := by
  have hf : ∀ u, (∀ x ∈ u, x < 2 ^ w) → acc.getD (runT T 0 u) false = false := fun u hu => by rw [acc_nsW k hu]; exact he _ (nsW_len w u)
  have all0 : ∀ l ∈ ls, l = ((C.getD 0 0 : Nat) : Int) := fun l hl => by
    obtain ⟨ws, h1, rfl⟩ := lbl_word h k bf al l hl
    refine congrArg _ (Classical.byContradiction fun hne => ?_)
    obtain ⟨n, x, _, g2, g3⟩ := (h.ap_iff k (runT_lt k.good ws 0 h1 k.pos) k.pos).mpr hne
    rw [← runT_app2, hf _ (fun y hy => by rcases List.mem_append.mp hy with hy | hy; exact h1 y hy; exact g2 y hy), hf x g2] at g3
    exact g3 rfl
  have hls : ls = [((C.getD 0 0 : Nat) : Int)] := by
    cases e : ls with
    | nil => have := bf.hd; rw [e] at this; cases this
    | cons a r =>
      cases e2 : r with
      | nil =>
        rw [e, e2] at all0
        rw [all0 a List.mem_cons_self]
      | cons b r2 =>
        rw [e, e2] at all0
        have nd := bf.nd
        rw [e, e2] at nd
        refine absurd ?_ (List.nodup_cons.mp nd).1
        rw [all0 a List.mem_cons_self, ← all0 b (List.mem_cons_of_mem _ List.mem_cons_self)]
        exact List.mem_cons_self
  have hT1 : T3.length = 1 := by rw [al, hls]; rfl
  obtain ⟨r, hr⟩ : ∃ r, T3 = [r] := List.length_eq_one_iff.mp hT1
  obtain ⟨r1, l, r2, r3⟩ := bf.rows 0 r (by rw [hr]; rfl)
  have hr0 : r = List.replicate (2 ^ w) 0 := by
    refine List.eq_replicate_iff.mpr ⟨r1, fun x hx => ?_⟩
    obtain ⟨j, hj⟩ := List.mem_iff_getElem?.mp hx
    have := (List.getElem?_eq_some_iff.mp (r3 j x hj)).1
    rw [hls] at this
    exact Nat.lt_one_iff.mp this
  refine ⟨?_, ?_⟩
  · rw [hr, hr0]
    unfold natT
    rw [List.map_cons, List.map_replicate]
    rfl
  · rw [hls, List.map_cons, fC_at h k k.pos]
    have := hf [] (fun _ h => nomatch h)
    rw [show acc.getD 0 false = false from this]
    rfl
/-- a number put in at a place -/
def ins (t x : Nat) (ns : List Nat) : List Nat := ns.take t ++ [x] ++ ns.drop t
theorem ins_app {t x : Nat} {a b : List Nat} (h : a.length = t) : ins t x (a ++ b) = a ++ x :: b := by
  unfold ins
  rw [List.take_append_of_le_length (by omega), List.take_of_length_le (by omega), List.drop_append_of_le_length (by omega), List.drop_of_length_le (by omega)]
  simp
theorem ins_len {t x : Nat} {ns : List Nat} (h : t ≤ ns.length) : (ins t x ns).length = ns.length + 1 := by
  unfold ins
  simp
  omega
/-- two numbers put in, in either order -/
theorem ins_swap {lo hi x y : Nat} {ns : List Nat} (h : lo < hi) (hl : hi - 1 ≤ ns.length) : ins hi y (ins lo x ns) = ins lo x (ins (hi - 1) y ns) := by
  obtain ⟨a, b, c, rfl, ha, hb⟩ : ∃ a b c, ns = a ++ (b ++ c) ∧ a.length = lo ∧ b.length = hi - 1 - lo := ⟨ns.take lo, (ns.drop lo).take (hi - 1 - lo), (ns.drop lo).drop (hi - 1 - lo), by rw [List.take_append_drop, List.take_append_drop], by rw [List.length_take]; omega, by rw [List.length_take, List.length_drop]; omega⟩
  rw [ins_app ha, ← List.append_assoc a b c, ins_app (t := hi - 1) (a := a ++ b) (by rw [List.length_append]; omega)]
  have e1 : a ++ x :: (b ++ c) = (a ++ x :: b) ++ c := by simp
  rw [e1, ins_app (t := hi) (a := a ++ x :: b) (by rw [List.length_append, List.length_cons]; omega)]
  have e2 : a ++ b ++ y :: c = a ++ (b ++ y :: c) := by simp
  rw [e2, ins_app ha]
  simp
def sp_orders (CM : Addr) (TBL : List NdefX.NTab) : Sp := fun vs H Q E => ∃ (m : Addr) (w a b num : Nat) (f : List Nat → Prop), vs = [.ref m, nv a, nv b, nv num] ∧ IsM CM H m w 3 f ∧ a < w ∧ b < w ∧ a ≠ b ∧ num < 64 ∧ NdefX.TabsN TBL H ∧ ∀ H', ExtT H H' → NdefX.TabsN TBL H' → Q (.bl true) H'
theorem c__law_orders {f : Addr} {fd : FuncData} (D : C8.Def K mg "_law_orders" s__law_orders f fd) (b : Binds K fd ["machine", "first", "second", "number"] []) {CM CMis COv : Addr} {TBL : List NdefX.NTab} (c_same : CalX P w K mg base 7 "same" (sp_same CM TBL)) (c_some : CalX P w K mg base 6 "some" (sp_some1 CM CMis COv TBL)) (c_fix : CalX P w K mg base 5 "fix" (sp_fix CM CMis COv TBL)) (z_min : mg "min" = none) (z_max : mg "max" = none) : CalX P w K mg base 8 "_law_orders" (sp_orders CM TBL) := by
  refine calX0 D b sc__law_orders (fun vs H Q E h => ?_) (fun cdv A outer s H vs Q E hr h => ?_)
  · obtain ⟨_, _, _, _, _, _, rfl, _⟩ := h
    rfl
  · obtain ⟨m, w1, a, b, num, f, rfl, hm, ha, hb, hab, hnum, htb, ok⟩ := h
    refine ⟨_, (pss_cons (ps_set (i := 4) sc__law_orders.nd rfl (by first | exact Or.inl rfl | exact Or.inr rfl) (pe_callB (call_min2 rfl) (by rfl) z_min (by decide +kernel) (pa_cons (pv 1) (pa_cons (pv 2) pa_nil)))) (C8.pss_cut (ps_set (i := 5) sc__law_orders.nd rfl (by first | exact Or.inl rfl | exact Or.inr rfl) (pe_callB (call_max2 rfl) (by rfl) z_max (by decide +kernel) (pa_cons (pv 1) (pa_cons (pv 2) pa_nil)))) (C8.pss_cut (ps_if (pt_not (pt_val (pe_cx c_same hr (by decide) (passes_call (takes_of rfl rfl rfl rfl) (fun _ _ _ _ h => h)) (by rfl) (pa_cons (pe_cx c_some hr (by decide) (passes_call (takes_of rfl rfl rfl rfl) (fun _ _ _ _ h => h)) (by rfl) (pa_cons (pe_cx c_some hr (by decide) (passes_call (takes_of rfl rfl rfl rfl) (fun _ _ _ _ h => h)) (by rfl) (pa_cons (pv 0) (pa_cons (pv 5) pa_nil))) (pa_cons (pv 4) pa_nil))) (pa_cons (pe_cx c_some hr (by decide) (passes_call (takes_of rfl rfl rfl rfl) (fun _ _ _ _ h => h)) (by rfl) (pa_cons (pe_cx c_some hr (by decide) (passes_call (takes_of rfl rfl rfl rfl) (fun _ _ _ _ h => h)) (by rfl) (pa_cons (pv 0) (pa_cons (pv 4) pa_nil))) (pa_cons (pe_op op_sub (pv 5) pe_int) pa_nil))) pa_nil))))) (pss_one (ps_ret pe_bl)) pss_nil) (C8.pss_cut (ps_if (pt_not (pt_val (pe_cx c_same hr (by decide) (passes_call (takes_of rfl rfl rfl rfl) (fun _ _ _ _ h => h)) (by rfl) (pa_cons (pe_cx c_fix hr (by decide) (passes_call (takes_of rfl rfl rfl rfl) (fun _ _ _ _ h => h)) (by rfl) (pa_cons (pe_cx c_some hr (by decide) (passes_call (takes_of rfl rfl rfl rfl) (fun _ _ _ _ h => h)) (by rfl) (pa_cons (pv 0) (pa_cons (pv 5) pa_nil))) (pa_cons (pv 4) (pa_cons (pv 3) pa_nil)))) (pa_cons (pe_cx c_some hr (by decide) (passes_call (takes_of rfl rfl rfl rfl) (fun _ _ _ _ h => h)) (by rfl) (pa_cons (pe_cx c_fix hr (by decide) (passes_call (takes_of rfl rfl rfl rfl) (fun _ _ _ _ h => h)) (by rfl) (pa_cons (pv 0) (pa_cons (pv 4) (pa_cons (pv 3) pa_nil)))) (pa_cons (pe_op op_sub (pv 5) pe_int) pa_nil))) pa_nil))))) (pss_one (ps_ret pe_bl)) pss_nil) (pss_one (ps_ret (pe_cx c_same hr (by decide) (passes_call (takes_of rfl rfl rfl rfl) (fun _ _ _ _ h => h)) (by rfl) (pa_cons (pe_cx c_fix hr (by decide) (passes_call (takes_of rfl rfl rfl rfl) (fun _ _ _ _ h => h)) (by rfl) (pa_cons (pe_cx c_some hr (by decide) (passes_call (takes_of rfl rfl rfl rfl) (fun _ _ _ _ h => h)) (by rfl) (pa_cons (pv 0) (pa_cons (pv 4) pa_nil))) (pa_cons (pe_op op_sub (pv 5) pe_int) (pa_cons (pv 3) pa_nil)))) (pa_cons (pe_cx c_some hr (by decide) (passes_call (takes_of rfl rfl rfl rfl) (fun _ _ _ _ h => h)) (by rfl) (pa_cons (pe_cx c_fix hr (by decide) (passes_call (takes_of rfl rfl rfl rfl) (fun _ _ _ _ h => h)) (by rfl) (pa_cons (pv 0) (pa_cons (pv 5) (pa_cons (pv 3) pa_nil)))) (pa_cons (pv 4) pa_nil))) pa_nil))))))))), ?_⟩
    walk_at "rd"
    obtain ⟨lo, hi, elo, ehi, hlt, hw⟩ : ∃ lo hi : Nat, (if ((b : Nat) : Int) < ((a : Nat) : Int) then ((b : Nat) : Int) else ((a : Nat) : Int)) = (lo : Int) ∧ (if ((b : Nat) : Int) > ((a : Nat) : Int) then ((b : Nat) : Int) else ((a : Nat) : Int)) = (hi : Int) ∧ lo < hi ∧ hi < w1 := by
      by_cases h : b < a
      · exact ⟨b, a, if_pos (by omega), if_neg (by omega), h, ha⟩
      · exact ⟨a, b, if_neg (by omega), if_pos (by omega), by omega, hb⟩
    refine ⟨_, _, ⟨rfl, rfl⟩, ?_⟩
    rw [elo]
    have eh1 : ((hi : Nat) : Int) - 1 = ((hi - 1 : Nat) : Int) := by omega
    refine cut_by (fun σ' H' => [some (V.ref m), some (nv a), some (nv b), some (nv num), some (nv lo), some (nv hi)] = σ' ∧ H = H') (fun N hN => ?_) ?_
    · walk_at "rd"
      refine ⟨_, _, ⟨rfl, rfl⟩, ?_⟩
      rw [ehi]
      exact hN _ _ ⟨rfl, rfl⟩
    rintro σ' H' ⟨rfl, rfl⟩
    have len2 : ∀ ns : List Nat, ns.length = w1 - 1 - 1 → hi - 1 ≤ ns.length := fun ns hl => by omega
    refine cut_by (fun σ' H' => [some (V.ref m), some (nv a), some (nv b), some (nv num), some (nv lo), some (nv hi)] = σ' ∧ IsM CM H' m w1 3 f ∧ NdefX.TabsN TBL H' ∧ ExtT H H') (fun N hN => ?_) ?_
    · walk_at "rd"
      rw [eh1]
      refine isM_some hm hw (by decide) htb fun c1 H1 x1 tb1 M1 => isM_some M1 (show lo < w1 - 1 by omega) (by decide) tb1 fun c2 H2 x2 tb2 M2 => isM_some ((hm.ext x1).ext x2) (show lo < w1 by omega) (by decide) tb2 fun c3 H3 x3 tb3 M3 => isM_some M3 (show hi - 1 < w1 - 1 by omega) (by decide) tb3 fun c4 H4 x4 tb4 M4 => isM_same_yes ((M2.ext x3).ext x4) M4 tb4 (fun ns hl => ?_) fun H5 x5 tb5 => ⟨true, rfl, ?_⟩
      · constructor
        · rintro ⟨x, y, h⟩
          exact ⟨y, x, by have e := ins_swap (x := x) (y := y) hlt (len2 ns hl); unfold ins at e; rw [← e]; exact h⟩
        · rintro ⟨y, x, h⟩
          exact ⟨x, y, by have e := ins_swap (x := x) (y := y) hlt (len2 ns hl); unfold ins at e; rw [e]; exact h⟩
      · rw [if_neg (by decide)]
        have X := (((x1.trans x2).trans x3).trans x4).trans x5
        exact hN _ _ ⟨rfl, hm.ext X, tb5, X⟩
    rintro σ' Ha ⟨rfl, hma, tba, xa⟩
    refine cut_by (fun σ' H' => [some (V.ref m), some (nv a), some (nv b), some (nv num), some (nv lo), some (nv hi)] = σ' ∧ IsM CM H' m w1 3 f ∧ NdefX.TabsN TBL H' ∧ ExtT H H') (fun N hN => ?_) ?_
    · walk_at "rd"
      rw [eh1]
      refine isM_some hma hw (by decide) tba fun c1 H1 x1 tb1 M1 => isM_fix M1 (show lo < w1 - 1 by omega) hnum (by decide) tb1 fun c2 H2 x2 tb2 M2 => isM_fix ((hma.ext x1).ext x2) (show lo < w1 by omega) hnum (by decide) tb2 fun c3 H3 x3 tb3 M3 => isM_some_fix M3 (by decide) hnum (show hi - 1 < w1 - 1 by omega) tb3 fun c4 H4 x4 tb4 M4 => isM_same_yes ((M2.isM.ext x3).ext x4) M4 tb4 (fun ns hl => ?_) fun H5 x5 tb5 => ⟨true, rfl, ?_⟩
      · constructor
        · rintro ⟨y, h⟩
          exact ⟨y, by have e := ins_swap (x := num) (y := y) hlt (len2 ns hl); unfold ins at e; rw [← e]; exact h⟩
        · rintro ⟨y, h⟩
          exact ⟨y, by have e := ins_swap (x := num) (y := y) hlt (len2 ns hl); unfold ins at e; rw [e]; exact h⟩
      · rw [if_neg (by decide)]
        have X := (((x1.trans x2).trans x3).trans x4).trans x5
        exact hN _ _ ⟨rfl, hma.ext X, tb5, xa.trans X⟩
    rintro σ' Hb ⟨rfl, hmb, tbb, xb⟩
    walk_at "rd"
    rw [eh1]
    refine isM_some hmb (show lo < w1 by omega) (by decide) tbb fun c1 H1 x1 tb1 M1 => isM_fix M1 (show hi - 1 < w1 - 1 by omega) hnum (by decide) tb1 fun c2 H2 x2 tb2 M2 => isM_fix ((hmb.ext x1).ext x2) hw hnum (by decide) tb2 fun c3 H3 x3 tb3 M3 => isM_some_fix M3 (by decide) hnum (show lo < w1 - 1 by omega) tb3 fun c4 H4 x4 tb4 M4 => isM_same_yes ((M2.isM.ext x3).ext x4) M4 tb4 (fun ns hl => ?_) fun H5 x5 tb5 => ok _ (xb.trans ((((x1.trans x2).trans x3).trans x4).trans x5)) tb5
    constructor
    · rintro ⟨x, h⟩
      exact ⟨x, by have e := ins_swap (x := x) (y := num) hlt (len2 ns hl); unfold ins at e; rw [e]; exact h⟩
    · rintro ⟨x, h⟩
      exact ⟨x, by have e := ins_swap (x := x) (y := num) hlt (len2 ns hl); unfold ins at e; rw [← e]; exact h⟩
structure G19 (K : PySem.W.Frag) (CM : Addr) (TBL : List NdefX.NTab) (p a0 : Addr) (ns : List Int) (m1 : Addr) (L1 : List Addr) (w : Nat) (T : List (List Int)) (acc : List Bool) (m2 : Addr) (L2' : List Addr) (T2 : List (List Int)) (acc2 : List Bool) (H : Hp) : Prop where
  draw : Draw K H p a0 ns
  tb : NdefX.TabsN TBL H
  mp1 : MachP CM H L1 m1 w T acc
  mp2 : MachP CM H L2' m2 w T2 acc2
  n1 : p ∉ L1
  n2 : p ∉ L2'
section
variable {K : PySem.W.Frag} {CM : Addr} {TBL : List NdefX.NTab} {p a0 : Addr} {ns : List Int} {m1 : Addr} {L1 : List Addr} {w : Nat} {T : List (List Int)} {acc : List Bool} {m2 : Addr} {L2' : List Addr} {T2 : List (List Int)} {acc2 : List Bool} {H H' : Hp}
theorem G19.ext (h : G19 K CM TBL p a0 ns m1 L1 w T acc m2 L2' T2 acc2 H) (x : ExtT H H') (tb : NdefX.TabsN TBL H') : G19 K CM TBL p a0 ns m1 L1 w T acc m2 L2' T2 acc2 H' := ⟨h.draw.ext x, tb, h.mp1.ext x, h.mp2.ext x, h.n1, h.n2⟩
theorem G19.but (h : G19 K CM TBL p a0 ns m1 L1 w T acc m2 L2' T2 acc2 H) (b : But p H H') (d : Draw K H' p a0 ns) : G19 K CM TBL p a0 ns m1 L1 w T acc m2 L2' T2 acc2 H' := ⟨d, tabsN_but h.tb b h.draw.2.choose_spec.choose_spec.choose_spec.1, h.mp1.but b h.n1, h.mp2.but b h.n2, h.n1, h.n2⟩
theorem G19.one (h : G19 K CM TBL p a0 ns m1 L1 w T acc m2 L2' T2 acc2 H) (k : MOk w T acc) {n : Nat} (hn : T.length ≤ n) : IsM CM H m1 w n fun ns => Tk T acc ns = true := ⟨L1, T, acc, h.mp1, k, hn, fun _ _ => Iff.rfl⟩
theorem G19.two (h : G19 K CM TBL p a0 ns m1 L1 w T acc m2 L2' T2 acc2 H) (k : MOk w T2 acc2) {n : Nat} (hn : T2.length ≤ n) : IsM CM H m2 w n fun ns => Tk T2 acc2 ns = true := ⟨L2', T2, acc2, h.mp2, k, hn, fun _ _ => Iff.rfl⟩
end
theorem j_and (a b : Bool) : joinB "and" a b = (a && b) := by cases a <;> cases b <;> decide +kernel
theorem j_or (a b : Bool) : joinB "or" a b = (a || b) := by cases a <;> cases b <;> decide +kernel
theorem j_imp (a b : Bool) : joinB "imp" a b = (!a || b) := by cases a <;> cases b <;> decide +kernel
theorem j_iff (a b : Bool) : joinB "iff" a b = (a == b) := by cases a <;> cases b <;> decide +kernel
section
variable {w : Nat} {f1 f2 : List Nat → Prop}
theorem hg_and : ∀ (ns : List Nat) (a b : Bool), ns.length = w → (a = true ↔ f1 ns) → (b = true ↔ f2 ns) → (joinB "and" a b = true ↔ f1 ns ∧ f2 ns) := fun ns a b _ h1 h2 => by rw [j_and, ← h1, ← h2]; cases a <;> cases b <;> simp
theorem hg_or : ∀ (ns : List Nat) (a b : Bool), ns.length = w → (a = true ↔ f1 ns) → (b = true ↔ f2 ns) → (joinB "or" a b = true ↔ f1 ns ∨ f2 ns) := fun ns a b _ h1 h2 => by rw [j_or, ← h1, ← h2]; cases a <;> cases b <;> simp
theorem hg_imp : ∀ (ns : List Nat) (a b : Bool), ns.length = w → (a = true ↔ f1 ns) → (b = true ↔ f2 ns) → (joinB "imp" a b = true ↔ (f1 ns → f2 ns)) := fun ns a b _ h1 h2 => by rw [j_imp, ← h1, ← h2]; cases a <;> cases b <;> simp
theorem hg_iff : ∀ (ns : List Nat) (a b : Bool), ns.length = w → (a = true ↔ f1 ns) → (b = true ↔ f2 ns) → (joinB "iff" a b = true ↔ (f1 ns ↔ f2 ns)) := fun ns a b _ h1 h2 => by rw [j_iff, ← h1, ← h2]; cases a <;> cases b <;> simp
end
def spLaw (K : PySem.W.Frag) (TBL : List NdefX.NTab) : Sp := fun vs H Q _ => ∃ (a : Addr) (ns : List Int), vs = [.ref a] ∧ SqL K H a (ns.map V.int) ∧ ns.length ≤ 63 ∧ NdefX.TabsN TBL H ∧ ∀ H', Q (.bl true) H'
theorem f_law {f : Addr} {fd : FuncData} (D : C8.Def K mg "law" s_law f fd) (c__law_draw : C8.Cal P w K mg base 1 "_law_draw" (sp_draw K) []) (c__law_parts : C8.Cal P w K mg base 3 "_law_parts" (sp_parts K) []) {CM CMis COv aJ : Addr} {TBL : List NdefX.NTab} (c_M : Cls K CM) (n_width : NoAttr K CM "width") (n_table : NoAttr K CM "table") (n_accepting : NoAttr K CM "accepting") (k_Machine : C8.Mak P w K mg base 3 "Machine" CM (sp_minit CM) []) (m_Machine_takes : C8.Met P w K mg base 3 CM "takes" (sp_takes K CM) []) (m_Machine_shape : C8.Met P w K mg base 1 CM "shape" (sp_shape CM) []) (c_least : CalX P w K mg base 6 "least" (sp_least CM TBL)) (c_same : CalX P w K mg base 7 "same" (sp_same CM TBL)) (c_both : CalX P w K mg base 6 "both" (sp_both K w CM CMis aJ TBL)) (c_complement : C8.Cal P w K mg base 5 "complement" (sp_complement CM) []) (c_some : CalX P w K mg base 6 "some" (sp_some1 CM CMis COv TBL)) (c_fix : CalX P w K mg base 5 "fix" (sp_fix CM CMis COv TBL)) (c_spread : CalX P w K mg base 6 "spread" (sp_spread K CM CMis TBL)) (c__law_orders : CalX P w K mg base 8 "_law_orders" (sp_orders CM TBL)) (kand : KAt K w aJ "and" true) (kor : KAt K w aJ "or" true) (kimp : KAt K w aJ "imp" true) (kiff : KAt K w aJ "iff" true) (z_int : mg "int" = none) (z_range : mg "range" = none) : FnOk P w K mg base C8.CX0 10 f fd ["script"] (spLaw K TBL) := by
  refine C8.fn0 D.fn sc_law (fun vs H Q E h => ?_) (fun cdv A outer s H vs Q E hr h => ?_)
  · obtain ⟨_, _, rfl, _⟩ := h
    rfl
  · obtain ⟨a0, ns, rfl, hS, hn, htb, ok⟩ := h
    refine ⟨_, (pss_cons (ps_set (i := 1) sc_law.nd rfl (by first | exact Or.inl rfl | exact Or.inr rfl) (pe_lst (pa_cons (pv 0) (pa_cons pe_int (pa_cons pe_int (pa_cons pe_int pa_nil)))))) (C8.pss_cut (ps_set (i := 2) sc_law.nd rfl (by first | exact Or.inl rfl | exact Or.inr rfl) (pe_op op_add pe_int (C8.pe_c c__law_draw hr (by decide) (by rfl) (pa_cons (pv 1) (pa_cons pe_int pa_nil))))) (C8.pss_cut (ps_asg (C8.pe_c c__law_parts hr (by decide) (by rfl) (pa_cons (pv 1) (pa_cons (pv 2) (pa_cons pe_int pa_nil)))) (pg_tup (n := 2) rfl (pgs_cons (pg_name (i := 3) sc_law.nd rfl (by first | exact Or.inl rfl | exact Or.inr rfl)) (pgs_cons (pg_name (i := 4) sc_law.nd rfl (by first | exact Or.inl rfl | exact Or.inr rfl)) pgs_nil)))) (C8.pss_cut (ps_set (i := 5) sc_law.nd rfl (by first | exact Or.inl rfl | exact Or.inr rfl) (C8.pe_mk k_Machine hr (by decide) (by rfl) (pa_cons (pv 2) (pa_cons (pv 3) (pa_cons (pv 4) pa_nil))))) (C8.pss_cut (ps_asg (C8.pe_c c__law_parts hr (by decide) (by rfl) (pa_cons (pv 1) (pa_cons (pv 2) (pa_cons pe_int pa_nil)))) (pg_tup (n := 2) rfl (pgs_cons (pg_name (i := 6) sc_law.nd rfl (by first | exact Or.inl rfl | exact Or.inr rfl)) (pgs_cons (pg_name (i := 7) sc_law.nd rfl (by first | exact Or.inl rfl | exact Or.inr rfl)) pgs_nil)))) (C8.pss_cut (ps_set (i := 8) sc_law.nd rfl (by first | exact Or.inl rfl | exact Or.inr rfl) (C8.pe_mk k_Machine hr (by decide) (by rfl) (pa_cons (pv 2) (pa_cons (pv 6) (pa_cons (pv 7) pa_nil))))) (C8.pss_cut (ps_set (i := 9) sc_law.nd rfl (by first | exact Or.inl rfl | exact Or.inr rfl) (C8.pe_c c__law_draw hr (by decide) (by rfl) (pa_cons (pv 1) (pa_cons (pv 2) pa_nil)))) (C8.pss_cut (ps_set (i := 10) sc_law.nd rfl (by first | exact Or.inl rfl | exact Or.inr rfl) (pe_op op_mod (pe_callTy call_int1 (by rfl) z_int (by decide +kernel) (pa_cons (pe_op op_add (pe_op op_add (pv 9) pe_int) (C8.pe_c c__law_draw hr (by decide) (by rfl) (pa_cons (pv 1) (pa_cons (pe_op op_sub (pv 2) pe_int) pa_nil)))) pa_nil)) (pv 2))) (C8.pss_cut (ps_set (i := 11) sc_law.nd rfl (by first | exact Or.inl rfl | exact Or.inr rfl) (C8.pe_c c__law_draw hr (by decide) (by rfl) (pa_cons (pv 1) (pa_cons pe_int pa_nil)))) (C8.pss_cut (ps_if (pt_not (pt_val (pe_cx c_same hr (by decide) passF (by rfl) (pa_cons (C8.pe_c c_complement hr (by decide) (by rfl) (pa_cons (pe_cx c_both hr (by decide) passF (by rfl) (pa_cons (pv 5) (pa_cons (pv 8) (pa_cons pe_str pa_nil)))) pa_nil)) (pa_cons (pe_cx c_both hr (by decide) passF (by rfl) (pa_cons (C8.pe_c c_complement hr (by decide) (by rfl) (pa_cons (pv 5) pa_nil)) (pa_cons (C8.pe_c c_complement hr (by decide) (by rfl) (pa_cons (pv 8) pa_nil)) (pa_cons pe_str pa_nil)))) pa_nil))))) (pss_one (ps_ret pe_bl)) pss_nil) (C8.pss_cut (ps_if (pt_not (pt_val (pe_cx c_same hr (by decide) passF (by rfl) (pa_cons (pe_cx c_both hr (by decide) passF (by rfl) (pa_cons (pv 5) (pa_cons (pv 8) (pa_cons pe_str pa_nil)))) (pa_cons (pe_cx c_both hr (by decide) passF (by rfl) (pa_cons (C8.pe_c c_complement hr (by decide) (by rfl) (pa_cons (pv 5) pa_nil)) (pa_cons (pv 8) (pa_cons pe_str pa_nil)))) pa_nil))))) (pss_one (ps_ret pe_bl)) pss_nil) (C8.pss_cut (ps_if (pt_not (pt_val (pe_cx c_same hr (by decide) passF (by rfl) (pa_cons (C8.pe_c c_complement hr (by decide) (by rfl) (pa_cons (pe_cx c_both hr (by decide) passF (by rfl) (pa_cons (pv 5) (pa_cons (pv 8) (pa_cons pe_str pa_nil)))) pa_nil)) (pa_cons (pe_cx c_both hr (by decide) passF (by rfl) (pa_cons (pv 5) (pa_cons (C8.pe_c c_complement hr (by decide) (by rfl) (pa_cons (pv 8) pa_nil)) (pa_cons pe_str pa_nil)))) pa_nil))))) (pss_one (ps_ret pe_bl)) pss_nil) (C8.pss_cut (ps_if (pt_not (pt_val (pe_cx c_same hr (by decide) passF (by rfl) (pa_cons (pe_cx c_some hr (by decide) passF (by rfl) (pa_cons (pe_cx c_both hr (by decide) passF (by rfl) (pa_cons (pv 5) (pa_cons (pv 8) (pa_cons pe_str pa_nil)))) (pa_cons (pv 9) pa_nil))) (pa_cons (pe_cx c_both hr (by decide) passF (by rfl) (pa_cons (pe_cx c_some hr (by decide) passF (by rfl) (pa_cons (pv 5) (pa_cons (pv 9) pa_nil))) (pa_cons (pe_cx c_some hr (by decide) passF (by rfl) (pa_cons (pv 8) (pa_cons (pv 9) pa_nil))) (pa_cons pe_str pa_nil)))) pa_nil))))) (pss_one (ps_ret pe_bl)) pss_nil) (C8.pss_cut (ps_if (PW.pt (pw_or (pt_not (pt_val (pe_cx c__law_orders hr (by decide) passF (by rfl) (pa_cons (pv 5) (pa_cons (pv 9) (pa_cons (pv 10) (pa_cons (pv 11) pa_nil))))))) (pw_or1 (pt_not (pt_val (pe_cx c_same hr (by decide) passF (by rfl) (pa_cons (pe_cx c_both hr (by decide) passF (by rfl) (pa_cons (pv 5) (pa_cons (pv 5) (pa_cons pe_str pa_nil)))) (pa_cons (pv 5) pa_nil)))))))) (pss_one (ps_ret pe_bl)) pss_nil) (C8.pss_cut (ps_set (i := 12) sc_law.nd rfl (by first | exact Or.inl rfl | exact Or.inr rfl) (pe_cx c_spread hr (by decide) passF (by rfl) (pa_cons (pv 5) (pa_cons (pe_lc (own := [("track", 16)]) (g := (gName 16)) (tt := _) rfl sc_law.nd (pi_range1 (by rfl) z_range (pa_cons (pe_op op_add (pv 2) pe_int) pa_nil)) (blkOk_by (N := N_law) (sc := C8.fnScope s_law) (by decide +kernel)) (fun _ _ _ _ _ => (pg_name (i := 16) sc_law.nd rfl (by first | exact Or.inl rfl | exact Or.inr rfl))) (fun _ _ _ _ _ => (pts_one (pt_cmpR (op_ne) (pv 16) (pv 9) (nomark _)))) (fun _ _ _ _ _ => (pv 16))) (pa_cons (pe_op op_add (pv 2) pe_int) pa_nil))))) (C8.pss_cut (ps_if (PW.pt (pw_or (pt_not (pt_val (pe_cx c_same hr (by decide) passF (by rfl) (pa_cons (pe_cx c_some hr (by decide) passF (by rfl) (pa_cons (pv 12) (pa_cons (pv 9) pa_nil))) (pa_cons (pv 5) pa_nil))))) (pw_or1 (pt_not (pt_val (pe_cx c_same hr (by decide) passF (by rfl) (pa_cons (pe_cx c_fix hr (by decide) passF (by rfl) (pa_cons (pv 12) (pa_cons (pv 9) (pa_cons (pv 11) pa_nil)))) (pa_cons (pv 5) pa_nil)))))))) (pss_one (ps_ret pe_bl)) pss_nil) (C8.pss_cut (ps_setLc (i := 13) (own := [("track", 16)]) (g := (gName 16)) (tt := tYes) rfl sc_law.nd rfl rfl (sw_true rfl rfl rfl (by decide +kernel)) (pi_range1 (by rfl) z_range (pa_cons (pe_op op_sub (pv 2) pe_int) pa_nil)) (blkOk_by (N := N_law) (sc := C8.fnScope s_law) (by decide +kernel)) (fun _ _ _ _ _ => (pg_name (i := 16) sc_law.nd rfl (by first | exact Or.inl rfl | exact Or.inr rfl))) (fun _ _ _ _ _ => pts_nil) (fun _ _ _ _ _ => (C8.pe_c c__law_draw hr (by decide) (by rfl) (pa_cons (pv 1) (pa_cons pe_int pa_nil))))) (C8.pss_cut (ps_if (pt_cmpR (op_ne) (C8.pe_mt m_Machine_takes hr (by decide) (pe_cx c_fix hr (by decide) passF (by rfl) (pa_cons (pv 5) (pa_cons (pv 9) (pa_cons (pv 11) pa_nil)))) (pa_cons (pv 13) pa_nil)) (C8.pe_mt m_Machine_takes hr (by decide) (pv 5) (pa_cons (pe_op op_cat (pe_op op_cat (pe_slice (slL K) (pv 13) po_none (po_some (pv 9))) (pe_lst (pa_cons (pv 11) pa_nil))) (pe_slice (slL K) (pv 13) (po_some (pv 9)) po_none)) pa_nil)) (nomark _)) (pss_one (ps_ret pe_bl)) pss_nil) (C8.pss_cut (ps_setLc (i := 14) (own := [("track", 16)]) (g := (gName 16)) (tt := tYes) rfl sc_law.nd rfl rfl (sw_true rfl rfl rfl (by decide +kernel)) (pi_range1 (by rfl) z_range (pa_cons (pv 2) pa_nil)) (blkOk_by (N := N_law) (sc := C8.fnScope s_law) (by decide +kernel)) (fun _ _ _ _ _ => (pg_name (i := 16) sc_law.nd rfl (by first | exact Or.inl rfl | exact Or.inr rfl))) (fun _ _ _ _ _ => pts_nil) (fun _ _ _ _ _ => (pe_op op_sub (pe_op op_sub (pv 2) pe_int) (pv 16)))) (C8.pss_cut (ps_if (PW.pt (pw_or (pt_not (pt_val (pe_cx c_same hr (by decide) passF (by rfl) (pa_cons (pe_cx c_spread hr (by decide) passF (by rfl) (pa_cons (pe_cx c_spread hr (by decide) passF (by rfl) (pa_cons (pv 5) (pa_cons (pv 14) (pa_cons (pv 2) pa_nil)))) (pa_cons (pv 14) (pa_cons (pv 2) pa_nil)))) (pa_cons (pv 5) pa_nil))))) (pw_or1 (pt_val (pe_cx c_same hr (by decide) passF (by rfl) (pa_cons (pv 5) (pa_cons (C8.pe_c c_complement hr (by decide) (by rfl) (pa_cons (pv 5) pa_nil)) pa_nil))))))) (pss_one (ps_ret pe_bl)) pss_nil) (C8.pss_cut (ps_set (i := 15) sc_law.nd rfl (by first | exact Or.inl rfl | exact Or.inr rfl) (pe_cx c_both hr (by decide) passF (by rfl) (pa_cons (pe_cx c_fix hr (by decide) passF (by rfl) (pa_cons (pv 5) (pa_cons (pv 9) (pa_cons (pv 11) pa_nil)))) (pa_cons (C8.pe_c c_complement hr (by decide) (by rfl) (pa_cons (pe_cx c_some hr (by decide) passF (by rfl) (pa_cons (pv 5) (pa_cons (pv 9) pa_nil))) pa_nil)) (pa_cons pe_str pa_nil))))) (pss_one (ps_ret (pe_cmpR (eqDK K (hu64 hr)) (C8.pe_mt0 m_Machine_shape hr (by decide) (pe_cx c_least hr (by decide) passF (by rfl) (pa_cons (pv 15) pa_nil))) (pe_tup (pa_cons (pe_op op_sub (pv 2) pe_int) (pa_cons (pe_tup (pa_cons (pe_op (op_repA K) (pe_tup (pa_cons pe_int pa_nil)) (pe_op op_shlW pe_int (pe_op op_sub (pv 2) pe_int))) pa_nil)) (pa_cons (pe_tup (pa_cons pe_bl pa_nil)) pa_nil)))) (nomark _))))))))))))))))))))))))), ?_⟩
    walk_at "rd"
    refine ⟨by decide, fun p hp => ?_⟩
    have hD0 := Draw.start hS hp
    have tb0 := htb.ext (same_upd (o := HO.lst [V.ref a0, V.int 0, V.int 0, V.int 1]) hp)
    obtain ⟨H0, hH0⟩ : ∃ H0, H0 = upd H p (HO.lst [V.ref a0, V.int 0, V.int 0, V.int 1]) := ⟨_, rfl⟩
    rw [← hH0] at hD0 tb0 ⊢
    clear hH0
    have pD : ∀ {Hx : Hp}, Draw K Hx p a0 ns → ∃ xs, Hx p = some (.lst xs) := fun d => ⟨_, d.2.choose_spec.choose_spec.choose_spec.1⟩
    refine cut_by (fun σ' H' => ∃ w0 : Nat, [some (V.ref a0), some (.ref p), some (nv w0), none, none, none, none, none, none, none, none, none, none, none, none, none, none] = σ' ∧ (w0 = 2 ∨ w0 = 3) ∧ Draw K H' p a0 ns ∧ NdefX.TabsN TBL H') (fun N hN => ?_) ?_
    · walk_at "rd"
      refine ⟨p, a0, ns, 2, rfl, hD0, by decide, by decide, fun r H1 hr b1 D1 => ?_⟩
      refine ⟨_, rfl, ?_⟩
      rw [show (2 : Int) + ((r : Nat) : Int) = ((2 + r : Nat) : Int) by omega]
      exact hN _ _ ⟨2 + r, rfl, by omega, D1, tabsN_but tb0 b1 (pD hD0).choose_spec⟩
    rintro σ' H1 ⟨w0, rfl, hw0, D1, tb1⟩
    refine cut_by (fun σ' H' => ∃ (R M : Addr) (qs : List Addr) (T : List (List Int)) (acc : List Bool), [some (V.ref a0), some (.ref p), some (nv w0), some (.ref R), some (.ref M), none, none, none, none, none, none, none, none, none, none, none, none] = σ' ∧ Draw K H' p a0 ns ∧ NdefX.TabsN TBL H' ∧ H' R = some (.lst (qs.map V.ref)) ∧ RowsAt H' qs T ∧ H' M = some (.lst (acc.map V.bl)) ∧ MOk w0 T acc ∧ T.length ≤ 3) (fun N hN => ?_) ?_
    · walk_at "rd"
      refine ⟨p, a0, ns, w0, 3, rfl, D1, by omega, by decide, by decide, fun z t a rs T acc H2 b2 D2 ht ha hta hrs nd ez et rows ea hk hT => ?_⟩
      exact ⟨z, rfl, _, SqT.of ez, rfl, _, _, rfl, _, _, rfl, rfl, hN _ _ ⟨t, a, rs, T, acc, rfl, D2, tabsN_but tb1 b2 (pD D1).choose_spec, et, rows, ea, hk, hT⟩⟩
    rintro σ' H2 ⟨R, M, qs, T, acc, rfl, D2, tb2, eR, er, eM, hk, hT3⟩
    refine cut_by (fun σ' H' => ∃ (m1 : Addr) (L1 : List Addr), [some (V.ref a0), some (.ref p), some (nv w0), some (.ref R), some (.ref M), some (.ref m1), none, none, none, none, none, none, none, none, none, none, none] = σ' ∧ Draw K H' p a0 ns ∧ NdefX.TabsN TBL H' ∧ MachP CM H' L1 m1 w0 T acc ∧ p ∉ L1) (fun N hN => ?_) ?_
    · walk_at "rd"
      intro x1 dx hx hdx ndx
      have s4 : Same H2 (upd (upd H2 dx (HO.own x1)) x1 (HO.ins CM dx [])) := same2 hx hdx
      refine ⟨x1, dx, R, M, qs, w0, T, acc, rfl, upd_same, s4 _ _ eR, er.same s4, s4 _ _ eM, hk, fun H4 b4 n4 => ⟨rfl, ?_⟩⟩
      have s34 : Same H2 H4 := same_mk (fun _ _ e => e) hx hdx b4
      obtain ⟨L1, mp1, fr1⟩ := n4.parts
      refine hN _ _ ⟨x1, L1, rfl, D2.same s34, tb2.ext s34, mp1, fun hm => ?_⟩
      obtain ⟨xs, ep⟩ := pD D2
      rcases fr1 p hm with e | e
      · rw [e, hx] at ep; cases ep
      · rw [s4 _ _ ep] at e; cases e
    rintro σ' H3 ⟨m1, L1, rfl, D3, tb3, mp1, np1⟩
    refine cut_by (fun σ' H' => ∃ (R2 M2 : Addr) (qs2 : List Addr) (T2 : List (List Int)) (acc2 : List Bool), [some (V.ref a0), some (.ref p), some (nv w0), some (.ref R), some (.ref M), some (.ref m1), some (.ref R2), some (.ref M2), none, none, none, none, none, none, none, none, none] = σ' ∧ Draw K H' p a0 ns ∧ NdefX.TabsN TBL H' ∧ MachP CM H' L1 m1 w0 T acc ∧ H' R2 = some (.lst (qs2.map V.ref)) ∧ RowsAt H' qs2 T2 ∧ H' M2 = some (.lst (acc2.map V.bl)) ∧ MOk w0 T2 acc2 ∧ T2.length ≤ 2) (fun N hN => ?_) ?_
    · walk_at "rd"
      refine ⟨p, a0, ns, w0, 2, rfl, D3, by omega, by decide, by decide, fun z t a rs T2 acc2 H4 b4 D4 ht ha hta hrs nd ez et rows ea hk2 hT2 => ?_⟩
      exact ⟨z, rfl, _, SqT.of ez, rfl, _, _, rfl, _, _, rfl, rfl, hN _ _ ⟨t, a, rs, T2, acc2, rfl, D4, tabsN_but tb3 b4 (pD D3).choose_spec, mp1.but b4 np1, et, rows, ea, hk2, hT2⟩⟩
    rintro σ' H4 ⟨R2, M2, qs2, T2, acc2, rfl, D4, tb4, mp1', eR2, er2, eM2, hk2, hT2⟩
    refine cut_by (fun σ' H' => ∃ (m2 : Addr) (L2x : List Addr), [some (V.ref a0), some (.ref p), some (nv w0), some (.ref R), some (.ref M), some (.ref m1), some (.ref R2), some (.ref M2), some (.ref m2), none, none, none, none, none, none, none, none] = σ' ∧ G19 K CM TBL p a0 ns m1 L1 w0 T acc m2 L2x T2 acc2 H') (fun N hN => ?_) ?_
    · walk_at "rd"
      intro x1 dx hx hdx ndx
      have s4 : Same H4 (upd (upd H4 dx (HO.own x1)) x1 (HO.ins CM dx [])) := same2 hx hdx
      refine ⟨x1, dx, R2, M2, qs2, w0, T2, acc2, rfl, upd_same, s4 _ _ eR2, er2.same s4, s4 _ _ eM2, hk2, fun H5 b5 n5 => ⟨rfl, ?_⟩⟩
      have s34 : Same H4 H5 := same_mk (fun _ _ e => e) hx hdx b5
      obtain ⟨L2x, mp2, fr2⟩ := n5.parts
      refine hN _ _ ⟨x1, L2x, rfl, ⟨D4.same s34, tb4.ext s34, mp1'.same s34, mp2, np1, fun hm => ?_⟩⟩
      obtain ⟨xs, ep⟩ := pD D4
      rcases fr2 p hm with e | e
      · rw [e, hx] at ep; cases ep
      · rw [s4 _ _ ep] at e; cases e
    rintro σ' H5 ⟨m2, L2x, rfl, G5⟩
    clear D4 tb4 mp1' eR2 er2 eM2 D3 tb3 mp1 np1 D2 tb2 eR er eM D1 tb1 hD0 tb0
    refine cut_by (fun σ' H' => ∃ f : Nat, [some (V.ref a0), some (.ref p), some (nv w0), some (.ref R), some (.ref M), some (.ref m1), some (.ref R2), some (.ref M2), some (.ref m2), some (nv f), none, none, none, none, none, none, none] = σ' ∧ f < w0 ∧ G19 K CM TBL p a0 ns m1 L1 w0 T acc m2 L2x T2 acc2 H') (fun N hN => ?_) ?_
    · walk_at "rd"
      exact ⟨p, a0, ns, w0, rfl, G5.draw, by omega, by rcases hw0 with rfl | rfl <;> decide, fun r Hx hr bx Dx => hN _ _ ⟨r, rfl, hr, G5.but bx Dx⟩⟩
    rintro σ' H6 ⟨f, rfl, hf, G6⟩
    refine cut_by (fun σ' H' => ∃ sc : Nat, [some (V.ref a0), some (.ref p), some (nv w0), some (.ref R), some (.ref M), some (.ref m1), some (.ref R2), some (.ref M2), some (.ref m2), some (nv f), some (nv sc), none, none, none, none, none, none] = σ' ∧ sc < w0 ∧ f ≠ sc ∧ G19 K CM TBL p a0 ns m1 L1 w0 T acc m2 L2x T2 acc2 H') (fun N hN => ?_) ?_
    · walk_at "rd"
      have e1 : ((w0 : Nat) : Int) - 1 = ((w0 - 1 : Nat) : Int) := by omega
      rw [e1]
      refine ⟨p, a0, ns, w0 - 1, rfl, G6.draw, by omega, by rcases hw0 with rfl | rfl <;> decide, fun d Hx hd bx Dx => ⟨_, rfl, by omega, ?_⟩⟩
      obtain ⟨sc, es, hs1, hs2⟩ : ∃ sc : Nat, (((f : Nat) : Int) + 1 + ((d : Nat) : Int)) % ((w0 : Nat) : Int) = ((sc : Nat) : Int) ∧ sc < w0 ∧ f ≠ sc := by
        rcases hw0 with rfl | rfl
        · exact ⟨(f + 1 + d) % 2, by omega, by omega, by omega⟩
        · exact ⟨(f + 1 + d) % 3, by omega, by omega, by omega⟩
      rw [es]
      exact hN _ _ ⟨sc, rfl, hs1, hs2, G6.but bx Dx⟩
    rintro σ' H7 ⟨sc, rfl, hsc, hfs, G7⟩
    refine cut_by (fun σ' H' => ∃ num : Nat, [some (V.ref a0), some (.ref p), some (nv w0), some (.ref R), some (.ref M), some (.ref m1), some (.ref R2), some (.ref M2), some (.ref m2), some (nv f), some (nv sc), some (nv num), none, none, none, none, none] = σ' ∧ num < 41 ∧ G19 K CM TBL p a0 ns m1 L1 w0 T acc m2 L2x T2 acc2 H') (fun N hN => ?_) ?_
    · walk_at "rd"
      exact ⟨p, a0, ns, 41, rfl, G7.draw, by decide, by decide, fun r Hx hr bx Dx => hN _ _ ⟨r, rfl, hr, G7.but bx Dx⟩⟩
    rintro σ' H8 ⟨num, rfl, hnum, G8⟩
    clear G5 G6 G7
    have hT23 : T.length ≤ 3 := hT3
    refine cut_by (fun σ' H' => [some (V.ref a0), some (.ref p), some (nv w0), some (.ref R), some (.ref M), some (.ref m1), some (.ref R2), some (.ref M2), some (.ref m2), some (nv f), some (nv sc), some (nv num), none, none, none, none, none] = σ' ∧ G19 K CM TBL p a0 ns m1 L1 w0 T acc m2 L2x T2 acc2 H') (fun N hN => ?_) ?_
    · walk_at "rd"
      have A := G8.one hk hT3
      have B := G8.two hk2 hT2
      refine isM_both A B (by decide) G8.tb kand hg_and fun c1 H1 x1 tb1 M1 => isM_compl M1 fun c2 H2 s2 M2 => isM_compl ((A.ext x1).same s2) fun c3 H3 s3 M3 => isM_compl (((B.ext x1).same s2).same s3) fun c4 H4 s4 M4 => isM_both (M3.same s4) M4 (by decide) (((tb1.ext s2).ext s3).ext s4) kor hg_or fun c5 H5 x5 tb5 M5 => isM_same_yes (((M2.same s3).same s4).ext x5) M5 tb5 (fun ns hl => ?_) fun Hz xz tbz => ⟨true, rfl, ?_⟩
      · by_cases h1 : Tk T acc ns = true <;> by_cases h2 : Tk T2 acc2 ns = true <;> simp [h1, h2]
      · rw [if_neg (by decide)]
        exact hN _ _ ⟨rfl, G8.ext (((((x1.trans (ExtT.of s2)).trans (ExtT.of s3)).trans (ExtT.of s4)).trans x5).trans xz) tbz⟩
    rintro σ' H9 ⟨rfl, G9⟩
    refine cut_by (fun σ' H' => [some (V.ref a0), some (.ref p), some (nv w0), some (.ref R), some (.ref M), some (.ref m1), some (.ref R2), some (.ref M2), some (.ref m2), some (nv f), some (nv sc), some (nv num), none, none, none, none, none] = σ' ∧ G19 K CM TBL p a0 ns m1 L1 w0 T acc m2 L2x T2 acc2 H') (fun N hN => ?_) ?_
    · walk_at "rd"
      have A := G9.one hk hT3
      have B := G9.two hk2 hT2
      refine isM_both A B (by decide) G9.tb kimp hg_imp fun c1 H1 x1 tb1 M1 => isM_compl (A.ext x1) fun c2 H2 s2 M2 => isM_both M2 ((B.ext x1).same s2) (by decide) (tb1.ext s2) kor hg_or fun c5 H5 x5 tb5 M5 => isM_same_yes ((M1.same s2).ext x5) M5 tb5 (fun ns hl => ?_) fun Hz xz tbz => ⟨true, rfl, ?_⟩
      · by_cases h1 : Tk T acc ns = true <;> by_cases h2 : Tk T2 acc2 ns = true <;> simp [h1, h2]
      · rw [if_neg (by decide)]
        exact hN _ _ ⟨rfl, G9.ext (((x1.trans (ExtT.of s2)).trans x5).trans xz) tbz⟩
    rintro σ' Ha ⟨rfl, Ga⟩
    refine cut_by (fun σ' H' => [some (V.ref a0), some (.ref p), some (nv w0), some (.ref R), some (.ref M), some (.ref m1), some (.ref R2), some (.ref M2), some (.ref m2), some (nv f), some (nv sc), some (nv num), none, none, none, none, none] = σ' ∧ G19 K CM TBL p a0 ns m1 L1 w0 T acc m2 L2x T2 acc2 H') (fun N hN => ?_) ?_
    · walk_at "rd"
      have A := Ga.one hk hT3
      have B := Ga.two hk2 hT2
      refine isM_both A B (by decide) Ga.tb kiff hg_iff fun c1 H1 x1 tb1 M1 => isM_compl M1 fun c2 H2 s2 M2 => isM_compl ((B.ext x1).same s2) fun c3 H3 s3 M3 => isM_both (((A.ext x1).same s2).same s3) M3 (by decide) ((tb1.ext s2).ext s3) kiff hg_iff fun c5 H5 x5 tb5 M5 => isM_same_yes ((M2.same s3).ext x5) M5 tb5 (fun ns hl => ?_) fun Hz xz tbz => ⟨true, rfl, ?_⟩
      · by_cases h1 : Tk T acc ns = true <;> by_cases h2 : Tk T2 acc2 ns = true <;> simp [h1, h2]
      · rw [if_neg (by decide)]
        exact hN _ _ ⟨rfl, Ga.ext ((((x1.trans (ExtT.of s2)).trans (ExtT.of s3)).trans x5).trans xz) tbz⟩
    rintro σ' Hb ⟨rfl, Gb⟩
    refine cut_by (fun σ' H' => [some (V.ref a0), some (.ref p), some (nv w0), some (.ref R), some (.ref M), some (.ref m1), some (.ref R2), some (.ref M2), some (.ref m2), some (nv f), some (nv sc), some (nv num), none, none, none, none, none] = σ' ∧ G19 K CM TBL p a0 ns m1 L1 w0 T acc m2 L2x T2 acc2 H') (fun N hN => ?_) ?_
    · walk_at "rd"
      have A := Gb.one hk hT3
      have B := Gb.two hk2 hT2
      refine isM_both A B (by decide) Gb.tb kor hg_or fun c1 H1 x1 tb1 M1 => isM_some M1 hf (by decide) tb1 fun c2 H2 x2 tb2 M2 => isM_some ((A.ext x1).ext x2) hf (by decide) tb2 fun c3 H3 x3 tb3 M3 => isM_some (((B.ext x1).ext x2).ext x3) hf (by decide) tb3 fun c4 H4 x4 tb4 M4 => isM_both (M3.ext x4) M4 (by decide) tb4 kor hg_or fun c5 H5 x5 tb5 M5 => isM_same_yes (((M2.ext x3).ext x4).ext x5) M5 tb5 (fun ns hl => ?_) fun Hz xz tbz => ⟨true, rfl, ?_⟩
      · exact exists_or
      · rw [if_neg (by decide)]
        exact hN _ _ ⟨rfl, Gb.ext (((((x1.trans x2).trans x3).trans x4).trans x5).trans xz) tbz⟩
    rintro σ' Hc ⟨rfl, Gc⟩
    refine cut_by (fun σ' H' => [some (V.ref a0), some (.ref p), some (nv w0), some (.ref R), some (.ref M), some (.ref m1), some (.ref R2), some (.ref M2), some (.ref m2), some (nv f), some (nv sc), some (nv num), none, none, none, none, none] = σ' ∧ G19 K CM TBL p a0 ns m1 L1 w0 T acc m2 L2x T2 acc2 H') (fun N hN => ?_) ?_
    · walk_at "rd"
      have A := Gc.one hk hT3
      refine ⟨m1, w0, f, sc, num, _, rfl, A, hf, hsc, hfs, by omega, Gc.tb, fun H1 x1 tb1 => ⟨true, rfl, ?_⟩⟩
      rw [if_neg (by decide)]
      refine isM_both (A.ext x1) (A.ext x1) (by decide) tb1 kand hg_and fun c2 H2 x2 tb2 M2 => isM_same_yes M2 ((A.ext x1).ext x2) tb2 (fun ns hl => ?_) fun Hz xz tbz => ⟨true, rfl, ?_⟩
      · exact and_self_iff
      · rw [if_neg (by decide)]
        exact hN _ _ ⟨rfl, Gc.ext ((x1.trans x2).trans xz) tbz⟩
    rintro σ' Hd ⟨rfl, Gd⟩
    have ew1 : ((w0 : Nat) : Int) + 1 = ((w0 + 1 : Nat) : Int) := by omega
    have hps : ((List.range (w0 + 1)).filter fun j => decide (j ≠ f)).length = w0 := by
      rcases hw0 with rfl | rfl
      · rcases (by omega : f = 0 ∨ f = 1) with rfl | rfl <;> rfl
      · rcases (by omega : f = 0 ∨ f = 1 ∨ f = 2) with rfl | rfl | rfl <;> rfl
    have hpick : ∀ (x : Nat) (ns : List Nat), ns.length = w0 → (((List.range (w0 + 1)).filter fun j => decide (j ≠ f)).map fun y => ((y : Nat) : Int)).map (fun p => (ns.take f ++ [x] ++ ns.drop f).getD p.toNat 0) = ns := fun x ns hl => by
      rcases hw0 with rfl | rfl
      · obtain ⟨a, b, rfl⟩ : ∃ a b, ns = [a, b] := by
          match ns, hl with
          | [a, b], _ => exact ⟨a, b, rfl⟩
        rcases (by omega : f = 0 ∨ f = 1) with rfl | rfl <;> rfl
      · obtain ⟨a, b, c, rfl⟩ : ∃ a b c, ns = [a, b, c] := by
          match ns, hl with
          | [a, b, c], _ => exact ⟨a, b, c, rfl⟩
        rcases (by omega : f = 0 ∨ f = 1 ∨ f = 2) with rfl | rfl | rfl <;> rfl
    refine cut_by (fun σ' H' => ∃ wi : Addr, [some (V.ref a0), some (.ref p), some (nv w0), some (.ref R), some (.ref M), some (.ref m1), some (.ref R2), some (.ref M2), some (.ref m2), some (nv f), some (nv sc), some (nv num), some (.ref wi), none, none, none, none] = σ' ∧ G19 K CM TBL p a0 ns m1 L1 w0 T acc m2 L2x T2 acc2 H' ∧ IsM CM H' wi (w0 + 1) 3 (fun ns => Tk T acc ((((List.range (w0 + 1)).filter fun j => decide (j ≠ f)).map fun y => ((y : Nat) : Int)).map fun p => ns.getD p.toNat 0) = true)) (fun N hN => ?_) ?_
    · walk_at "rd"
      have A := Gd.one hk hT3
      rw [ew1]
      refine ⟨by omega, by omega, fun D hD => ?_⟩
      rw [Int.toNat_natCast]
      refine lc_sel (walk_range (lo := 0) (n := w0 + 1)) (fun j => decide (j ≠ f)) nv (by omega) hD (fun _ _ => trivial) ?_ ?_
      · rintro i x H1 H2 Yv Nn hi s1 ⟨rfl, rfl⟩ hY hN2
        walk_at "rd"
        exact ite2 (fun h0 => hN2 (decide_eq_false fun z => z (by omega)) _ (Same.refl _)) (fun h0 => hY (decide_eq_true fun z => h0 (by rw [z])) _ (Same.refl _))
      · intro H1 s1 e1
        rw [sel_ints] at e1
        exact isM_spread (A.same s1) e1 (by rw [List.length_map, hps]) (show w0 + 1 ≤ 6 by omega) (fun p hp => by obtain ⟨j, h1, _, rfl⟩ := mem_sel.mp hp; omega) (Gd.tb.ext s1) fun c H2 x2 tb2 M2 => hN _ _ ⟨c, rfl, Gd.ext ((ExtT.of s1).trans x2) tb2, M2⟩
    rintro σ' He ⟨wi, rfl, Ge, hwi⟩
    refine cut_by (fun σ' H' => [some (V.ref a0), some (.ref p), some (nv w0), some (.ref R), some (.ref M), some (.ref m1), some (.ref R2), some (.ref M2), some (.ref m2), some (nv f), some (nv sc), some (nv num), some (.ref wi), none, none, none, none] = σ' ∧ G19 K CM TBL p a0 ns m1 L1 w0 T acc m2 L2x T2 acc2 H') (fun N hN => ?_) ?_
    · walk_at "rd"
      have A := Ge.one hk hT3
      refine isM_some hwi (show f < w0 + 1 by omega) (by decide) Ge.tb fun c1 H1 x1 tb1 M1 => isM_same_yes (w := w0) M1 (A.ext x1) tb1 (fun ns hl => ?_) fun H2 x2 tb2 => ⟨true, rfl, ?_⟩
      · constructor
        · rintro ⟨x, h⟩
          rw [hpick x ns hl] at h
          exact h
        · intro h
          exact ⟨0, by rw [hpick 0 ns hl]; exact h⟩
      · rw [if_neg (by decide)]
        refine isM_fix ((hwi.ext x1).ext x2) (show f < w0 + 1 by omega) (by omega) (by decide) tb2 fun c3 H3 x3 tb3 M3 => isM_same_yes (w := w0) M3.isM (((A.ext x1).ext x2).ext x3) tb3 (fun ns hl => ?_) fun Hz xz tbz => ⟨true, rfl, ?_⟩
        · show Tk T acc _ = true ↔ _
          rw [hpick num ns hl]
        · rw [if_neg (by decide)]
          exact hN _ _ ⟨rfl, Ge.ext (((x1.trans x2).trans x3).trans xz) tbz⟩
    rintro σ' Hf ⟨rfl, Gf⟩
    refine cut_by (fun σ' H' => ∃ (rv : Addr) (vals : List Nat), [some (V.ref a0), some (.ref p), some (nv w0), some (.ref R), some (.ref M), some (.ref m1), some (.ref R2), some (.ref M2), some (.ref m2), some (nv f), some (nv sc), some (nv num), some (.ref wi), some (.ref rv), none, none, none] = σ' ∧ G19 K CM TBL p a0 ns m1 L1 w0 T acc m2 L2x T2 acc2 H' ∧ H' rv = some (.lst (vals.map nv)) ∧ vals.length = w0 - 1 ∧ ∀ v ∈ vals, v < 41) (fun N hN => ?_) ?_
    · walk_at "rd"
      have e1 : ((w0 : Nat) : Int) - 1 = ((w0 - 1 : Nat) : Int) := by omega
      rw [e1]
      refine ⟨by omega, by omega, fun D hD => ?_⟩
      rw [Int.toNat_natCast]
      have nDp : D ≠ p := Gf.draw.ne hD
      refine lc_rangeN (fun i H1 => But p Hf H1 ∧ Draw K H1 p a0 ns ∧ ∃ vals : List Nat, vals.length = i ∧ (∀ v ∈ vals, v < 41) ∧ H1 D = some (.lst (vals.map nv))) ?_ ?_ ?_
      · exact ⟨But.of (same_upd hD), Gf.draw.same (same_upd hD), [], rfl, (fun _ h => nomatch h), upd_same⟩
      · rintro i H1 N2 hi ⟨b1, D1, vals, hvl, hv, eD⟩ hN2
        walk_at "rd"
        refine ⟨p, a0, ns, 41, rfl, D1, by decide, by decide, fun r H2 hr b2 D2 => ?_⟩
        have eD2 := b2 _ _ nDp eD
        refine ⟨_, eD2, smallt (by rw [List.length_map]; omega), hN2 _ ⟨(b1.trans b2).new hD, Gf.draw.upd (b1.trans b2) D2 hD, vals ++ [r], by rw [List.length_append, hvl]; rfl, fun v hv2 => ?_, by rw [upd_same, List.map_append]; rfl⟩⟩
        rcases List.mem_append.mp hv2 with h | h
        · exact hv v h
        · rw [List.mem_singleton.mp h]; exact hr
      · rintro H1 ⟨b1, D1, vals, hvl, hv, eD⟩
        exact hN _ _ ⟨D, vals, rfl, Gf.but b1 D1, eD, hvl, hv⟩
    rintro σ' Hg ⟨rv, vals, rfl, Gg, erv, hvl, hv41⟩
    refine cut_by (fun σ' H' => [some (V.ref a0), some (.ref p), some (nv w0), some (.ref R), some (.ref M), some (.ref m1), some (.ref R2), some (.ref M2), some (.ref m2), some (nv f), some (nv sc), some (nv num), some (.ref wi), some (.ref rv), none, none, none] = σ' ∧ G19 K CM TBL p a0 ns m1 L1 w0 T acc m2 L2x T2 acc2 H') (fun N hN => ?_) ?_
    · walk_at "rd"
      have A := Gg.one hk hT3
      refine isM_fix A hf (by omega) (by decide) Gg.tb fun c1 H1 x1 tb1 M1 => ?_
      obtain ⟨Lc, Tc, accc, q1, q2, q3, q4⟩ := M1.isM
      have erv1 := x1.lst erv
      have G1 := Gg.ext x1 tb1
      obtain ⟨dxp, tp, bp, rsp, _, v1, v2, v3, v4⟩ := id q1
      obtain ⟨dxq, tq, bq, rsq, _, y1, y2, y3, y4⟩ := id G1.mp1
      have big : ∀ v : Nat, v < 41 → v < 2 ^ 1000 := fun v hv => Nat.lt_of_lt_of_le hv (by decide +kernel)
      refine ⟨c1, rfl, _, _, v1, mf_no _ _ _ (by decide +kernel) (by decide +kernel) (by decide +kernel), c1, rv, w0 - 1, Tc, accc, vals, rfl, q1.at_, q2, SqL.of erv1, hvl, fun v hv => big v (hv41 v hv), fun H2 s2 => ⟨_, _, s2 _ _ y1, mf_no _ _ _ (by decide +kernel) (by decide +kernel) (by decide +kernel), _, SqL.of (s2 _ _ erv1), fun p1 hp1 => ?_⟩⟩
      have ec1 : cutV (vals.map nv) none (some ((f : Nat) : Int)) = (vals.take f).map nv := by rw [cutV_to (by rw [List.length_map]; omega), List.map_take]
      have ec2 : cutV (vals.map nv) (some ((f : Nat) : Int)) none = (vals.drop f).map nv := by rw [cutV_from (by rw [List.length_map]; omega), List.map_drop]
      rw [ec1] at *
      refine ⟨by decide, fun p2 hp2 => ?_⟩
      have t1 := same_upd (o := HO.lst ((vals.take f).map nv)) hp1
      have t2 := same_upd (o := HO.lst [nv num]) hp2
      have lt1 : (vals.take f).length ≤ 3 := by rw [List.length_take]; omega
      refine ⟨_, t2 _ _ upd_same, _, upd_same, Nat.le_of_lt (smallt (by rw [List.length_map]; show _ + 1 ≤ _; omega)), fun p3 hp3 => ?_⟩
      have t3 := same_upd (o := HO.lst ((vals.take f).map nv ++ [nv num])) hp3
      have t13 := (t1.trans t2).trans t3
      refine ⟨_, SqL.of (t13 _ _ (s2 _ _ erv1)), fun p4 hp4 => ?_⟩
      rw [ec2] at *
      have t4 := same_upd (o := HO.lst ((vals.drop f).map nv)) hp4
      refine ⟨_, t4 _ _ upd_same, _, upd_same, Nat.le_of_lt (smallt (by rw [List.length_append, List.length_map, List.length_map, List.length_drop]; show _ + 1 + _ ≤ _; omega)), fun p5 hp5 => ?_⟩
      have t5 := same_upd (o := HO.lst ((vals.take f).map nv ++ [nv num] ++ (vals.drop f).map nv)) hp5
      have t15 := (t13.trans t4).trans t5
      have hins : (vals.take f ++ [num] ++ vals.drop f).length = w0 := by simp; omega
      refine ⟨m1, p5, w0, T, acc, vals.take f ++ [num] ++ vals.drop f, rfl, ((G1.mp1.same s2).same t15).at_, hk, SqL.of (by rw [upd_same, List.map_append, List.map_append]; rfl), hins, fun v hv => ?_, fun H3 s3 => ⟨rfl, ?_⟩⟩
      · refine big v ?_
        rcases List.mem_append.mp hv with hv | hv
        · rcases List.mem_append.mp hv with hv | hv
          · exact hv41 v (List.mem_of_mem_take hv)
          · rw [List.mem_singleton.mp hv]; exact hnum
        · exact hv41 v (List.mem_of_mem_drop hv)
      · have hb : accc.getD (runT Tc 0 (wd vals)) false = acc.getD (runT T 0 (wd (vals.take f ++ [num] ++ vals.drop f))) false := by
          rw [Bool.eq_iff_iff]
          exact q4 vals hvl
        rw [if_pos (by rw [hb])]
        exact hN _ _ ⟨rfl, G1.ext (ExtT.of ((s2.trans t15).trans s3)) (((tb1.ext s2).ext t15).ext s3)⟩
    rintro σ' Hh ⟨rfl, Gh⟩
    refine cut_by (fun σ' H' => ∃ tv : Addr, [some (V.ref a0), some (.ref p), some (nv w0), some (.ref R), some (.ref M), some (.ref m1), some (.ref R2), some (.ref M2), some (.ref m2), some (nv f), some (nv sc), some (nv num), some (.ref wi), some (.ref rv), some (.ref tv), none, none] = σ' ∧ G19 K CM TBL p a0 ns m1 L1 w0 T acc m2 L2x T2 acc2 H' ∧ H' tv = some (.lst (((List.range w0).map fun i => ((w0 - 1 - i : Nat) : Int)).map V.int))) (fun N hN => ?_) ?_
    · walk_at "rd"
      refine ⟨by omega, by omega, fun D hD => ?_⟩
      refine lc_map (walk_range (lo := 0) (n := w0)) (fun i => V.int ((w0 - 1 - i : Nat) : Int)) (by omega) hD (fun _ _ => trivial) ?_ ?_
      · rintro i x H1 H2 N2 hi s1 ⟨rfl, rfl⟩ hN2
        walk_at "rd"
        rw [show ((w0 : Nat) : Int) - 1 - ((i : Nat) : Int) = ((w0 - 1 - i : Nat) : Int) by omega]
        exact hN2 _ (Same.refl _)
      · intro H1 s1 e1
        exact hN _ _ ⟨D, rfl, Gh.ext (ExtT.of s1) (Gh.tb.ext s1), by rw [e1, List.map_map]; rfl⟩
    rintro σ' Hi ⟨tv, rfl, Gi, etv⟩
    refine cut_by (fun σ' H' => [some (V.ref a0), some (.ref p), some (nv w0), some (.ref R), some (.ref M), some (.ref m1), some (.ref R2), some (.ref M2), some (.ref m2), some (nv f), some (nv sc), some (nv num), some (.ref wi), some (.ref rv), some (.ref tv), none, none] = σ' ∧ G19 K CM TBL p a0 ns m1 L1 w0 T acc m2 L2x T2 acc2 H') (fun N hN => ?_) ?_
    · walk_at "rd"
      have A := Gi.one hk hT3
      have hpl : ((List.range w0).map fun i => ((w0 - 1 - i : Nat) : Int)).length = w0 := by rw [List.length_map, List.length_range]
      have hpm : ∀ p ∈ (List.range w0).map (fun i => ((w0 - 1 - i : Nat) : Int)), 0 ≤ p ∧ p < ((w0 : Nat) : Int) := fun p hp => by
        obtain ⟨i, _, rfl⟩ := List.mem_map.mp hp
        omega
      have htwice : ∀ ns : List Nat, ns.length = w0 → ((List.range w0).map fun i => ((w0 - 1 - i : Nat) : Int)).map (fun p => (((List.range w0).map fun i => ((w0 - 1 - i : Nat) : Int)).map fun p => ns.getD p.toNat 0).getD p.toNat 0) = ns := fun ns hl => by
        rcases hw0 with rfl | rfl
        · match ns, hl with
          | [a, b], _ => rfl
        · match ns, hl with
          | [a, b, c], _ => rfl
      refine isM_spread A etv hpl (show w0 ≤ 6 by omega) hpm Gi.tb fun c1 H1 x1 tb1 M1 => isM_spread M1 (x1.lst etv) hpl (show w0 ≤ 6 by omega) hpm tb1 fun c2 H2 x2 tb2 M2 => isM_same_yes M2 ((A.ext x1).ext x2) tb2 (fun ns hl => ?_) fun H3 x3 tb3 => ⟨true, rfl, ?_⟩
      · show Tk T acc _ = true ↔ _
        rw [htwice ns hl]
      · rw [if_neg (by decide)]
        have A3 := ((A.ext x1).ext x2).ext x3
        refine isM_compl A3 fun c4 H4 s4 M4 => isM_same (A3.same s4) M4 (tb3.ext s4) fun c H5 x5 tb5 hc => ⟨c, rfl, ?_⟩
        have hcf : ¬ c = true := fun z => by
          have := hc.mp z (List.replicate w0 0) List.length_replicate
          exact iff_not_self this
        rw [if_neg hcf]
        exact hN _ _ ⟨rfl, Gi.ext ((((x1.trans x2).trans x3).trans (ExtT.of s4)).trans x5) tb5⟩
    rintro σ' Hj ⟨rfl, Gj⟩
    refine cut_by (fun σ' H' => ∃ ic : Addr, [some (V.ref a0), some (.ref p), some (nv w0), some (.ref R), some (.ref M), some (.ref m1), some (.ref R2), some (.ref M2), some (.ref m2), some (nv f), some (nv sc), some (nv num), some (.ref wi), some (.ref rv), some (.ref tv), some (.ref ic), none] = σ' ∧ NdefX.TabsN TBL H' ∧ IsM CM H' ic (w0 - 1) 168 (fun _ => False)) (fun N hN => ?_) ?_
    · walk_at "rd"
      have A := Gj.one hk hT3
      refine isM_fix A hf (by omega) (by decide) Gj.tb fun c1 H1 x1 tb1 M1 => isM_some (A.ext x1) hf (by decide) tb1 fun c2 H2 x2 tb2 M2 => isM_compl M2 fun c3 H3 s3 M3 => isM_both ((M1.isM.ext x2).same s3) M3 (by decide) (tb2.ext s3) kand hg_and fun c4 H4 x4 tb4 M4 => hN _ _ ⟨c4, rfl, tb4, M4.mono (by decide) fun ns hl => ?_⟩
      constructor
      · rintro ⟨h1, h2⟩
        exact h2 ⟨num, h1⟩
      · exact False.elim
    rintro σ' Hk ⟨ic, rfl, tbk, hic⟩
    walk_at "rd"
    obtain ⟨Lc, Tc, accc, q1, q2, q3, q4⟩ := hic
    refine ⟨ic, Lc, w0 - 1, Tc, accc, rfl, q1, q2, tbk, fun C m' L' ls T3 H1 hC x1 tb1 mp1 fr1 mk1 bf1 al1 => ?_⟩
    obtain ⟨r1, r2⟩ := least_empty hC q2 bf1 al1 (fun ns hl => by
      have := q4 ns hl
      cases hb : Tk Tc accc ns with
      | false => rfl
      | true => exact absurd (this.mp hb) id)
    rw [r1, r2] at mp1 mk1
    obtain ⟨dxp, tp, bp, rsp, _, v1, v2, v3, v4⟩ := id mp1
    refine ⟨m', rfl, _, _, v1, mf_no _ _ _ (by decide +kernel) (by decide +kernel) (by decide +kernel), m', w0 - 1, _, _, rfl, mp1.at_, mk1, fun z1 H2 s2 sh1 => ?_⟩
    have e1 : ((w0 : Nat) : Int) - 1 = ((w0 - 1 : Nat) : Int) := by omega
    have ek : (1 * 2 ^ (((w0 - 1 : Nat) : Int)).toNat : Int) = ((2 ^ (w0 - 1) : Nat) : Int) := by rw [Int.toNat_natCast]; simp
    have k2 : 2 ≤ 2 ^ (w0 - 1) ∧ 2 ^ (w0 - 1) ≤ 4 := by rcases hw0 with rfl | rfl <;> decide
    show _ ∧ _
    rw [e1, ek]
    refine ⟨by decide, fun p1 hp1 => ⟨shlN (n := 1) (b := 1) (by decide) (by omega), _, SqT.of upd_same, (fun z => nomatch z), by omega, by omega, by decide, fun z => absurd z (by omega), fun _ p2 hp2 => ⟨by decide, fun p3 hp3 => ⟨by decide, fun p4 hp4 => ⟨by decide, fun p5 hp5 => ?_⟩⟩⟩⟩⟩
    rw [Int.toNat_natCast] at *
    have er : (List.replicate (2 ^ (w0 - 1)) [V.int 0]).flatten = (List.replicate (2 ^ (w0 - 1)) (0 : Int)).map V.int := by
      rw [List.map_replicate, List.flatten_replicate_singleton]
    have t1 := same_upd (o := HO.tup [V.int 0]) hp1
    have t2 := same_upd (o := HO.tup (List.replicate (2 ^ (w0 - 1)) [V.int 0]).flatten) hp2
    have t3 := same_upd (o := HO.tup [V.ref p2]) hp3
    have t4 := same_upd (o := HO.tup [V.bl false]) hp4
    have t5 := same_upd (o := HO.tup [nv (w0 - 1), V.ref p3, V.ref p4]) hp5
    have tA := (((t1.trans t2).trans t3).trans t4).trans t5
    have sh2 : ShapeAt (upd (upd (upd (upd (upd H2 p1 (HO.tup [V.int 0])) p2 (HO.tup (List.replicate (2 ^ (w0 - 1)) [V.int 0]).flatten)) p3 (HO.tup [V.ref p2])) p4 (HO.tup [V.bl false])) p5 (HO.tup [nv (w0 - 1), V.ref p3, V.ref p4])) p5 (w0 - 1) [List.replicate (2 ^ (w0 - 1)) 0] [false] := by
      refine ⟨p3, p4, [p2], upd_same, t5 _ _ (t4 _ _ upd_same), ⟨rfl, fun i a r h1 h2 => ?_⟩, t5 _ _ upd_same⟩
      cases i with
      | zero =>
        cases h1
        cases h2
        exact (t5 _ _ (t4 _ _ (t3 _ _ upd_same))).trans (congrArg (fun l => some (HO.tup l)) er)
      | succ i => cases h1
    exact eqD_of (ShapeAt.same sh1 tA).dp sh2.dp (shape_shaped _ _ _) (ok _)

end
abbrev si_Misused : Stmt := (C8.clsBody (topS 3)).getD 0 (.Pass ⟨0, 0, 0, 0⟩)
theorem sci_Misused : FnScope ["self", "why"] ["self", "why"] (C8.fnScope si_Misused) := C8.fnScope_by (by decide +kernel)
theorem f_ini_Misused {P : Program} {w : World} {K : PySem.W.Frag} {mg : Str → Option Value} {base : Heap} {C fI : Addr} {fd : FuncData} (T : OexC K C) (nof : PySem.W.findIn K (.ref C) "why" = some none) (F : C8.Fun K "__init__" "Misused.__init__" si_Misused fI fd) : FnOk P w K mg base C8.CX0 1 fI fd ["self", "why"] (sp_init C "why") := by
  refine C8.fn0 F sci_Misused (fun vs H Q E h => ?_) (fun cdv A outer s H vs Q E hr h => ?_)
  · obtain ⟨_, _, rfl, _⟩ := h
    rfl
  · obtain ⟨a, v, rfl, ha, ok⟩ := h
    exact ⟨_, pss_one (ps_ost (pv 0) (pv 1)), v, rfl, .ref a, rfl, a, C, rfl, T, nof, .inl ⟨ha, ok⟩⟩
abbrev si_Oversized : Stmt := (C8.clsBody (topS 2)).getD 0 (.Pass ⟨0, 0, 0, 0⟩)
theorem sci_Oversized : FnScope ["self", "limit"] ["self", "limit"] (C8.fnScope si_Oversized) := C8.fnScope_by (by decide +kernel)
theorem f_ini_Oversized {P : Program} {w : World} {K : PySem.W.Frag} {mg : Str → Option Value} {base : Heap} {C fI : Addr} {fd : FuncData} (T : OexC K C) (nof : PySem.W.findIn K (.ref C) "limit" = some none) (F : C8.Fun K "__init__" "Oversized.__init__" si_Oversized fI fd) : FnOk P w K mg base C8.CX0 1 fI fd ["self", "limit"] (sp_init C "limit") := by
  refine C8.fn0 F sci_Oversized (fun vs H Q E h => ?_) (fun cdv A outer s H vs Q E hr h => ?_)
  · obtain ⟨_, _, rfl, _⟩ := h
    rfl
  · obtain ⟨a, v, rfl, ha, ok⟩ := h
    exact ⟨_, pss_one (ps_ost (pv 0) (pv 1)), v, rfl, .ref a, rfl, a, C, rfl, T, nof, .inl ⟨ha, ok⟩⟩
theorem all_mk {l : PySem.W.OpenLaw} {w : World} {K : PySem.W.Frag} {h : Heap} {mg : Str → Option Value} {fa : Addr} (X : K.In h) (G : h.Ns mainGlobals mg) (hfa : mg "law" = some (.ref fa))
    {CM : Addr}
    {f0 : Addr} {od0 an0 : Option Addr} {sl0 : Array (Option Value)} {oc0 kV0 dc0 pm0 cd0 ct0 : Value}
    {f1 : Addr} {od1 an1 : Option Addr} {sl1 : Array (Option Value)} {oc1 kV1 dc1 pm1 cd1 ct1 : Value}
    {f2 : Addr} {od2 an2 : Option Addr} {sl2 : Array (Option Value)} {oc2 kV2 dc2 pm2 cd2 ct2 : Value}
    {f3 : Addr} {od3 an3 : Option Addr} {sl3 : Array (Option Value)} {oc3 kV3 dc3 pm3 cd3 ct3 : Value}
    {f4 : Addr} {od4 an4 : Option Addr} {sl4 : Array (Option Value)} {oc4 kV4 dc4 pm4 cd4 ct4 : Value}
    {f5 : Addr} {od5 an5 : Option Addr} {sl5 : Array (Option Value)} {oc5 kV5 dc5 pm5 cd5 ct5 : Value}
    {f6 : Addr} {od6 an6 : Option Addr} {sl6 : Array (Option Value)} {oc6 kV6 dc6 pm6 cd6 ct6 : Value}
    {f7 : Addr} {od7 an7 : Option Addr} {sl7 : Array (Option Value)} {oc7 kV7 dc7 pm7 cd7 ct7 : Value}
    {f8 : Addr} {od8 an8 : Option Addr} {sl8 : Array (Option Value)} {oc8 kV8 dc8 pm8 cd8 ct8 : Value}
    {f9 : Addr} {od9 an9 : Option Addr} {sl9 : Array (Option Value)} {oc9 kV9 dc9 pm9 cd9 ct9 : Value}
    {f10 : Addr} {od10 an10 : Option Addr} {sl10 : Array (Option Value)} {oc10 kV10 dc10 pm10 cd10 ct10 : Value}
    {f11 : Addr} {od11 an11 : Option Addr} {sl11 : Array (Option Value)} {oc11 kV11 dc11 pm11 cd11 ct11 : Value}
    {f12 : Addr} {od12 an12 : Option Addr} {sl12 : Array (Option Value)} {oc12 kV12 dc12 pm12 cd12 ct12 : Value}
    {f13 : Addr} {od13 an13 : Option Addr} {sl13 : Array (Option Value)} {oc13 kV13 dc13 pm13 cd13 ct13 : Value}
    {f14 : Addr} {od14 an14 : Option Addr} {sl14 : Array (Option Value)} {oc14 kV14 dc14 pm14 cd14 ct14 : Value}
    {f15 : Addr} {od15 an15 : Option Addr} {sl15 : Array (Option Value)} {oc15 kV15 dc15 pm15 cd15 ct15 : Value}
    {f16 : Addr} {od16 an16 : Option Addr} {sl16 : Array (Option Value)} {oc16 kV16 dc16 pm16 cd16 ct16 : Value}
    {f17 : Addr} {od17 an17 : Option Addr} {sl17 : Array (Option Value)} {oc17 kV17 dc17 pm17 cd17 ct17 : Value}
    {f18 : Addr} {od18 an18 : Option Addr} {sl18 : Array (Option Value)} {oc18 kV18 dc18 pm18 cd18 ct18 : Value}
    {f19 : Addr} {od19 an19 : Option Addr} {sl19 : Array (Option Value)} {oc19 kV19 dc19 pm19 ct19 : Value}
    {f20 : Addr} {od20 an20 : Option Addr} {sl20 : Array (Option Value)} {oc20 kV20 dc20 pm20 cd20 ct20 : Value}
    {f21 : Addr} {od21 an21 : Option Addr} {sl21 : Array (Option Value)} {oc21 kV21 dc21 pm21 cd21 ct21 : Value}
    {f22 : Addr} {od22 an22 : Option Addr} {sl22 : Array (Option Value)} {oc22 kV22 dc22 pm22 cd22 ct22 : Value}
    {f23 : Addr} {od23 an23 : Option Addr} {sl23 : Array (Option Value)} {oc23 kV23 dc23 pm23 ct23 : Value}
    {f24 : Addr} {od24 an24 : Option Addr} {sl24 : Array (Option Value)} {oc24 kV24 dc24 pm24 cd24 ct24 : Value}
    {f25 : Addr} {od25 an25 : Option Addr} {sl25 : Array (Option Value)} {oc25 kV25 dc25 pm25 cd25 ct25 : Value}
    {f26 : Addr} {od26 an26 : Option Addr} {sl26 : Array (Option Value)} {oc26 kV26 dc26 pm26 ct26 : Value}
    {f27 : Addr} {od27 an27 : Option Addr} {sl27 : Array (Option Value)} {oc27 kV27 dc27 pm27 cd27 ct27 : Value}
    {f28 : Addr} {od28 an28 : Option Addr} {sl28 : Array (Option Value)} {oc28 kV28 dc28 pm28 cd28 ct28 : Value}
    {f29 : Addr} {od29 an29 : Option Addr} {sl29 : Array (Option Value)} {oc29 kV29 dc29 pm29 ct29 : Value}
    {f30 : Addr} {od30 an30 : Option Addr} {sl30 : Array (Option Value)} {oc30 kV30 dc30 pm30 ct30 : Value}
    {f31 : Addr} {od31 an31 : Option Addr} {sl31 : Array (Option Value)} {oc31 kV31 dc31 pm31 cd31 ct31 : Value}
    {f32 : Addr} {od32 an32 : Option Addr} {sl32 : Array (Option Value)} {oc32 kV32 dc32 pm32 cd32 ct32 : Value}
    {f33 : Addr} {od33 an33 : Option Addr} {sl33 : Array (Option Value)} {oc33 kV33 dc33 pm33 cd33 ct33 : Value}
    {f34 : Addr} {od34 an34 : Option Addr} {sl34 : Array (Option Value)} {oc34 kV34 dc34 pm34 cd34 ct34 : Value}
    {f35 : Addr} {od35 an35 : Option Addr} {sl35 : Array (Option Value)} {oc35 kV35 dc35 pm35 cd35 ct35 : Value}
    {f36 : Addr} {od36 an36 : Option Addr} {sl36 : Array (Option Value)} {oc36 kV36 dc36 pm36 cd36 ct36 : Value}
    {f37 : Addr} {od37 an37 : Option Addr} {sl37 : Array (Option Value)} {oc37 kV37 dc37 pm37 cd37 ct37 : Value}
    {t_STATES : Tok}
    {t_TRACKS : Tok}
    {t_NUMBER_DIGITS : Tok}
    {CMis fI_Misused : Addr} {nm_Misused q_Misused : Str} {N_Misused : Addr} {bs_Misused bm_Misused : List Value} {sn_Misused : List Str} {sub_Misused : List Value} {ab_Misused : Bool} {col_Misused : Option Bool} {dd_Misused : Option Addr} {m0_Misused m1_Misused m2_Misused m3_Misused m5_Misused : Option Value} {odi_Misused ani_Misused : Option Addr} {sli_Misused : Array (Option Value)} {oci_Misused kVi_Misused dci_Misused pmi_Misused cdi_Misused cti_Misused : Value}
    {COv fI_Oversized : Addr} {nm_Oversized q_Oversized : Str} {N_Oversized : Addr} {bs_Oversized bm_Oversized : List Value} {sn_Oversized : List Str} {sub_Oversized : List Value} {ab_Oversized : Bool} {col_Oversized : Option Bool} {dd_Oversized : Option Addr} {m0_Oversized m1_Oversized m2_Oversized m3_Oversized m5_Oversized : Option Value} {odi_Oversized ani_Oversized : Option Addr} {sli_Oversized : Array (Option Value)} {oci_Oversized kVi_Oversized dci_Oversized pmi_Oversized cdi_Oversized cti_Oversized : Value}
    {aJ : Addr} {esJ : Array DictEntry} {nJ : Nat} {v_and v_or v_imp v_iff : Value} {cBX PtX cBS PtS cBW PtW cBP PtP cBC PtC : Addr}
    (aC_Machine : PySem.W.nsIn K mainGlobals "Machine" = some (some (.ref CM))) (pg_Machine : PySem.W.plainGet K CM Str.empty = true) (hd_Machine : PySem.W.hasDictIn K CM = true) (po_Machine : PySem.W.plainOver K CM = true) (sa_Machine : PySem.W.findIn K (.ref CM) "__setattr__" = some (some (.builtin "object.__setattr__"))) (mk_Machine : PySem.W.makesIn K CM = true) (kc_Machine : PySem.W.keepIn K (.ref CM) = true) (no0_Machine : PySem.W.findIn K (.ref CM) "width" = some none) (no1_Machine : PySem.W.findIn K (.ref CM) "table" = some none) (no2_Machine : PySem.W.findIn K (.ref CM) "accepting" = some none)
    (a0 : PySem.W.nsIn K mainGlobals "is_state" = some (some (.ref f0))) (l0 : K.lookup f0 = some ⟨oc0, od0, .func (PySem.W.fnOf "is_state" "is_state" (C8.fnArgs s_is_state) (C8.fnBody s_is_state) (C8.fnScope s_is_state) .none kV0 dc0 pm0 an0 cd0 ct0), sl0⟩) (c0 : PySem.W.codeIn K cd0 "is_state" = true) (k0 : PySem.W.keepIn K (.ref f0) = true)
    (a1 : PySem.W.nsIn K mainGlobals "is_table" = some (some (.ref f1))) (l1 : K.lookup f1 = some ⟨oc1, od1, .func (PySem.W.fnOf "is_table" "is_table" (C8.fnArgs s_is_table) (C8.fnBody s_is_table) (C8.fnScope s_is_table) .none kV1 dc1 pm1 an1 cd1 ct1), sl1⟩) (c1 : PySem.W.codeIn K cd1 "is_table" = true) (k1 : PySem.W.keepIn K (.ref f1) = true)
    (a2 : PySem.W.nsIn K mainGlobals "letters" = some (some (.ref f2))) (l2 : K.lookup f2 = some ⟨oc2, od2, .func (PySem.W.fnOf "letters" "letters" (C8.fnArgs s_letters) (C8.fnBody s_letters) (C8.fnScope s_letters) .none kV2 dc2 pm2 an2 cd2 ct2), sl2⟩) (c2 : PySem.W.codeIn K cd2 "letters" = true) (k2 : PySem.W.keepIn K (.ref f2) = true)
    (a3 : PySem.W.nsIn K mainGlobals "check_width" = some (some (.ref f3))) (l3 : K.lookup f3 = some ⟨oc3, od3, .func (PySem.W.fnOf "check_width" "check_width" (C8.fnArgs s_check_width) (C8.fnBody s_check_width) (C8.fnScope s_check_width) .none kV3 dc3 pm3 an3 cd3 ct3), sl3⟩) (c3 : PySem.W.codeIn K cd3 "check_width" = true) (k3 : PySem.W.keepIn K (.ref f3) = true)
    (a4 : PySem.W.findIn K (.ref CM) "__init__" = some (some (.ref f4))) (i4 : PySem.W.isFn K (.ref f4) = true) (l4 : K.lookup f4 = some ⟨oc4, od4, .func (PySem.W.fnOf "__init__" "Machine.__init__" (C8.fnArgs s_Machine___init__) (C8.fnBody s_Machine___init__) (C8.fnScope s_Machine___init__) .none kV4 dc4 pm4 an4 cd4 ct4), sl4⟩) (c4 : PySem.W.codeIn K cd4 "Machine.__init__" = true) (k4 : PySem.W.keepIn K (.ref f4) = true)
    (a5 : PySem.W.nsIn K mainGlobals "digit" = some (some (.ref f5))) (l5 : K.lookup f5 = some ⟨oc5, od5, .func (PySem.W.fnOf "digit" "digit" (C8.fnArgs s_digit) (C8.fnBody s_digit) (C8.fnScope s_digit) .none kV5 dc5 pm5 an5 cd5 ct5), sl5⟩) (c5 : PySem.W.codeIn K cd5 "digit" = true) (k5 : PySem.W.keepIn K (.ref f5) = true)
    (a6 : PySem.W.nsIn K mainGlobals "letter_of" = some (some (.ref f6))) (l6 : K.lookup f6 = some ⟨oc6, od6, .func (PySem.W.fnOf "letter_of" "letter_of" (C8.fnArgs s_letter_of) (C8.fnBody s_letter_of) (C8.fnScope s_letter_of) .none kV6 dc6 pm6 an6 cd6 ct6), sl6⟩) (c6 : PySem.W.codeIn K cd6 "letter_of" = true) (k6 : PySem.W.keepIn K (.ref f6) = true)
    (a7 : PySem.W.nsIn K mainGlobals "word_of" = some (some (.ref f7))) (l7 : K.lookup f7 = some ⟨oc7, od7, .func (PySem.W.fnOf "word_of" "word_of" (C8.fnArgs s_word_of) (C8.fnBody s_word_of) (C8.fnScope s_word_of) .none kV7 dc7 pm7 an7 cd7 ct7), sl7⟩) (c7 : PySem.W.codeIn K cd7 "word_of" = true) (k7 : PySem.W.keepIn K (.ref f7) = true)
    (a8 : PySem.W.findIn K (.ref CM) "behind" = some (some (.ref f8))) (i8 : PySem.W.isFn K (.ref f8) = true) (l8 : K.lookup f8 = some ⟨oc8, od8, .func (PySem.W.fnOf "behind" "Machine.behind" (C8.fnArgs s_Machine_behind) (C8.fnBody s_Machine_behind) (C8.fnScope s_Machine_behind) .none kV8 dc8 pm8 an8 cd8 ct8), sl8⟩) (c8 : PySem.W.codeIn K cd8 "Machine.behind" = true) (k8 : PySem.W.keepIn K (.ref f8) = true)
    (a9 : PySem.W.findIn K (.ref CM) "accepts" = some (some (.ref f9))) (i9 : PySem.W.isFn K (.ref f9) = true) (l9 : K.lookup f9 = some ⟨oc9, od9, .func (PySem.W.fnOf "accepts" "Machine.accepts" (C8.fnArgs s_Machine_accepts) (C8.fnBody s_Machine_accepts) (C8.fnScope s_Machine_accepts) .none kV9 dc9 pm9 an9 cd9 ct9), sl9⟩) (c9 : PySem.W.codeIn K cd9 "Machine.accepts" = true) (k9 : PySem.W.keepIn K (.ref f9) = true)
    (a10 : PySem.W.findIn K (.ref CM) "takes" = some (some (.ref f10))) (i10 : PySem.W.isFn K (.ref f10) = true) (l10 : K.lookup f10 = some ⟨oc10, od10, .func (PySem.W.fnOf "takes" "Machine.takes" (C8.fnArgs s_Machine_takes) (C8.fnBody s_Machine_takes) (C8.fnScope s_Machine_takes) .none kV10 dc10 pm10 an10 cd10 ct10), sl10⟩) (c10 : PySem.W.codeIn K cd10 "Machine.takes" = true) (k10 : PySem.W.keepIn K (.ref f10) = true)
    (a11 : PySem.W.findIn K (.ref CM) "shape" = some (some (.ref f11))) (i11 : PySem.W.isFn K (.ref f11) = true) (l11 : K.lookup f11 = some ⟨oc11, od11, .func (PySem.W.fnOf "shape" "Machine.shape" (C8.fnArgs s_Machine_shape) (C8.fnBody s_Machine_shape) (C8.fnScope s_Machine_shape) .none kV11 dc11 pm11 an11 cd11 ct11), sl11⟩) (c11 : PySem.W.codeIn K cd11 "Machine.shape" = true) (k11 : PySem.W.keepIn K (.ref f11) = true)
    (a12 : PySem.W.nsIn K mainGlobals "numbered" = some (some (.ref f12))) (l12 : K.lookup f12 = some ⟨oc12, od12, .func (PySem.W.fnOf "numbered" "numbered" (C8.fnArgs s_numbered) (C8.fnBody s_numbered) (C8.fnScope s_numbered) .none kV12 dc12 pm12 an12 cd12 ct12), sl12⟩) (c12 : PySem.W.codeIn K cd12 "numbered" = true) (k12 : PySem.W.keepIn K (.ref f12) = true)
    (a13 : PySem.W.nsIn K mainGlobals "rounds" = some (some (.ref f13))) (l13 : K.lookup f13 = some ⟨oc13, od13, .func (PySem.W.fnOf "rounds" "rounds" (C8.fnArgs s_rounds) (C8.fnBody s_rounds) (C8.fnScope s_rounds) .none kV13 dc13 pm13 an13 cd13 ct13), sl13⟩) (c13 : PySem.W.codeIn K cd13 "rounds" = true) (k13 : PySem.W.keepIn K (.ref f13) = true)
    (a14 : PySem.W.nsIn K mainGlobals "classes" = some (some (.ref f14))) (l14 : K.lookup f14 = some ⟨oc14, od14, .func (PySem.W.fnOf "classes" "classes" (C8.fnArgs s_classes) (C8.fnBody s_classes) (C8.fnScope s_classes) .none kV14 dc14 pm14 an14 cd14 ct14), sl14⟩) (c14 : PySem.W.codeIn K cd14 "classes" = true) (k14 : PySem.W.keepIn K (.ref f14) = true)
    (a15 : PySem.W.nsIn K mainGlobals "with_track" = some (some (.ref f15))) (l15 : K.lookup f15 = some ⟨oc15, od15, .func (PySem.W.fnOf "with_track" "with_track" (C8.fnArgs s_with_track) (C8.fnBody s_with_track) (C8.fnScope s_with_track) .none kV15 dc15 pm15 an15 cd15 ct15), sl15⟩) (c15 : PySem.W.codeIn K cd15 "with_track" = true) (k15 : PySem.W.keepIn K (.ref f15) = true)
    (a16 : PySem.W.nsIn K mainGlobals "check_track" = some (some (.ref f16))) (l16 : K.lookup f16 = some ⟨oc16, od16, .func (PySem.W.fnOf "check_track" "check_track" (C8.fnArgs s_check_track) (C8.fnBody s_check_track) (C8.fnScope s_check_track) .none kV16 dc16 pm16 an16 cd16 ct16), sl16⟩) (c16 : PySem.W.codeIn K cd16 "check_track" = true) (k16 : PySem.W.keepIn K (.ref f16) = true)
    (a17 : PySem.W.nsIn K mainGlobals "ranks" = some (some (.ref f17))) (l17 : K.lookup f17 = some ⟨oc17, od17, .func (PySem.W.fnOf "ranks" "ranks" (C8.fnArgs s_ranks) (C8.fnBody s_ranks) (C8.fnScope s_ranks) .none kV17 dc17 pm17 an17 cd17 ct17), sl17⟩) (c17 : PySem.W.codeIn K cd17 "ranks" = true) (k17 : PySem.W.keepIn K (.ref f17) = true)
    (a18 : PySem.W.nsIn K mainGlobals "reached" = some (some (.ref f18))) (l18 : K.lookup f18 = some ⟨oc18, od18, .func (PySem.W.fnOf "reached" "reached" (C8.fnArgs s_reached) (C8.fnBody s_reached) (C8.fnScope s_reached) .none kV18 dc18 pm18 an18 cd18 ct18), sl18⟩) (c18 : PySem.W.codeIn K cd18 "reached" = true) (k18 : PySem.W.keepIn K (.ref f18) = true)
    (a19 : PySem.W.nsIn K mainGlobals "least_with_map" = some (some (.ref f19))) (l19 : K.lookup f19 = some ⟨oc19, od19, .func (PySem.W.fnOf "least_with_map" "least_with_map" (C8.fnArgs s_least_with_map) (C8.fnBody s_least_with_map) (C8.fnScope s_least_with_map) .none kV19 dc19 pm19 an19 (.ref cBC) ct19), sl19⟩) (c19 : PySem.W.codeIn K (.ref cBC) "least_with_map" = true) (k19 : PySem.W.keepIn K (.ref f19) = true)
    (a20 : PySem.W.nsIn K mainGlobals "least" = some (some (.ref f20))) (l20 : K.lookup f20 = some ⟨oc20, od20, .func (PySem.W.fnOf "least" "least" (C8.fnArgs s_least) (C8.fnBody s_least) (C8.fnScope s_least) .none kV20 dc20 pm20 an20 cd20 ct20), sl20⟩) (c20 : PySem.W.codeIn K cd20 "least" = true) (k20 : PySem.W.keepIn K (.ref f20) = true)
    (a21 : PySem.W.nsIn K mainGlobals "same" = some (some (.ref f21))) (l21 : K.lookup f21 = some ⟨oc21, od21, .func (PySem.W.fnOf "same" "same" (C8.fnArgs s_same) (C8.fnBody s_same) (C8.fnScope s_same) .none kV21 dc21 pm21 an21 cd21 ct21), sl21⟩) (c21 : PySem.W.codeIn K cd21 "same" = true) (k21 : PySem.W.keepIn K (.ref f21) = true)
    (a22 : PySem.W.nsIn K mainGlobals "joined" = some (some (.ref f22))) (l22 : K.lookup f22 = some ⟨oc22, od22, .func (PySem.W.fnOf "joined" "joined" (C8.fnArgs s_joined) (C8.fnBody s_joined) (C8.fnScope s_joined) .none kV22 dc22 pm22 an22 cd22 ct22), sl22⟩) (c22 : PySem.W.codeIn K cd22 "joined" = true) (k22 : PySem.W.keepIn K (.ref f22) = true)
    (a23 : PySem.W.nsIn K mainGlobals "both_with_pairs" = some (some (.ref f23))) (l23 : K.lookup f23 = some ⟨oc23, od23, .func (PySem.W.fnOf "both_with_pairs" "both_with_pairs" (C8.fnArgs s_both_with_pairs) (C8.fnBody s_both_with_pairs) (C8.fnScope s_both_with_pairs) .none kV23 dc23 pm23 an23 (.ref cBP) ct23), sl23⟩) (c23 : PySem.W.codeIn K (.ref cBP) "both_with_pairs" = true) (k23 : PySem.W.keepIn K (.ref f23) = true)
    (a24 : PySem.W.nsIn K mainGlobals "both" = some (some (.ref f24))) (l24 : K.lookup f24 = some ⟨oc24, od24, .func (PySem.W.fnOf "both" "both" (C8.fnArgs s_both) (C8.fnBody s_both) (C8.fnScope s_both) .none kV24 dc24 pm24 an24 cd24 ct24), sl24⟩) (c24 : PySem.W.codeIn K cd24 "both" = true) (k24 : PySem.W.keepIn K (.ref f24) = true)
    (a25 : PySem.W.nsIn K mainGlobals "complement" = some (some (.ref f25))) (l25 : K.lookup f25 = some ⟨oc25, od25, .func (PySem.W.fnOf "complement" "complement" (C8.fnArgs s_complement) (C8.fnBody s_complement) (C8.fnScope s_complement) .none kV25 dc25 pm25 an25 cd25 ct25), sl25⟩) (c25 : PySem.W.codeIn K cd25 "complement" = true) (k25 : PySem.W.keepIn K (.ref f25) = true)
    (a26 : PySem.W.nsIn K mainGlobals "some_with_sets" = some (some (.ref f26))) (l26 : K.lookup f26 = some ⟨oc26, od26, .func (PySem.W.fnOf "some_with_sets" "some_with_sets" (C8.fnArgs s_some_with_sets) (C8.fnBody s_some_with_sets) (C8.fnScope s_some_with_sets) .none kV26 dc26 pm26 an26 (.ref cBW) ct26), sl26⟩) (c26 : PySem.W.codeIn K (.ref cBW) "some_with_sets" = true) (k26 : PySem.W.keepIn K (.ref f26) = true)
    (a27 : PySem.W.nsIn K mainGlobals "some" = some (some (.ref f27))) (l27 : K.lookup f27 = some ⟨oc27, od27, .func (PySem.W.fnOf "some" "some" (C8.fnArgs s_some) (C8.fnBody s_some) (C8.fnScope s_some) .none kV27 dc27 pm27 an27 cd27 ct27), sl27⟩) (c27 : PySem.W.codeIn K cd27 "some" = true) (k27 : PySem.W.keepIn K (.ref f27) = true)
    (a28 : PySem.W.nsIn K mainGlobals "accepts_rest" = some (some (.ref f28))) (l28 : K.lookup f28 = some ⟨oc28, od28, .func (PySem.W.fnOf "accepts_rest" "accepts_rest" (C8.fnArgs s_accepts_rest) (C8.fnBody s_accepts_rest) (C8.fnScope s_accepts_rest) .none kV28 dc28 pm28 an28 cd28 ct28), sl28⟩) (c28 : PySem.W.codeIn K cd28 "accepts_rest" = true) (k28 : PySem.W.keepIn K (.ref f28) = true)
    (a29 : PySem.W.nsIn K mainGlobals "fix" = some (some (.ref f29))) (l29 : K.lookup f29 = some ⟨oc29, od29, .func (PySem.W.fnOf "fix" "fix" (C8.fnArgs s_fix) (C8.fnBody s_fix) (C8.fnScope s_fix) .none kV29 dc29 pm29 an29 (.ref cBX) ct29), sl29⟩) (c29 : PySem.W.codeIn K (.ref cBX) "fix" = true) (k29 : PySem.W.keepIn K (.ref f29) = true)
    (a30 : PySem.W.nsIn K mainGlobals "spread_with_states" = some (some (.ref f30))) (l30 : K.lookup f30 = some ⟨oc30, od30, .func (PySem.W.fnOf "spread_with_states" "spread_with_states" (C8.fnArgs s_spread_with_states) (C8.fnBody s_spread_with_states) (C8.fnScope s_spread_with_states) .none kV30 dc30 pm30 an30 (.ref cBS) ct30), sl30⟩) (c30 : PySem.W.codeIn K (.ref cBS) "spread_with_states" = true) (k30 : PySem.W.keepIn K (.ref f30) = true)
    (a31 : PySem.W.nsIn K mainGlobals "spread" = some (some (.ref f31))) (l31 : K.lookup f31 = some ⟨oc31, od31, .func (PySem.W.fnOf "spread" "spread" (C8.fnArgs s_spread) (C8.fnBody s_spread) (C8.fnScope s_spread) .none kV31 dc31 pm31 an31 cd31 ct31), sl31⟩) (c31 : PySem.W.codeIn K cd31 "spread" = true) (k31 : PySem.W.keepIn K (.ref f31) = true)
    (a32 : PySem.W.nsIn K mainGlobals "_law_draw" = some (some (.ref f32))) (l32 : K.lookup f32 = some ⟨oc32, od32, .func (PySem.W.fnOf "_law_draw" "_law_draw" (C8.fnArgs s__law_draw) (C8.fnBody s__law_draw) (C8.fnScope s__law_draw) .none kV32 dc32 pm32 an32 cd32 ct32), sl32⟩) (c32 : PySem.W.codeIn K cd32 "_law_draw" = true) (k32 : PySem.W.keepIn K (.ref f32) = true)
    (a33 : PySem.W.nsIn K mainGlobals "_law_table" = some (some (.ref f33))) (l33 : K.lookup f33 = some ⟨oc33, od33, .func (PySem.W.fnOf "_law_table" "_law_table" (C8.fnArgs s__law_table) (C8.fnBody s__law_table) (C8.fnScope s__law_table) .none kV33 dc33 pm33 an33 cd33 ct33), sl33⟩) (c33 : PySem.W.codeIn K cd33 "_law_table" = true) (k33 : PySem.W.keepIn K (.ref f33) = true)
    (a34 : PySem.W.nsIn K mainGlobals "_law_marks" = some (some (.ref f34))) (l34 : K.lookup f34 = some ⟨oc34, od34, .func (PySem.W.fnOf "_law_marks" "_law_marks" (C8.fnArgs s__law_marks) (C8.fnBody s__law_marks) (C8.fnScope s__law_marks) .none kV34 dc34 pm34 an34 cd34 ct34), sl34⟩) (c34 : PySem.W.codeIn K cd34 "_law_marks" = true) (k34 : PySem.W.keepIn K (.ref f34) = true)
    (a35 : PySem.W.nsIn K mainGlobals "_law_parts" = some (some (.ref f35))) (l35 : K.lookup f35 = some ⟨oc35, od35, .func (PySem.W.fnOf "_law_parts" "_law_parts" (C8.fnArgs s__law_parts) (C8.fnBody s__law_parts) (C8.fnScope s__law_parts) .none kV35 dc35 pm35 an35 cd35 ct35), sl35⟩) (c35 : PySem.W.codeIn K cd35 "_law_parts" = true) (k35 : PySem.W.keepIn K (.ref f35) = true)
    (a36 : PySem.W.nsIn K mainGlobals "_law_orders" = some (some (.ref f36))) (l36 : K.lookup f36 = some ⟨oc36, od36, .func (PySem.W.fnOf "_law_orders" "_law_orders" (C8.fnArgs s__law_orders) (C8.fnBody s__law_orders) (C8.fnScope s__law_orders) .none kV36 dc36 pm36 an36 cd36 ct36), sl36⟩) (c36 : PySem.W.codeIn K cd36 "_law_orders" = true) (k36 : PySem.W.keepIn K (.ref f36) = true)
    (a37 : PySem.W.nsIn K mainGlobals "law" = some (some (.ref f37))) (l37 : K.lookup f37 = some ⟨oc37, od37, .func (PySem.W.fnOf "law" "law" (C8.fnArgs s_law) (C8.fnBody s_law) (C8.fnScope s_law) .none kV37 dc37 pm37 an37 cd37 ct37), sl37⟩) (c37 : PySem.W.codeIn K cd37 "law" = true) (k37 : PySem.W.keepIn K (.ref f37) = true)
    (zz_len : PySem.W.nsIn K mainGlobals "len" = some none)
    (zz_abs : PySem.W.nsIn K mainGlobals "abs" = some none)
    (zz_int : PySem.W.nsIn K mainGlobals "int" = some none)
    (zz_list : PySem.W.nsIn K mainGlobals "list" = some none)
    (zz_range : PySem.W.nsIn K mainGlobals "range" = some none)
    (zz_isinstance : PySem.W.nsIn K mainGlobals "isinstance" = some none)
    (zz_bool : PySem.W.nsIn K mainGlobals "bool" = some none)
    (zz_min : PySem.W.nsIn K mainGlobals "min" = some none)
    (zz_max : PySem.W.nsIn K mainGlobals "max" = some none)
    (zz_sum : PySem.W.nsIn K mainGlobals "sum" = some none)
    (zz_enumerate : PySem.W.nsIn K mainGlobals "enumerate" = some none)
    (zz_all : PySem.W.nsIn K mainGlobals "all" = some none)
    (zz_any : PySem.W.nsIn K mainGlobals "any" = some none)
    (zz_tuple : PySem.W.nsIn K mainGlobals "tuple" = some none)
    (zz_sorted : PySem.W.nsIn K mainGlobals "sorted" = some none)
    (gg_STATES : PySem.W.nsIn K mainGlobals "STATES" = some (some (.int 400 t_STATES)))
    (gg_TRACKS : PySem.W.nsIn K mainGlobals "TRACKS" = some (some (.int 6 t_TRACKS)))
    (gg_NUMBER_DIGITS : PySem.W.nsIn K mainGlobals "NUMBER_DIGITS" = some (some (.int 64 t_NUMBER_DIGITS)))
    (xa_Misused : PySem.W.nsIn K mainGlobals "Misused" = some (some (.ref CMis))) (xc_Misused : K.lookup CMis = some (excClassObj nm_Misused q_Misused CMis N_Misused bs_Misused bm_Misused true sn_Misused sub_Misused ab_Misused col_Misused dd_Misused m0_Misused m1_Misused m2_Misused m3_Misused m5_Misused "ValueError.__new__")) (xr_Misused : PySem.HandSPX.refsVE bm_Misused = true) (xs_Misused : PySem.W.findIn K (.ref CMis) "__setattr__" = some (some (.builtin "object.__setattr__"))) (xg_Misused : PySem.W.findIn K (.ref CMis) "__getattribute__" = some (some (.builtin "BaseException.__getattribute__"))) (xh_Misused : PySem.W.findIn K (.ref CMis) "__getattr__" = some none) (xn_Misused : PySem.W.findIn K (.ref CMis) "why" = some none) (xi_Misused : PySem.W.findIn K (.ref CMis) "__init__" = some (some (.ref fI_Misused))) (xt_Misused : PySem.W.typeIn K (.ref fI_Misused) = some (.type "function")) (xl_Misused : K.lookup fI_Misused = some ⟨oci_Misused, odi_Misused, .func (PySem.W.fnOf "__init__" "Misused.__init__" (C8.fnArgs si_Misused) (C8.fnBody si_Misused) (C8.fnScope si_Misused) .none kVi_Misused dci_Misused pmi_Misused ani_Misused cdi_Misused cti_Misused), sli_Misused⟩) (xq_Misused : PySem.W.codeIn K cdi_Misused "Misused.__init__" = true) (xk_Misused : PySem.W.keepIn K (.ref CMis) = true) (xe_Misused : PySem.W.subIn K (.ref CMis) (.type "BaseException") = some true) (xy_Misused : PySem.W.typeIn K (.ref CMis) = some (.type "type")) (xd_Misused : PySem.W.hasDictIn K CMis = true) (xz_Misused : PySem.W.isClsIn K CMis = true)
    (xa_Oversized : PySem.W.nsIn K mainGlobals "Oversized" = some (some (.ref COv))) (xc_Oversized : K.lookup COv = some (excClassObj nm_Oversized q_Oversized COv N_Oversized bs_Oversized bm_Oversized true sn_Oversized sub_Oversized ab_Oversized col_Oversized dd_Oversized m0_Oversized m1_Oversized m2_Oversized m3_Oversized m5_Oversized "ValueError.__new__")) (xr_Oversized : PySem.HandSPX.refsVE bm_Oversized = true) (xs_Oversized : PySem.W.findIn K (.ref COv) "__setattr__" = some (some (.builtin "object.__setattr__"))) (xg_Oversized : PySem.W.findIn K (.ref COv) "__getattribute__" = some (some (.builtin "BaseException.__getattribute__"))) (xh_Oversized : PySem.W.findIn K (.ref COv) "__getattr__" = some none) (xn_Oversized : PySem.W.findIn K (.ref COv) "limit" = some none) (xi_Oversized : PySem.W.findIn K (.ref COv) "__init__" = some (some (.ref fI_Oversized))) (xt_Oversized : PySem.W.typeIn K (.ref fI_Oversized) = some (.type "function")) (xl_Oversized : K.lookup fI_Oversized = some ⟨oci_Oversized, odi_Oversized, .func (PySem.W.fnOf "__init__" "Oversized.__init__" (C8.fnArgs si_Oversized) (C8.fnBody si_Oversized) (C8.fnScope si_Oversized) .none kVi_Oversized dci_Oversized pmi_Oversized ani_Oversized cdi_Oversized cti_Oversized), sli_Oversized⟩) (xq_Oversized : PySem.W.codeIn K cdi_Oversized "Oversized.__init__" = true) (xk_Oversized : PySem.W.keepIn K (.ref COv) = true) (xe_Oversized : PySem.W.subIn K (.ref COv) (.type "BaseException") = some true) (xy_Oversized : PySem.W.typeIn K (.ref COv) = some (.type "type")) (xd_Oversized : PySem.W.hasDictIn K COv = true) (xz_Oversized : PySem.W.isClsIn K COv = true)
    (gJ : PySem.W.nsIn K mainGlobals "JOINTS" = some (some (.ref aJ)))
    (jl : K.lookup aJ = some ⟨.type "dict", none, .dict esJ nJ, #[]⟩)
    (jk : PySem.W.KeysLit w.params esJ.toList)
    (jlow : (aJ == sysModules) = false)
    (j_and : PySem.W.nsIn K aJ "and" = some (some v_and))
    (j_or : PySem.W.nsIn K aJ "or" = some (some v_or))
    (j_imp : PySem.W.nsIn K aJ "imp" = some (some v_imp))
    (j_iff : PySem.W.nsIn K aJ "iff" = some (some v_iff))
    (hh_fix : PySem.W.codeHdIn K cBX PtX = true) (hTb_fix : h.get? PtX = some { cls := .none, data := .fields #[] }) (nTb_fix : K.lookup PtX = none)
    (hh_spread_with_states : PySem.W.codeHdIn K cBS PtS = true) (hTb_spread_with_states : h.get? PtS = some { cls := .none, data := .fields #[] }) (nTb_spread_with_states : K.lookup PtS = none)
    (hh_some_with_sets : PySem.W.codeHdIn K cBW PtW = true) (hTb_some_with_sets : h.get? PtW = some { cls := .none, data := .fields #[] }) (nTb_some_with_sets : K.lookup PtW = none)
    (hh_both_with_pairs : PySem.W.codeHdIn K cBP PtP = true) (hTb_both_with_pairs : h.get? PtP = some { cls := .none, data := .fields #[] }) (nTb_both_with_pairs : K.lookup PtP = none)
    (hh_least_with_map : PySem.W.codeHdIn K cBC PtC = true) (hTb_least_with_map : h.get? PtC = some { cls := .none, data := .fields #[] }) (nTb_least_with_map : K.lookup PtC = none)
    (ne_PtX_PtS : PtX ≠ PtS)
    (ne_PtX_PtW : PtX ≠ PtW)
    (ne_PtX_PtP : PtX ≠ PtP)
    (ne_PtX_PtC : PtX ≠ PtC)
    (ne_PtS_PtW : PtS ≠ PtW)
    (ne_PtS_PtP : PtS ≠ PtP)
    (ne_PtS_PtC : PtS ≠ PtC)
    (ne_PtW_PtP : PtW ≠ PtP)
    (ne_PtW_PtC : PtW ≠ PtC)
    (ne_PtP_PtC : PtP ≠ PtC) :
    LamX.LawAtS l w K C8.CX0 10 63 "script" mg fa h := by
  have e := hfa.symm.trans (PySem.W.mg_of X G a37)
  cases e
  have D0 : C8.Def K mg "is_state" s_is_state f0 _ := ⟨⟨_, _, _, _, _, _, _, _, _, _, rfl, l0, c0⟩, PySem.W.mg_of X G a0, k0⟩
  have b0 := C8.Fun.binds D0.fn rfl (ps := ["value", "size"]) fun _ _ _ _ _ _ us hl => match us, hl with | [_, _], _ => rfl
  have D1 : C8.Def K mg "is_table" s_is_table f1 _ := ⟨⟨_, _, _, _, _, _, _, _, _, _, rfl, l1, c1⟩, PySem.W.mg_of X G a1, k1⟩
  have b1 := C8.Fun.binds D1.fn rfl (ps := ["table", "length"]) fun _ _ _ _ _ _ us hl => match us, hl with | [_, _], _ => rfl
  have D2 : C8.Def K mg "letters" s_letters f2 _ := ⟨⟨_, _, _, _, _, _, _, _, _, _, rfl, l2, c2⟩, PySem.W.mg_of X G a2, k2⟩
  have b2 := C8.Fun.binds D2.fn rfl (ps := ["width"]) fun _ _ _ _ _ _ us hl => match us, hl with | [_], _ => rfl
  have D3 : C8.Def K mg "check_width" s_check_width f3 _ := ⟨⟨_, _, _, _, _, _, _, _, _, _, rfl, l3, c3⟩, PySem.W.mg_of X G a3, k3⟩
  have b3 := C8.Fun.binds D3.fn rfl (ps := ["width"]) fun _ _ _ _ _ _ us hl => match us, hl with | [_], _ => rfl
  have F4 : C8.Fun K "__init__" "Machine.__init__" s_Machine___init__ f4 _ := ⟨_, _, _, _, _, _, _, _, _, _, rfl, l4, c4⟩
  have b4 := C8.Fun.binds F4 rfl (ps := ["self", "width", "table", "accepting"]) fun _ _ _ _ _ _ us hl => match us, hl with | [_, _, _, _], _ => rfl
  have D5 : C8.Def K mg "digit" s_digit f5 _ := ⟨⟨_, _, _, _, _, _, _, _, _, _, rfl, l5, c5⟩, PySem.W.mg_of X G a5, k5⟩
  have b5 := C8.Fun.binds D5.fn rfl (ps := ["letter", "track"]) fun _ _ _ _ _ _ us hl => match us, hl with | [_, _], _ => rfl
  have D6 : C8.Def K mg "letter_of" s_letter_of f6 _ := ⟨⟨_, _, _, _, _, _, _, _, _, _, rfl, l6, c6⟩, PySem.W.mg_of X G a6, k6⟩
  have b6 := C8.Fun.binds D6.fn rfl (ps := ["digits"]) fun _ _ _ _ _ _ us hl => match us, hl with | [_], _ => rfl
  have D7 : C8.Def K mg "word_of" s_word_of f7 _ := ⟨⟨_, _, _, _, _, _, _, _, _, _, rfl, l7, c7⟩, PySem.W.mg_of X G a7, k7⟩
  have b7 := C8.Fun.binds D7.fn rfl (ps := ["numbers"]) fun _ _ _ _ _ _ us hl => match us, hl with | [_], _ => rfl
  have F8 : C8.Fun K "behind" "Machine.behind" s_Machine_behind f8 _ := ⟨_, _, _, _, _, _, _, _, _, _, rfl, l8, c8⟩
  have b8 := C8.Fun.binds F8 rfl (ps := ["self", "word"]) fun _ _ _ _ _ _ us hl => match us, hl with | [_, _], _ => rfl
  have F9 : C8.Fun K "accepts" "Machine.accepts" s_Machine_accepts f9 _ := ⟨_, _, _, _, _, _, _, _, _, _, rfl, l9, c9⟩
  have b9 := C8.Fun.binds F9 rfl (ps := ["self", "word"]) fun _ _ _ _ _ _ us hl => match us, hl with | [_, _], _ => rfl
  have F10 : C8.Fun K "takes" "Machine.takes" s_Machine_takes f10 _ := ⟨_, _, _, _, _, _, _, _, _, _, rfl, l10, c10⟩
  have b10 := C8.Fun.binds F10 rfl (ps := ["self", "numbers"]) fun _ _ _ _ _ _ us hl => match us, hl with | [_, _], _ => rfl
  have F11 : C8.Fun K "shape" "Machine.shape" s_Machine_shape f11 _ := ⟨_, _, _, _, _, _, _, _, _, _, rfl, l11, c11⟩
  have b11 := C8.Fun.binds F11 rfl (ps := ["self"]) fun _ _ _ _ _ _ us hl => match us, hl with | [_], _ => rfl
  have D12 : C8.Def K mg "numbered" s_numbered f12 _ := ⟨⟨_, _, _, _, _, _, _, _, _, _, rfl, l12, c12⟩, PySem.W.mg_of X G a12, k12⟩
  have b12 := C8.Fun.binds D12.fn rfl (ps := ["signs"]) fun _ _ _ _ _ _ us hl => match us, hl with | [_], _ => rfl
  have D13 : C8.Def K mg "rounds" s_rounds f13 _ := ⟨⟨_, _, _, _, _, _, _, _, _, _, rfl, l13, c13⟩, PySem.W.mg_of X G a13, k13⟩
  have b13 := C8.Fun.binds D13.fn rfl (ps := ["table", "marks"]) fun _ _ _ _ _ _ us hl => match us, hl with | [_, _], _ => rfl
  have D14 : C8.Def K mg "classes" s_classes f14 _ := ⟨⟨_, _, _, _, _, _, _, _, _, _, rfl, l14, c14⟩, PySem.W.mg_of X G a14, k14⟩
  have b14 := C8.Fun.binds D14.fn rfl (ps := ["machine"]) fun _ _ _ _ _ _ us hl => match us, hl with | [_], _ => rfl
  have D15 : C8.Def K mg "with_track" s_with_track f15 _ := ⟨⟨_, _, _, _, _, _, _, _, _, _, rfl, l15, c15⟩, PySem.W.mg_of X G a15, k15⟩
  have b15 := C8.Fun.binds D15.fn rfl (ps := ["letter", "track", "value"]) fun _ _ _ _ _ _ us hl => match us, hl with | [_, _, _], _ => rfl
  have D16 : C8.Def K mg "check_track" s_check_track f16 _ := ⟨⟨_, _, _, _, _, _, _, _, _, _, rfl, l16, c16⟩, PySem.W.mg_of X G a16, k16⟩
  have b16 := C8.Fun.binds D16.fn rfl (ps := ["machine", "track"]) fun _ _ _ _ _ _ us hl => match us, hl with | [_, _], _ => rfl
  have D17 : C8.Def K mg "ranks" s_ranks f17 _ := ⟨⟨_, _, _, _, _, _, _, _, _, _, rfl, l17, c17⟩, PySem.W.mg_of X G a17, k17⟩
  have b17 := C8.Fun.binds D17.fn rfl (ps := ["machine", "track"]) fun _ _ _ _ _ _ us hl => match us, hl with | [_, _], _ => rfl
  have D18 : C8.Def K mg "reached" s_reached f18 _ := ⟨⟨_, _, _, _, _, _, _, _, _, _, rfl, l18, c18⟩, PySem.W.mg_of X G a18, k18⟩
  have b18 := C8.Fun.binds D18.fn rfl (ps := ["start", "width", "follow"]) fun _ _ _ _ _ _ us hl => match us, hl with | [_, _, _], _ => rfl
  have D19 : C8.Def K mg "least_with_map" s_least_with_map f19 _ := ⟨⟨_, _, _, _, _, _, _, _, _, _, rfl, l19, c19⟩, PySem.W.mg_of X G a19, k19⟩
  have b19 := C8.Fun.binds D19.fn rfl (ps := ["machine"]) fun _ _ _ _ _ _ us hl => match us, hl with | [_], _ => rfl
  have D20 : C8.Def K mg "least" s_least f20 _ := ⟨⟨_, _, _, _, _, _, _, _, _, _, rfl, l20, c20⟩, PySem.W.mg_of X G a20, k20⟩
  have b20 := C8.Fun.binds D20.fn rfl (ps := ["machine"]) fun _ _ _ _ _ _ us hl => match us, hl with | [_], _ => rfl
  have D21 : C8.Def K mg "same" s_same f21 _ := ⟨⟨_, _, _, _, _, _, _, _, _, _, rfl, l21, c21⟩, PySem.W.mg_of X G a21, k21⟩
  have b21 := C8.Fun.binds D21.fn rfl (ps := ["one", "two"]) fun _ _ _ _ _ _ us hl => match us, hl with | [_, _], _ => rfl
  have D22 : C8.Def K mg "joined" s_joined f22 _ := ⟨⟨_, _, _, _, _, _, _, _, _, _, rfl, l22, c22⟩, PySem.W.mg_of X G a22, k22⟩
  have b22 := C8.Fun.binds D22.fn rfl (ps := ["name", "first", "second"]) fun _ _ _ _ _ _ us hl => match us, hl with | [_, _, _], _ => rfl
  have D23 : C8.Def K mg "both_with_pairs" s_both_with_pairs f23 _ := ⟨⟨_, _, _, _, _, _, _, _, _, _, rfl, l23, c23⟩, PySem.W.mg_of X G a23, k23⟩
  have b23 := C8.Fun.binds D23.fn rfl (ps := ["one", "two", "name"]) fun _ _ _ _ _ _ us hl => match us, hl with | [_, _, _], _ => rfl
  have D24 : C8.Def K mg "both" s_both f24 _ := ⟨⟨_, _, _, _, _, _, _, _, _, _, rfl, l24, c24⟩, PySem.W.mg_of X G a24, k24⟩
  have b24 := C8.Fun.binds D24.fn rfl (ps := ["one", "two", "name"]) fun _ _ _ _ _ _ us hl => match us, hl with | [_, _, _], _ => rfl
  have D25 : C8.Def K mg "complement" s_complement f25 _ := ⟨⟨_, _, _, _, _, _, _, _, _, _, rfl, l25, c25⟩, PySem.W.mg_of X G a25, k25⟩
  have b25 := C8.Fun.binds D25.fn rfl (ps := ["machine"]) fun _ _ _ _ _ _ us hl => match us, hl with | [_], _ => rfl
  have D26 : C8.Def K mg "some_with_sets" s_some_with_sets f26 _ := ⟨⟨_, _, _, _, _, _, _, _, _, _, rfl, l26, c26⟩, PySem.W.mg_of X G a26, k26⟩
  have b26 := C8.Fun.binds D26.fn rfl (ps := ["machine", "track"]) fun _ _ _ _ _ _ us hl => match us, hl with | [_, _], _ => rfl
  have D27 : C8.Def K mg "some" s_some f27 _ := ⟨⟨_, _, _, _, _, _, _, _, _, _, rfl, l27, c27⟩, PySem.W.mg_of X G a27, k27⟩
  have b27 := C8.Fun.binds D27.fn rfl (ps := ["machine", "track"]) fun _ _ _ _ _ _ us hl => match us, hl with | [_, _], _ => rfl
  have D28 : C8.Def K mg "accepts_rest" s_accepts_rest f28 _ := ⟨⟨_, _, _, _, _, _, _, _, _, _, rfl, l28, c28⟩, PySem.W.mg_of X G a28, k28⟩
  have b28 := C8.Fun.binds D28.fn rfl (ps := ["machine", "track", "pair"]) fun _ _ _ _ _ _ us hl => match us, hl with | [_, _, _], _ => rfl
  have D29 : C8.Def K mg "fix" s_fix f29 _ := ⟨⟨_, _, _, _, _, _, _, _, _, _, rfl, l29, c29⟩, PySem.W.mg_of X G a29, k29⟩
  have b29 := C8.Fun.binds D29.fn rfl (ps := ["machine", "track", "number"]) fun _ _ _ _ _ _ us hl => match us, hl with | [_, _, _], _ => rfl
  have D30 : C8.Def K mg "spread_with_states" s_spread_with_states f30 _ := ⟨⟨_, _, _, _, _, _, _, _, _, _, rfl, l30, c30⟩, PySem.W.mg_of X G a30, k30⟩
  have b30 := C8.Fun.binds D30.fn rfl (ps := ["machine", "places", "width"]) fun _ _ _ _ _ _ us hl => match us, hl with | [_, _, _], _ => rfl
  have D31 : C8.Def K mg "spread" s_spread f31 _ := ⟨⟨_, _, _, _, _, _, _, _, _, _, rfl, l31, c31⟩, PySem.W.mg_of X G a31, k31⟩
  have b31 := C8.Fun.binds D31.fn rfl (ps := ["machine", "places", "width"]) fun _ _ _ _ _ _ us hl => match us, hl with | [_, _, _], _ => rfl
  have D32 : C8.Def K mg "_law_draw" s__law_draw f32 _ := ⟨⟨_, _, _, _, _, _, _, _, _, _, rfl, l32, c32⟩, PySem.W.mg_of X G a32, k32⟩
  have b32 := C8.Fun.binds D32.fn rfl (ps := ["state", "many"]) fun _ _ _ _ _ _ us hl => match us, hl with | [_, _], _ => rfl
  have D33 : C8.Def K mg "_law_table" s__law_table f33 _ := ⟨⟨_, _, _, _, _, _, _, _, _, _, rfl, l33, c33⟩, PySem.W.mg_of X G a33, k33⟩
  have b33 := C8.Fun.binds D33.fn rfl (ps := ["state", "width", "size"]) fun _ _ _ _ _ _ us hl => match us, hl with | [_, _, _], _ => rfl
  have D34 : C8.Def K mg "_law_marks" s__law_marks f34 _ := ⟨⟨_, _, _, _, _, _, _, _, _, _, rfl, l34, c34⟩, PySem.W.mg_of X G a34, k34⟩
  have b34 := C8.Fun.binds D34.fn rfl (ps := ["state", "table"]) fun _ _ _ _ _ _ us hl => match us, hl with | [_, _], _ => rfl
  have D35 : C8.Def K mg "_law_parts" s__law_parts f35 _ := ⟨⟨_, _, _, _, _, _, _, _, _, _, rfl, l35, c35⟩, PySem.W.mg_of X G a35, k35⟩
  have b35 := C8.Fun.binds D35.fn rfl (ps := ["state", "width", "most"]) fun _ _ _ _ _ _ us hl => match us, hl with | [_, _, _], _ => rfl
  have D36 : C8.Def K mg "_law_orders" s__law_orders f36 _ := ⟨⟨_, _, _, _, _, _, _, _, _, _, rfl, l36, c36⟩, PySem.W.mg_of X G a36, k36⟩
  have b36 := C8.Fun.binds D36.fn rfl (ps := ["machine", "first", "second", "number"]) fun _ _ _ _ _ _ us hl => match us, hl with | [_, _, _, _], _ => rfl
  have D37 : C8.Def K mg "law" s_law fa _ := ⟨⟨_, _, _, _, _, _, _, _, _, _, rfl, l37, c37⟩, PySem.W.mg_of X G a37, k37⟩
  have c_CM : Cls K CM := ⟨pg_Machine, hd_Machine, po_Machine, sa_Machine⟩
  have nCM_width : NoAttr K CM "width" := no0_Machine
  have nCM_table : NoAttr K CM "table" := no1_Machine
  have nCM_accepting : NoAttr K CM "accepting" := no2_Machine
  have z_len := PySem.W.mg_none_of X G zz_len
  have z_abs := PySem.W.mg_none_of X G zz_abs
  have z_int := PySem.W.mg_none_of X G zz_int
  have z_list := PySem.W.mg_none_of X G zz_list
  have z_range := PySem.W.mg_none_of X G zz_range
  have z_isinstance := PySem.W.mg_none_of X G zz_isinstance
  have z_bool := PySem.W.mg_none_of X G zz_bool
  have z_min := PySem.W.mg_none_of X G zz_min
  have z_max := PySem.W.mg_none_of X G zz_max
  have z_sum := PySem.W.mg_none_of X G zz_sum
  have z_enumerate := PySem.W.mg_none_of X G zz_enumerate
  have z_all := PySem.W.mg_none_of X G zz_all
  have z_any := PySem.W.mg_none_of X G zz_any
  have z_tuple := PySem.W.mg_none_of X G zz_tuple
  have z_sorted := PySem.W.mg_none_of X G zz_sorted
  have g_STATES : ∃ u, mg "STATES" = some u ∧ RelV (.int 400) u := ⟨_, PySem.W.mg_of X G gg_STATES, _, rfl⟩
  have g_TRACKS : ∃ u, mg "TRACKS" = some u ∧ RelV (.int 6) u := ⟨_, PySem.W.mg_of X G gg_TRACKS, _, rfl⟩
  have g_NUMBER_DIGITS : ∃ u, mg "NUMBER_DIGITS" = some u ∧ RelV (.int 64) u := ⟨_, PySem.W.mg_of X G gg_NUMBER_DIGITS, _, rfl⟩
  have T_Misused : OexC K CMis := ⟨⟨_, _, _, _, _, _, _, _, _, _, _, _, _, _, _, xc_Misused, xr_Misused⟩, xs_Misused, xe_Misused, xy_Misused, xk_Misused⟩
  have F_Misused : C8.Fun K "__init__" "Misused.__init__" si_Misused fI_Misused _ := ⟨_, _, _, _, _, _, _, _, _, _, rfl, xl_Misused, xq_Misused⟩
  have bb_Misused := C8.Fun.binds F_Misused rfl (ps := ["self", "why"]) fun _ _ _ _ _ _ us hl => match us, hl with | [_, _], _ => rfl
  have T_Oversized : OexC K COv := ⟨⟨_, _, _, _, _, _, _, _, _, _, _, _, _, _, _, xc_Oversized, xr_Oversized⟩, xs_Oversized, xe_Oversized, xy_Oversized, xk_Oversized⟩
  have F_Oversized : C8.Fun K "__init__" "Oversized.__init__" si_Oversized fI_Oversized _ := ⟨_, _, _, _, _, _, _, _, _, _, rfl, xl_Oversized, xq_Oversized⟩
  have bb_Oversized := C8.Fun.binds F_Oversized rfl (ps := ["self", "limit"]) fun _ _ _ _ _ _ us hl => match us, hl with | [_, _], _ => rfl
  refine ⟨PySem.W.fnOf "law" "law" (C8.fnArgs s_law) (C8.fnBody s_law) (C8.fnScope s_law) .none kV37 dc37 pm37 an37 cd37 ct37, [(cBX, PtX), (cBS, PtS), (cBW, PtW), (cBP, PtP), (cBC, PtC)], spLaw K [(PtX, nmX), (PtS, nmS), (PtW, nmW), (PtP, nmF), (PtC, nmC)], (by intro p hp; simp only [List.mem_cons, List.not_mem_nil, or_false] at hp; rcases hp with rfl | rfl | rfl | rfl | rfl <;> first | exact hTb_fix | exact hTb_spread_with_states | exact hTb_some_with_sets | exact hTb_both_with_pairs | exact hTb_least_with_map), (by intro p hp; simp only [List.mem_cons, List.not_mem_nil, or_false] at hp; rcases hp with rfl | rfl | rfl | rfl | rfl <;> first | exact nTb_fix | exact nTb_spread_with_states | exact nTb_some_with_sets | exact nTb_both_with_pairs | exact nTb_least_with_map), (by intro p hp; simp only [List.mem_cons, List.not_mem_nil, or_false] at hp; rcases hp with rfl | rfl | rfl | rfl | rfl <;> first | exact PySem.W.codeHd_of_K X hh_fix | exact PySem.W.codeHd_of_K X hh_spread_with_states | exact PySem.W.codeHd_of_K X hh_some_with_sets | exact PySem.W.codeHd_of_K X hh_both_with_pairs | exact PySem.W.codeHd_of_K X hh_least_with_map), fun s v => .of_eq rfl, fun H a ns hl _ hT hS => ⟨a, ns, rfl, hS, hl, (fun p hp => by simp only [List.mem_cons, List.not_mem_nil, or_false] at hp; rcases hp with rfl | rfl | rfl | rfl | rfl <;> first | exact NdefX.TabN.nil (hT _ List.mem_cons_self) | exact NdefX.TabN.nil (hT _ (List.mem_cons_of_mem _ List.mem_cons_self)) | exact NdefX.TabN.nil (hT _ (List.mem_cons_of_mem _ (List.mem_cons_of_mem _ List.mem_cons_self))) | exact NdefX.TabN.nil (hT _ (List.mem_cons_of_mem _ (List.mem_cons_of_mem _ (List.mem_cons_of_mem _ List.mem_cons_self)))) | exact NdefX.TabN.nil (hT _ (List.mem_cons_of_mem _ (List.mem_cons_of_mem _ (List.mem_cons_of_mem _ (List.mem_cons_of_mem _ List.mem_cons_self)))))), fun _ => rfl⟩, fun base _ _ hTB => ?_⟩
  have TB_fix : LamX.TabB base mg cBX PtX := hTB _ List.mem_cons_self
  have TB_spread_with_states : LamX.TabB base mg cBS PtS := hTB _ (List.mem_cons_of_mem _ List.mem_cons_self)
  have TB_some_with_sets : LamX.TabB base mg cBW PtW := hTB _ (List.mem_cons_of_mem _ (List.mem_cons_of_mem _ List.mem_cons_self))
  have TB_both_with_pairs : LamX.TabB base mg cBP PtP := hTB _ (List.mem_cons_of_mem _ (List.mem_cons_of_mem _ (List.mem_cons_of_mem _ List.mem_cons_self)))
  have TB_least_with_map : LamX.TabB base mg cBC PtC := hTB _ (List.mem_cons_of_mem _ (List.mem_cons_of_mem _ (List.mem_cons_of_mem _ (List.mem_cons_of_mem _ List.mem_cons_self))))
  have x_Misused : ExF l.prog w K mg base "Misused" CMis "why" := ⟨T_Misused, PySem.W.mg_of X G xa_Misused, ⟨xg_Misused, xh_Misused, xe_Misused, xd_Misused⟩, xn_Misused, _, _, xi_Misused, xt_Misused, f_ini_Misused T_Misused xn_Misused F_Misused, bb_Misused⟩
  have x_Oversized : ExF l.prog w K mg base "Oversized" COv "limit" := ⟨T_Oversized, PySem.W.mg_of X G xa_Oversized, ⟨xg_Oversized, xh_Oversized, xe_Oversized, xd_Oversized⟩, xn_Oversized, _, _, xi_Oversized, xt_Oversized, f_ini_Oversized T_Oversized xn_Oversized F_Oversized, bb_Oversized⟩
  have g_JOINTS : ∃ u, mg "JOINTS" = some u ∧ RelV (.ref aJ) u := ⟨_, PySem.W.mg_of X G gJ, rfl⟩
  have kand : KAt K w aJ "and" true := ⟨esJ, nJ, _, jl, jk, jlow, j_and, rfl⟩
  have kor : KAt K w aJ "or" true := ⟨esJ, nJ, _, jl, jk, jlow, j_or, rfl⟩
  have kimp : KAt K w aJ "imp" true := ⟨esJ, nJ, _, jl, jk, jlow, j_imp, rfl⟩
  have kiff : KAt K w aJ "iff" true := ⟨esJ, nJ, _, jl, jk, jlow, j_iff, rfl⟩
  have hmem_fix : (PtX, nmX) ∈ [(PtX, nmX), (PtS, nmS), (PtW, nmW), (PtP, nmF), (PtC, nmC)] := List.mem_cons_self
  have hmem_sws : (PtS, nmS) ∈ [(PtX, nmX), (PtS, nmS), (PtW, nmW), (PtP, nmF), (PtC, nmC)] := (List.mem_cons_of_mem _ List.mem_cons_self)
  have hmem_some : (PtW, nmW) ∈ [(PtX, nmX), (PtS, nmS), (PtW, nmW), (PtP, nmF), (PtC, nmC)] := (List.mem_cons_of_mem _ (List.mem_cons_of_mem _ List.mem_cons_self))
  have hmem_bwp : (PtP, nmF) ∈ [(PtX, nmX), (PtS, nmS), (PtW, nmW), (PtP, nmF), (PtC, nmC)] := (List.mem_cons_of_mem _ (List.mem_cons_of_mem _ (List.mem_cons_of_mem _ List.mem_cons_self)))
  have hmem_lwm : (PtC, nmC) ∈ [(PtX, nmX), (PtS, nmS), (PtW, nmW), (PtP, nmF), (PtC, nmC)] := (List.mem_cons_of_mem _ (List.mem_cons_of_mem _ (List.mem_cons_of_mem _ (List.mem_cons_of_mem _ List.mem_cons_self))))
  have huni_fix : ∀ p ∈ [(PtX, nmX), (PtS, nmS), (PtW, nmW), (PtP, nmF), (PtC, nmC)], p.1 = PtX → p.2 = nmX := fun p hp q => by
    simp only [List.mem_cons, List.not_mem_nil, or_false] at hp
    rcases hp with e | e | e | e | e
    · rw [e]
    · rw [e] at q
      exact absurd q.symm ne_PtX_PtS
    · rw [e] at q
      exact absurd q.symm ne_PtX_PtW
    · rw [e] at q
      exact absurd q.symm ne_PtX_PtP
    · rw [e] at q
      exact absurd q.symm ne_PtX_PtC
  have huni_sws : ∀ p ∈ [(PtX, nmX), (PtS, nmS), (PtW, nmW), (PtP, nmF), (PtC, nmC)], p.1 = PtS → p.2 = nmS := fun p hp q => by
    simp only [List.mem_cons, List.not_mem_nil, or_false] at hp
    rcases hp with e | e | e | e | e
    · rw [e] at q
      exact absurd q ne_PtX_PtS
    · rw [e]
    · rw [e] at q
      exact absurd q.symm ne_PtS_PtW
    · rw [e] at q
      exact absurd q.symm ne_PtS_PtP
    · rw [e] at q
      exact absurd q.symm ne_PtS_PtC
  have huni_some : ∀ p ∈ [(PtX, nmX), (PtS, nmS), (PtW, nmW), (PtP, nmF), (PtC, nmC)], p.1 = PtW → p.2 = nmW := fun p hp q => by
    simp only [List.mem_cons, List.not_mem_nil, or_false] at hp
    rcases hp with e | e | e | e | e
    · rw [e] at q
      exact absurd q ne_PtX_PtW
    · rw [e] at q
      exact absurd q ne_PtS_PtW
    · rw [e]
    · rw [e] at q
      exact absurd q.symm ne_PtW_PtP
    · rw [e] at q
      exact absurd q.symm ne_PtW_PtC
  have huni_bwp : ∀ p ∈ [(PtX, nmX), (PtS, nmS), (PtW, nmW), (PtP, nmF), (PtC, nmC)], p.1 = PtP → p.2 = nmF := fun p hp q => by
    simp only [List.mem_cons, List.not_mem_nil, or_false] at hp
    rcases hp with e | e | e | e | e
    · rw [e] at q
      exact absurd q ne_PtX_PtP
    · rw [e] at q
      exact absurd q ne_PtS_PtP
    · rw [e] at q
      exact absurd q ne_PtW_PtP
    · rw [e]
    · rw [e] at q
      exact absurd q.symm ne_PtP_PtC
  have huni_lwm : ∀ p ∈ [(PtX, nmX), (PtS, nmS), (PtW, nmW), (PtP, nmF), (PtC, nmC)], p.1 = PtC → p.2 = nmC := fun p hp q => by
    simp only [List.mem_cons, List.not_mem_nil, or_false] at hp
    rcases hp with e | e | e | e | e
    · rw [e] at q
      exact absurd q ne_PtX_PtC
    · rw [e] at q
      exact absurd q ne_PtS_PtC
    · rw [e] at q
      exact absurd q ne_PtW_PtC
    · rw [e] at q
      exact absurd q ne_PtP_PtC
    · rw [e]
  have c_is_state := c_is_state (P := l.prog) (w := w) (base := base) D0 b0 z_isinstance z_int z_bool
  have c_is_table := c_is_table (P := l.prog) (w := w) (base := base) D1 b1 c_is_state z_len z_all
  have c_letters := c_letters (P := l.prog) (w := w) (base := base) D2 b2 
  have c_check_width := c_check_width (P := l.prog) (w := w) (base := base) D3 b3 g_TRACKS
  have cx_check_width := cx_check_width (P := l.prog) (w := w) (base := base) D3 b3 x_Misused g_TRACKS
  have k_Machine := k_Machine (P := l.prog) (w := w) (base := base) (mg := mg) ⟨mk_Machine, a4, i4, kc_Machine⟩ (PySem.W.mg_of X G aC_Machine) c_CM F4 b4 nCM_width nCM_table nCM_accepting c_check_width c_is_table c_letters z_len z_enumerate z_list g_STATES
  have c_digit := c_digit (P := l.prog) (w := w) (base := base) D5 b5 
  have c_letter_of := c_letter_of (P := l.prog) (w := w) (base := base) D6 b6 z_sum z_enumerate
  have c_word_of := c_word_of (P := l.prog) (w := w) (base := base) D7 b7 c_digit c_letter_of z_max z_range
  have m_Machine_behind := m_Machine_behind (P := l.prog) (w := w) (base := base) (mg := mg) c_CM ⟨a8, i8, k8⟩ F8 b8 nCM_width nCM_table nCM_accepting
  have m_Machine_accepts := m_Machine_accepts (P := l.prog) (w := w) (base := base) (mg := mg) c_CM ⟨a9, i9, k9⟩ F9 b9 nCM_width nCM_table nCM_accepting m_Machine_behind
  have m_Machine_takes := m_Machine_takes (P := l.prog) (w := w) (base := base) (mg := mg) c_CM ⟨a10, i10, k10⟩ F10 b10 nCM_width nCM_table nCM_accepting m_Machine_accepts c_word_of z_len
  have m_Machine_shape := m_Machine_shape (P := l.prog) (w := w) (base := base) (mg := mg) c_CM ⟨a11, i11, k11⟩ F11 b11 nCM_width nCM_table nCM_accepting z_tuple
  have c_numbered := c_numbered (P := l.prog) (w := w) (base := base) D12 b12 z_len
  have c_rounds := c_rounds (P := l.prog) (w := w) (base := base) D13 b13 c_numbered z_enumerate
  have c_classes := c_classes (P := l.prog) (w := w) (base := base) D14 b14 c_CM nCM_width nCM_table nCM_accepting c_rounds
  have c_with_track := c_with_track (P := l.prog) (w := w) (base := base) D15 b15 
  have c_check_track := c_check_track (P := l.prog) (w := w) (base := base) D16 b16 c_CM nCM_width x_Misused
  have c_ranks := c_ranks (P := l.prog) (w := w) (base := base) D17 b17 c_CM nCM_width nCM_table nCM_accepting c_check_track c_with_track z_enumerate
  have cC_reached : ∀ (cl : List (Str × Addr)) (ws : List (Option V)) (T : List (List Int)) (C : List Nat) (q : Str), CalG l.prog w K mg base 3 "reached" (CbG cl ["found", "machine", "members"] ws) (sp_reachedI COv (NdefX.NF.of s_least_with_map_follow "follow" q cl) (gC T C) (sp_followC CM ws)) := fun cl ws T C q => c_reached (P := l.prog) (w := w) (base := base) (mk := NdefX.NF.of s_least_with_map_follow "follow" q cl) (cl := cl) (ws := ws) (gF := gC T C) (spF := sp_followC CM) D18 b18 (fun _ => rfl) (fun f c => n_least_with_map_follow c_CM nCM_width nCM_table nCM_accepting f) x_Oversized c_letters g_STATES z_len z_range
  have cS_reached : ∀ (cl : List (Str × Addr)) (ws : List (Option V)) (T : List (List Int)) (olds : List Nat) (q : Str), CalG l.prog w K mg base 3 "reached" (CbG cl ["machine", "old_letters"] ws) (sp_reachedI COv (NdefX.NF.of s_spread_with_states_follow "follow" q cl) (gS T olds) (sp_followS CM ws)) := fun cl ws T olds q => c_reached (P := l.prog) (w := w) (base := base) (mk := NdefX.NF.of s_spread_with_states_follow "follow" q cl) (cl := cl) (ws := ws) (gF := gS T olds) (spF := sp_followS CM) D18 b18 (fun _ => rfl) (fun f c => n_spread_with_states_follow c_CM nCM_width nCM_table nCM_accepting f) x_Oversized c_letters g_STATES z_len z_range
  have cP_reached : ∀ (cl : List (Str × Addr)) (ws : List (Option V)) (T1 T2 : List (List Int)) (q : Str), CalG l.prog w K mg base 3 "reached" (CbG cl ["one", "two"] ws) (sp_reached (NdefX.NF.of s_both_with_pairs_follow "follow" q cl) (gP T1 T2) (sp_follow CM ws)) := fun cl ws T1 T2 q => c_reachedP (P := l.prog) (w := w) (base := base) (mk := NdefX.NF.of s_both_with_pairs_follow "follow" q cl) (cl := cl) (ws := ws) (gF := gP T1 T2) (spF := sp_follow CM) D18 b18 (fun _ => rfl) (fun f c => n_both_with_pairs_follow c_CM nCM_width nCM_table nCM_accepting f) x_Oversized c_letters g_STATES z_len z_range
  have cW_reached : ∀ (cl : List (Str × Addr)) (ws : List (Option V)) (T : List (List Int)) (tn : Nat) (q : Str), CalG l.prog w K mg base 3 "reached" (CbG cl ["machine", "track"] ws) (sp_reachedT COv (NdefX.NF.of s_some_with_sets_follow "follow" q cl) (gW T tn) (sp_followW CM ws)) := fun cl ws T tn q => cT_reached (P := l.prog) (w := w) (base := base) (mk := NdefX.NF.of s_some_with_sets_follow "follow" q cl) (cl := cl) (ws := ws) (gF := gW T tn) (spF := sp_followW CM) D18 b18 (fun _ => rfl) (fun f c => n_some_with_sets_follow c_CM nCM_width nCM_table nCM_accepting c_with_track z_tuple z_sorted f) x_Oversized c_letters g_STATES z_len z_range
  have cT_reached : ∀ (cl : List (Str × Addr)) (ws : List (Option V)) (T : List (List Int)) (tn : Nat) (q : Str), CalG l.prog w K mg base 3 "reached" (CbG cl ["machine", "track"] ws) (sp_reachedT COv (NdefX.NF.of s_fix_follow "follow" q cl) (gF T tn) (sp_followF CM ws)) := fun cl ws T tn q => cT_reached (P := l.prog) (w := w) (base := base) (mk := NdefX.NF.of s_fix_follow "follow" q cl) (cl := cl) (ws := ws) (gF := gF T tn) (spF := sp_followF CM) D18 b18 (fun _ => rfl) (fun f c => n_fix_follow c_CM nCM_width nCM_table nCM_accepting c_with_track f) x_Oversized c_letters g_STATES z_len z_range
  have c_least_with_map := c_least_with_map (P := l.prog) (w := w) (base := base) l19 c19 (PySem.W.mg_of X G a19) k19 b19 TB_least_with_map hmem_lwm huni_lwm c_CM nCM_width nCM_table nCM_accepting c_classes z_enumerate k_Machine cC_reached
  have c_least := c_least (P := l.prog) (w := w) (base := base) D20 b20 c_least_with_map
  have c_same := c_same (P := l.prog) (w := w) (base := base) D21 b21 c_CM c_least m_Machine_shape
  have c_joined := c_joined (P := l.prog) (w := w) (base := base) D22 b22 
  have c_both_with_pairs := c_both_with_pairs (P := l.prog) (w := w) (base := base) l23 c23 (PySem.W.mg_of X G a23) k23 b23 TB_both_with_pairs hmem_bwp huni_bwp c_CM nCM_width nCM_table nCM_accepting x_Misused g_JOINTS c_joined k_Machine cP_reached
  have c_both := c_both (P := l.prog) (w := w) (base := base) D24 b24 c_both_with_pairs
  have c_complement := c_complement (P := l.prog) (w := w) (base := base) D25 b25 c_CM nCM_width nCM_table nCM_accepting k_Machine
  have c_some_with_sets := c_some_with_sets (P := l.prog) (w := w) (base := base) l26 c26 (PySem.W.mg_of X G a26) k26 b26 TB_some_with_sets hmem_some huni_some c_CM nCM_width nCM_table nCM_accepting x_Oversized c_ranks z_any k_Machine cW_reached
  have c_some := c_some (P := l.prog) (w := w) (base := base) D27 b27 c_some_with_sets
  have c_accepts_rest := c_accepts_rest (P := l.prog) (w := w) (base := base) D28 b28 c_CM nCM_width nCM_table nCM_accepting c_with_track
  have c_fix := c_fix (P := l.prog) (w := w) (base := base) l29 c29 (PySem.W.mg_of X G a29) k29 b29 TB_fix hmem_fix huni_fix c_CM nCM_width nCM_table nCM_accepting x_Oversized c_check_track g_NUMBER_DIGITS c_accepts_rest k_Machine cT_reached
  have c_spread_with_states := c_spread_with_states (P := l.prog) (w := w) (base := base) l30 c30 (PySem.W.mg_of X G a30) k30 b30 TB_spread_with_states hmem_sws huni_sws c_CM nCM_width nCM_table nCM_accepting x_Misused cx_check_width c_letter_of c_digit c_letters z_len z_all z_range k_Machine cS_reached
  have c_spread := c_spread (P := l.prog) (w := w) (base := base) D31 b31 c_spread_with_states
  have c__law_draw := c__law_draw (P := l.prog) (w := w) (base := base) D32 b32 z_len z_int z_abs
  have c__law_table := c__law_table (P := l.prog) (w := w) (base := base) D33 b33 c__law_draw z_range
  have c__law_marks := c__law_marks (P := l.prog) (w := w) (base := base) D34 b34 c__law_draw z_range z_list z_len z_min
  have c__law_parts := c__law_parts (P := l.prog) (w := w) (base := base) D35 b35 c__law_draw c__law_table c__law_marks
  have c__law_orders := c__law_orders (P := l.prog) (w := w) (base := base) D36 b36 c_same c_some c_fix z_min z_max
  exact f_law D37 c__law_draw c__law_parts c_CM nCM_width nCM_table nCM_accepting k_Machine m_Machine_takes m_Machine_shape c_least c_same c_both c_complement c_some c_fix c_spread c__law_orders kand kor kimp kiff z_int z_range
end K19
open PySem PySem.W PyProof.Rows
set_option maxRecDepth 100000 in
set_option maxHeartbeats 0 in
theorem PySem.Challenge.cw_digitwise_k19_whole_ways_agree_holds : PySem.Challenge.rw_digitwise_k19_whole_ways_agree.Holds := by
  w_on; o_law; k_head; (case hw => w_witness2)
  k_fill
  refine LamX.walk_ofTs (l := PySem.Challenge.rw_digitwise_k19_whole_ways_agree) (n := 63) (k := 10) (x := "script") (CX := fun _ => C8.CX0) rfl (by decide) rfl ⟨rfl, by decide, by decide⟩ (fun w h Y => PySem.W.km_in_of Y) ?F (fun _ _ _ _ _ h => h)
  case F =>
    intro w mg fa h Y KX G hmg
    refine' K19.all_mk KX G hmg ?aC_Machine ?pg_Machine ?hd_Machine ?po_Machine ?sa_Machine ?mk_Machine ?kc_Machine ?no0_Machine ?no1_Machine ?no2_Machine ?a0 ?l0 ?c0 ?k0 ?a1 ?l1 ?c1 ?k1 ?a2 ?l2 ?c2 ?k2 ?a3 ?l3 ?c3 ?k3 ?a4 ?i4 ?l4 ?c4 ?k4 ?a5 ?l5 ?c5 ?k5 ?a6 ?l6 ?c6 ?k6 ?a7 ?l7 ?c7 ?k7 ?a8 ?i8 ?l8 ?c8 ?k8 ?a9 ?i9 ?l9 ?c9 ?k9 ?a10 ?i10 ?l10 ?c10 ?k10 ?a11 ?i11 ?l11 ?c11 ?k11 ?a12 ?l12 ?c12 ?k12 ?a13 ?l13 ?c13 ?k13 ?a14 ?l14 ?c14 ?k14 ?a15 ?l15 ?c15 ?k15 ?a16 ?l16 ?c16 ?k16 ?a17 ?l17 ?c17 ?k17 ?a18 ?l18 ?c18 ?k18 ?a19 ?l19 ?c19 ?k19 ?a20 ?l20 ?c20 ?k20 ?a21 ?l21 ?c21 ?k21 ?a22 ?l22 ?c22 ?k22 ?a23 ?l23 ?c23 ?k23 ?a24 ?l24 ?c24 ?k24 ?a25 ?l25 ?c25 ?k25 ?a26 ?l26 ?c26 ?k26 ?a27 ?l27 ?c27 ?k27 ?a28 ?l28 ?c28 ?k28 ?a29 ?l29 ?c29 ?k29 ?a30 ?l30 ?c30 ?k30 ?a31 ?l31 ?c31 ?k31 ?a32 ?l32 ?c32 ?k32 ?a33 ?l33 ?c33 ?k33 ?a34 ?l34 ?c34 ?k34 ?a35 ?l35 ?c35 ?k35 ?a36 ?l36 ?c36 ?k36 ?a37 ?l37 ?c37 ?k37 ?zz_len ?zz_abs ?zz_int ?zz_list ?zz_range ?zz_isinstance ?zz_bool ?zz_min ?zz_max ?zz_sum ?zz_enumerate ?zz_all ?zz_any ?zz_tuple ?zz_sorted ?gg_STATES ?gg_TRACKS ?gg_NUMBER_DIGITS ?xa_Misused ?xc_Misused ?xr_Misused ?xs_Misused ?xg_Misused ?xh_Misused ?xn_Misused ?xi_Misused ?xt_Misused ?xl_Misused ?xq_Misused ?xk_Misused ?xe_Misused ?xy_Misused ?xd_Misused ?xz_Misused ?xa_Oversized ?xc_Oversized ?xr_Oversized ?xs_Oversized ?xg_Oversized ?xh_Oversized ?xn_Oversized ?xi_Oversized ?xt_Oversized ?xl_Oversized ?xq_Oversized ?xk_Oversized ?xe_Oversized ?xy_Oversized ?xd_Oversized ?xz_Oversized ?gJ ?jl ?jk ?jlow ?j_and ?j_or ?j_imp ?j_iff ?hh_fix ?hTb_fix ?nTb_fix ?hh_spread_with_states ?hTb_spread_with_states ?nTb_spread_with_states ?hh_some_with_sets ?hTb_some_with_sets ?nTb_some_with_sets ?hh_both_with_pairs ?hTb_both_with_pairs ?nTb_both_with_pairs ?hh_least_with_map ?hTb_least_with_map ?nTb_least_with_map ?ne_PtX_PtS ?ne_PtX_PtW ?ne_PtX_PtP ?ne_PtX_PtC ?ne_PtS_PtW ?ne_PtS_PtP ?ne_PtS_PtC ?ne_PtW_PtP ?ne_PtW_PtC ?ne_PtP_PtC
    (case aC_Machine => k_is)
    (case pg_Machine => k_is)
    (case hd_Machine => k_is)
    (case po_Machine => k_is)
    (case sa_Machine => k_is)
    (case mk_Machine => k_is)
    (case kc_Machine => k_is)
    (case no0_Machine => k_is)
    (case no1_Machine => k_is)
    (case no2_Machine => k_is)
    (case a0 => k_is)
    (case l0 => k_is)
    (case c0 => k_is)
    (case k0 => k_is)
    (case a1 => k_is)
    (case l1 => k_is)
    (case c1 => k_is)
    (case k1 => k_is)
    (case a2 => k_is)
    (case l2 => k_is)
    (case c2 => k_is)
    (case k2 => k_is)
    (case a3 => k_is)
    (case l3 => k_is)
    (case c3 => k_is)
    (case k3 => k_is)
    (case a4 => k_is)
    (case i4 => k_is)
    (case l4 => k_is)
    (case c4 => k_is)
    (case k4 => k_is)
    (case a5 => k_is)
    (case l5 => k_is)
    (case c5 => k_is)
    (case k5 => k_is)
    (case a6 => k_is)
    (case l6 => k_is)
    (case c6 => k_is)
    (case k6 => k_is)
    (case a7 => k_is)
    (case l7 => k_is)
    (case c7 => k_is)
    (case k7 => k_is)
    (case a8 => k_is)
    (case i8 => k_is)
    (case l8 => k_is)
    (case c8 => k_is)
    (case k8 => k_is)
    (case a9 => k_is)
    (case i9 => k_is)
    (case l9 => k_is)
    (case c9 => k_is)
    (case k9 => k_is)
    (case a10 => k_is)
    (case i10 => k_is)
    (case l10 => k_is)
    (case c10 => k_is)
    (case k10 => k_is)
    (case a11 => k_is)
    (case i11 => k_is)
    (case l11 => k_is)
    (case c11 => k_is)
    (case k11 => k_is)
    (case a12 => k_is)
    (case l12 => k_is)
    (case c12 => k_is)
    (case k12 => k_is)
    (case a13 => k_is)
    (case l13 => k_is)
    (case c13 => k_is)
    (case k13 => k_is)
    (case a14 => k_is)
    (case l14 => k_is)
    (case c14 => k_is)
    (case k14 => k_is)
    (case a15 => k_is)
    (case l15 => k_is)
    (case c15 => k_is)
    (case k15 => k_is)
    (case a16 => k_is)
    (case l16 => k_is)
    (case c16 => k_is)
    (case k16 => k_is)
    (case a17 => k_is)
    (case l17 => k_is)
    (case c17 => k_is)
    (case k17 => k_is)
    (case a18 => k_is)
    (case l18 => k_is)
    (case c18 => k_is)
    (case k18 => k_is)
    (case a19 => k_is)
    (case l19 => k_is)
    (case c19 => k_is)
    (case k19 => k_is)
    (case a20 => k_is)
    (case l20 => k_is)
    (case c20 => k_is)
    (case k20 => k_is)
    (case a21 => k_is)
    (case l21 => k_is)
    (case c21 => k_is)
    (case k21 => k_is)
    (case a22 => k_is)
    (case l22 => k_is)
    (case c22 => k_is)
    (case k22 => k_is)
    (case a23 => k_is)
    (case l23 => k_is)
    (case c23 => k_is)
    (case k23 => k_is)
    (case a24 => k_is)
    (case l24 => k_is)
    (case c24 => k_is)
    (case k24 => k_is)
    (case a25 => k_is)
    (case l25 => k_is)
    (case c25 => k_is)
    (case k25 => k_is)
    (case a26 => k_is)
    (case l26 => k_is)
    (case c26 => k_is)
    (case k26 => k_is)
    (case a27 => k_is)
    (case l27 => k_is)
    (case c27 => k_is)
    (case k27 => k_is)
    (case a28 => k_is)
    (case l28 => k_is)
    (case c28 => k_is)
    (case k28 => k_is)
    (case a29 => k_is)
    (case l29 => k_is)
    (case c29 => k_is)
    (case k29 => k_is)
    (case a30 => k_is)
    (case l30 => k_is)
    (case c30 => k_is)
    (case k30 => k_is)
    (case a31 => k_is)
    (case l31 => k_is)
    (case c31 => k_is)
    (case k31 => k_is)
    (case a32 => k_is)
    (case l32 => k_is)
    (case c32 => k_is)
    (case k32 => k_is)
    (case a33 => k_is)
    (case l33 => k_is)
    (case c33 => k_is)
    (case k33 => k_is)
    (case a34 => k_is)
    (case l34 => k_is)
    (case c34 => k_is)
    (case k34 => k_is)
    (case a35 => k_is)
    (case l35 => k_is)
    (case c35 => k_is)
    (case k35 => k_is)
    (case a36 => k_is)
    (case l36 => k_is)
    (case c36 => k_is)
    (case k36 => k_is)
    (case a37 => k_is)
    (case l37 => k_is)
    (case c37 => k_is)
    (case k37 => k_is)
    (case zz_len => k_is)
    (case zz_abs => k_is)
    (case zz_int => k_is)
    (case zz_list => k_is)
    (case zz_range => k_is)
    (case zz_isinstance => k_is)
    (case zz_bool => k_is)
    (case zz_min => k_is)
    (case zz_max => k_is)
    (case zz_sum => k_is)
    (case zz_enumerate => k_is)
    (case zz_all => k_is)
    (case zz_any => k_is)
    (case zz_tuple => k_is)
    (case zz_sorted => k_is)
    (case gg_STATES => k_is)
    (case gg_TRACKS => k_is)
    (case gg_NUMBER_DIGITS => k_is)
    (case xa_Misused => k_is)
    (case xc_Misused => k_is)
    (case xr_Misused => decide +kernel)
    (case xs_Misused => k_is)
    (case xg_Misused => k_is)
    (case xh_Misused => k_is)
    (case xn_Misused => k_is)
    (case xi_Misused => k_is)
    (case xt_Misused => k_is)
    (case xl_Misused => k_is)
    (case xq_Misused => k_is)
    (case xk_Misused => k_is)
    (case xe_Misused => k_is)
    (case xy_Misused => k_is)
    (case xd_Misused => k_is)
    (case xz_Misused => k_is)
    (case xa_Oversized => k_is)
    (case xc_Oversized => k_is)
    (case xr_Oversized => decide +kernel)
    (case xs_Oversized => k_is)
    (case xg_Oversized => k_is)
    (case xh_Oversized => k_is)
    (case xn_Oversized => k_is)
    (case xi_Oversized => k_is)
    (case xt_Oversized => k_is)
    (case xl_Oversized => k_is)
    (case xq_Oversized => k_is)
    (case xk_Oversized => k_is)
    (case xe_Oversized => k_is)
    (case xy_Oversized => k_is)
    (case xd_Oversized => k_is)
    (case xz_Oversized => k_is)
    (case gJ => k_is)
    (case jl => k_is)
    (case jk => exact ⟨⟨_, _, rfl, rfl⟩, ⟨_, _, rfl, rfl⟩, ⟨_, _, rfl, rfl⟩, ⟨_, _, rfl, rfl⟩, True.intro⟩)
    (case jlow => decide +kernel)
    (case j_and => k_is)
    (case j_or => k_is)
    (case j_imp => k_is)
    (case j_iff => k_is)
    (case hTb_fix => exact PySem.W.km_tabs_of Y _ List.mem_cons_self)
    (case hh_fix => first | rfl | kernel_rfl)
    (case nTb_fix => first | rfl | kernel_rfl)
    (case hTb_spread_with_states => exact PySem.W.km_tabs_of Y _ (List.mem_cons_of_mem _ List.mem_cons_self))
    (case hh_spread_with_states => first | rfl | kernel_rfl)
    (case nTb_spread_with_states => first | rfl | kernel_rfl)
    (case hTb_some_with_sets => exact PySem.W.km_tabs_of Y _ (List.mem_cons_of_mem _ (List.mem_cons_of_mem _ List.mem_cons_self)))
    (case hh_some_with_sets => first | rfl | kernel_rfl)
    (case nTb_some_with_sets => first | rfl | kernel_rfl)
    (case hTb_both_with_pairs => exact PySem.W.km_tabs_of Y _ (List.mem_cons_of_mem _ (List.mem_cons_of_mem _ (List.mem_cons_of_mem _ List.mem_cons_self))))
    (case hh_both_with_pairs => first | rfl | kernel_rfl)
    (case nTb_both_with_pairs => first | rfl | kernel_rfl)
    (case hTb_least_with_map => exact PySem.W.km_tabs_of Y _ (List.mem_cons_of_mem _ (List.mem_cons_of_mem _ (List.mem_cons_of_mem _ (List.mem_cons_of_mem _ List.mem_cons_self)))))
    (case hh_least_with_map => first | rfl | kernel_rfl)
    (case nTb_least_with_map => first | rfl | kernel_rfl)
    (case ne_PtX_PtS => decide)
    (case ne_PtX_PtW => decide)
    (case ne_PtX_PtP => decide)
    (case ne_PtX_PtC => decide)
    (case ne_PtS_PtW => decide)
    (case ne_PtS_PtP => decide)
    (case ne_PtS_PtC => decide)
    (case ne_PtW_PtP => decide)
    (case ne_PtW_PtC => decide)
    (case ne_PtP_PtC => decide)
