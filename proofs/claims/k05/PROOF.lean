import PyProof.Rows.All
import Wide.All
import OpenK.AllK
import Wide.FinOn
import HandS.ForMost
import HandS.Codes
import HandS.Flow
import HandS.Style
import HandS.StrMore
import HandS.IsInst
import HandS.TupAny
import HandS.EndBits
import HandS.Set
import HandS.SetFor
import HandS.Strs
import HandS.Exc
import HandS.ExcInit
import HandS.ExcField
import HandS.WordsExc
import HandS.ExcIs
import HandS.Small
import HandS.Star
import HandS.AnyAll
import HandS.WrittenGet
import HandS.SortKw
import KE.KMinBuiltin
import HandS.WideBits
import HandS.Wide
import HandS.Walk
import KE.KIsAll
import KE.KTryMore
import HandS.Conv
import HandS.TupMul
import HandS.Property
import HandS.NestedK
import KE.KDictDisplayH
import HandS.Dict
import HandS.Defaults
import KE.GoesEnum
import PySem.Challenge.RW_digitwise_k05_formulas_read
set_option Elab.async false
set_option linter.all false
set_option maxRecDepth 100000
set_option maxHeartbeats 4000000
namespace Dw
open PySem PySem.Spec PyProof.Rows L2 SX

theorem hu64 {A : Around} {k : Nat} (hr : Room k A) : A.units + 64 < cLine := hr.units
section
variable {X : Cx} {k j : Nat} {x : Str} {sp : Sp} {dvs : List V} {p pos : Pos}
theorem pe_c0 (c : C8.Cal X.prog X.w X.K X.mg X.base k x sp dvs) (hr : Room j X.A) (hk : k ≤ j) (hg : Gl X x)
    (hdb : (x == ("__debug__" : Str)) = false := by decide) :
    PE X (.Call (.Name x p) [] [] pos) (tCall sp dvs C8.E0 tNil) := by
  obtain ⟨f, fd, ps, ds, F, hm, kp, b, d⟩ := c.ex
  exact pe_call0 F (hr.mono hk) hg hm kp b d C8.pass0 hdb
end
theorem same_upd {H : Hp} {p : Addr} {o : HO} (h : H p = none) : Same H (upd H p o) := fun b x e => by
  rw [upd_ne (ne_of_none e h)]
  exact e
/-- all but what stands at p is as it was -/
def But (p : Addr) (H H' : Hp) : Prop := ∀ b o, b ≠ p → H b = some o → H' b = some o
theorem But.refl (p : Addr) (H : Hp) : But p H H := fun _ _ _ h => h
theorem But.trans {p : Addr} {H H1 H2 : Hp} (a : But p H H1) (b : But p H1 H2) : But p H H2 := fun c o n h => b c o n (a c o n h)
theorem But.of {p : Addr} {H H' : Hp} (a : Same H H') : But p H H' := fun b o _ h => a b o h
theorem But.upd {p : Addr} {H : Hp} {o : HO} : But p H (upd H p o) := fun b _ n h => by
  rw [upd_ne n]
  exact h
theorem But.list {p a : Addr} {H H' : Hp} {K : PySem.W.Frag} {xs : List V} (e : But p H H') (n : a ≠ p) (h : SqL K H a xs) : SqL K H' a xs := by
  rcases h with (h | ⟨o, h⟩) | h
  · exact .inl (.inl (e _ _ n h))
  · exact .inl (.inr ⟨o, e _ _ n h⟩)
  · exact .inr h
/-- the pool of drawn numbers at p, over the copied script at q -/
def Pool (H : Hp) (p q : Addr) (ns : List Int) : Prop := p ≠ q ∧ H q = some (.lst (ns.map V.int)) ∧ ∃ a k : Int, H p = some (.lst [.int a, .ref q, .int k]) ∧ 0 ≤ a ∧ -1 ≤ k
theorem Pool.same {H H' : Hp} {p q : Addr} {ns : List Int} (h : Pool H p q ns) (e : Same H H') : Pool H' p q ns := by
  obtain ⟨n, hq, a, k, hp, h0, h1⟩ := h
  exact ⟨n, e _ _ hq, a, k, e _ _ hp, h0, h1⟩

example : True := by trivial
end Dw
namespace Dw
open PySem PySem.Spec PyProof.Rows L2 SX
section
variable {CX : CXT} {P : Program} {w : World} {K : PySem.W.Frag} {mg : Str → Option Value} {base : Heap} {N : List Str} {qual : Str} {scope : Scope} {f : Addr} {cd : Value} {A : Around} {outer : List Env} {s : Shared} {H : Hp} {E : XK}
theorem cxOf_K : (cxOf CX P w K mg base N qual scope f cd A outer s H E).K = K := rfl
theorem cxOf_w : (cxOf CX P w K mg base N qual scope f cd A outer s H E).w = w := rfl
theorem cxOf_prog : (cxOf CX P w K mg base N qual scope f cd A outer s H E).prog = P := rfl
end
end Dw
namespace Dw
open PySem PySem.Spec PyProof.Rows L2 SX
theorem at_ints {ns : List Int} {k : Int} (h0 : 0 ≤ k) (h1 : k < (ns.length : Int)) : atI (ns.map V.int) k = some (.int (ns.getD k.toNat 0)) := by
  obtain ⟨n, rfl⟩ : ∃ n : Nat, k = (n : Int) := ⟨k.toNat, by omega⟩
  have h2 : n < ns.length := by omega
  refine atI_nat ?_
  rw [List.getElem?_map, Int.toNat_natCast, List.getD_eq_getElem?_getD, List.getElem?_eq_getElem h2]
  rfl
end Dw
namespace Dw
open PySem PySem.Spec PyProof.Rows L2 SX
/-- a text times an int -/
theorem op_mul_str {X : Cx} : OpR X (binaryOp .Mult) (fun x y H Q => ∃ (z : Str) (k : Int), x = .str z ∧ y = .int k ∧ MulOk z k ∧ Q (.str (Txt.mul z k)) H) := by
  intro pins s σ H x y v u Q I rx ry h
  obtain ⟨z, k, rfl, rfl, hz, q⟩ := h
  obtain ⟨t, rfl⟩ := rx
  obtain ⟨t', rfl⟩ := ry
  exact SB.mul hz (fun t' tk => ⟨.str (Txt.mul z k), H, I.tok _, ⟨_, rfl⟩, q⟩)
def rMulS : R2 := fun x y H Q => ∃ (z : Str) (k : Int), x = .str z ∧ y = .int k ∧ MulOk z k ∧ Q (.str (Txt.mul z k)) H
theorem op_mulS {X : Cx} : OpR X (binaryOp .Mult) rMulS := op_mul_str
/-! loops and comprehensions, folded -/
def ForJ (J : It) (g : TG) (tb : TS) (D : Ends) (σ : L2.St) (H : Hp) : Prop := ∃ W : Nat → Nat → L2.St → Hp → Prop, (∃ m, W 0 m σ H) ∧ ∀ i m σ H, W i m σ H →
  (J.stop i H ∧ D.nx σ H) ∨ (J.go i H ∧ ∃ N : L2.St → Hp → Prop, (∀ σ' H', N σ' H' → ∃ m', m' < m ∧ W (i + 1) m' σ' H') ∧ ∀ x H', J.yld i H x H' → g x σ H' fun σ2 H2 => tb { D with nx := N, ct := N, bk := D.nx } σ2 H2)
theorem tFor_eq (wi : TI) (g : TG) (tb : TS) (D : Ends) (σ : L2.St) (H : Hp) : tFor wi g tb D σ H = wi σ H fun J H1 => ForJ J g tb D σ H1 := rfl
def LcJ (J : It) (g : TG) (tt : TT) (te : TE) (vs : List Nat) (D : Addr) (σ : L2.St) (H1 : Hp) (Qd : Hp → Prop) : Prop := ∃ W : Nat → Nat → Hp → Prop, (∃ m, W 0 m (upd H1 D (.lst []))) ∧ ∀ i m H, W i m H →
  (J.stop i H ∧ Qd H) ∨ (J.go i H ∧ ∃ Nx : Hp → Prop, (∀ H', Nx H' → ∃ m', m' < m ∧ W (i + 1) m' H') ∧ ∀ x H', J.yld i H x H' → g x (wipe σ vs) H' fun σ2 H2 => wipe σ2 vs = wipe σ vs ∧ tt σ2 H2 fun b H3 =>
    if b = true then te σ2 H3 fun y H4 => ∃ acc, H4 D = some (.lst acc) ∧ acc.length < sizeLine ∧ Nx (upd H4 D (.lst (acc ++ [y]))) else Nx H3)
theorem tLc_eq (wi : TI) (g : TG) (tt : TT) (te : TE) (vs : List Nat) (σ : L2.St) (H : Hp) (Q : VK) : tLc wi g tt te vs σ H Q = wi σ H fun J H1 => ∀ D, H1 D = none → LcJ J g tt te vs D σ H1 fun H2 => Q (.ref D) H2 := rfl
/-! texts as lists of codes -/
def cs (s : String) : List Nat := (Str.ofString s).cps.toList
theorem ofStr_S (s : String) : Str.ofString s = S (cs s) := (S_tl _).symm
theorem one_S (c : Nat) : (⟨#[c]⟩ : Str) = S [c] := rfl
theorem S_iff (a b : List Nat) : (S a = S b) = (a = b) := propext ⟨S_inj, fun e => by rw [e]⟩
theorem S_cps (a : List Nat) : (S a).cps.toList = a := rfl
theorem len_S (a : List Nat) : (S a).length = a.length := S_len a
theorem at_mem {α : Type} {xs : List α} {i : Int} (h0 : 0 ≤ i) (h1 : i < (xs.length : Int)) : ∃ v, atI xs i = some v ∧ v ∈ xs := by
  obtain ⟨n, rfl⟩ : ∃ n : Nat, i = (n : Int) := ⟨i.toNat, by omega⟩
  have h2 : n < xs.length := by omega
  exact ⟨xs[n], atI_nat (List.getElem?_eq_getElem h2), List.getElem_mem h2⟩
def LOW : List Nat := cs "abcdefghijklmnopqrstuvwxyz"
def UPP : List Nat := cs "ABCDEFGHIJKLMNOPQRSTUVWXYZ"
def DIG : List Nat := cs "0123456789"
def RESW : List String := ["all", "def", "pow", "some", "told"]
def RES : List (List Nat) := RESW.map cs
def SGNW : List String := ["<=>", "=>", "->", "<=", ">=", "!=", "=", "<", ">", "+", "-", "*", "~", "&", "|", "(", ")", "[", "]", "{", "}", ",", ":", ";"]
def SGN : List (List Nat) := SGNW.map cs
def vS (l : List Nat) : V := .str (S l)
/-- a good name, a good word -/
structure GName (l : List Nat) : Prop where
  hd : ∃ c r, l = c :: r ∧ c ∈ LOW
  all : ∀ c ∈ l, c ∈ LOW ++ DIG
  le : l.length ≤ 12
  nr : l ∉ RES
structure GWord (l : List Nat) : Prop where
  hd : ∃ c r, l = c :: r ∧ c ∈ UPP
  all : ∀ c ∈ l, c ∈ UPP ++ DIG
  le : l.length ≤ 12
def NMS : List String := ["x", "y", "z", "alls", "v0", "v1", "po", "defx"]
instance (l : List Nat) : Decidable (∃ c r, l = c :: r ∧ c ∈ LOW) := match l with
  | [] => isFalse (by rintro ⟨_, _, h, _⟩; cases h)
  | c :: r => if h : c ∈ LOW then isTrue ⟨c, r, rfl, h⟩ else isFalse (by rintro ⟨_, _, e, h'⟩; cases e; exact h h')
theorem nms_ok : ∀ s ∈ NMS, (∃ c r, cs s = c :: r ∧ c ∈ LOW) ∧ (∀ c ∈ cs s, c ∈ LOW ++ DIG) ∧ (cs s).length ≤ 12 := by decide +kernel
theorem low_len : LOW.length = 26 := by decide +kernel
theorem lowdig_len : (LOW ++ DIG).length = 36 := by decide +kernel
theorem upp_len : UPP.length = 26 := by decide +kernel
theorem uppdig_len : (UPP ++ DIG).length = 36 := by decide +kernel
theorem res_len : ∀ l ∈ RES, l.length ≤ 4 := by decide +kernel
theorem res0 : ∀ l ∈ RES, l ++ cs "0" ∉ RES := by decide +kernel
/-- a drawn name is made good -/
theorem gname_of {l : List Nat} (hd : ∃ c r, l = c :: r ∧ c ∈ LOW) (all : ∀ c ∈ l, c ∈ LOW ++ DIG) (le : l.length ≤ 12) : (l ∈ RES → GName (l ++ cs "0")) ∧ (l ∉ RES → GName l) := by
  refine ⟨fun h => ⟨?_, ?_, ?_, res0 l h⟩, fun h => ⟨hd, all, le, h⟩⟩
  · obtain ⟨c, r, rfl, hc⟩ := hd
    exact ⟨c, r ++ cs "0", rfl, hc⟩
  · intro c hc
    rcases List.mem_append.mp hc with h1 | h1
    · exact all c h1
    · have : ∀ c ∈ cs "0", c ∈ LOW ++ DIG := by decide +kernel
      exact this c h1
  · rw [List.length_append]
    have := res_len l h
    have : (cs "0").length = 1 := by decide +kernel
    omega
end Dw
namespace Dw
open PySem PySem.Spec PyProof.Rows L2 SX
theorem eqV_S (a b : List Nat) : eqV (.str (S a)) (.str (S b)) = decide (a = b) := by
  show (S a == S b) = _
  exact S_beq_eq
theorem inV_S (l : List Nat) : ∀ L : List (List Nat), inV (.str (S l)) (L.map vS) = decide (l ∈ L)
  | [] => by simp [inV]
  | a :: L => by
    have ih := inV_S l L
    unfold inV at ih ⊢
    rw [List.map_cons, List.any_cons, ih]
    show (eqV (.str (S a)) (.str (S l)) || _) = _
    rw [eqV_S]
    by_cases h : a = l
    · subst h; simp
    · have h' : ¬ l = a := fun e => h e.symm
      simp [h, h']
theorem flat_S : ∀ L : List (List Nat), (L.map vS).all flatV = true
  | [] => rfl
  | a :: L => by
    rw [List.map_cons, List.all_cons, flat_S L]
    rfl
theorem small {n : Nat} (h : n ≤ 10000) : n ≤ sizeLine := Nat.le_trans h (by decide)
theorem smallt {n : Nat} (h : n ≤ 10000) : n < sizeLine := Nat.lt_of_le_of_lt h (by decide)
end Dw
namespace Dw
open PySem PySem.Spec PyProof.Rows L2 SX
def SPS : List String := ["", " ", "\n", "  \n ", " ", ""]
theorem sps_ok : ∀ s ∈ SPS, (∀ c ∈ cs s, c = 32 ∨ c = 10) ∧ (cs s).length ≤ 4 := by decide +kernel
def pfx (s t : List Nat) : Bool := t.take s.length == s
def isAN (c : Nat) : Bool := Unicode.isAlnum c
/-- the two pieces need a space between them -/
def joins (a b : List Nat) : Bool := (isAN (a.getLast?.getD 0) && isAN (b.head?.getD 0)) || SGN.any fun s => decide (a.length < s.length) && pfx a s && pfx s (a ++ b)
end Dw
namespace Dw
open PySem PySem.Spec PyProof.Rows L2 SX
theorem pfx_iff {s t : List Nat} : pfx s t = true ↔ ∃ r, t = s ++ r := by
  unfold pfx
  rw [beq_iff_eq]
  constructor
  · intro h
    exact ⟨t.drop s.length, by have := List.take_append_drop s.length t; rw [h] at this; exact this.symm⟩
  · rintro ⟨r, rfl⟩
    simp
theorem pfx_le {s t : List Nat} (h : pfx s t = true) : s.length ≤ t.length := by
  obtain ⟨r, rfl⟩ := pfx_iff.mp h
  rw [List.length_append]; omega
theorem subAt_S (a b : List Nat) (i : Nat) : Builtin.Str.subAt (S a) (S b) i = pfx b (a.drop i) := by
  rw [StrLaws.subAt_eq]
  show ((a.drop i).take (S b).length == b) = _
  rw [S_len]
  rfl
theorem sw_S (a b : List Nat) : Txt.startswith (S a) (S b) = pfx b a := by
  unfold Txt.startswith
  rw [subAt_S, S_len, S_len, List.drop_zero]
  cases h : pfx b a
  · simp
  · have := pfx_le h
    simp [this]
theorem sw3_S (a b : List Nat) (i : Nat) (hi : i ≤ a.length) : Txt.startswith3 (S a) (S b) (i : Int) = pfx b (a.drop i) := by
  unfold Txt.startswith3
  have e : fromIndex (S a).length (i : Int) = i := by
    unfold fromIndex
    rw [if_neg (by omega)]
    omega
  rw [e, subAt_S, S_len, S_len]
  cases h : pfx b (a.drop i)
  · simp
  · have := pfx_le h
    rw [List.length_drop] at this
    have h2 : i + b.length ≤ a.length := by omega
    simp [h2]
theorem an_S (c : Nat) : Txt.isalnum (S [c]) = isAN c := by
  unfold Txt.isalnum isAN
  show (decide ((S [c]).length > 0) && (#[c] : Array Nat).all Unicode.isAlnum) = _
  simp [Str.length]
end Dw
namespace Dw
theorem sgn_len : ∀ s ∈ SGN, s.length ≤ 3 := by decide +kernel
end Dw
namespace Dw
open PySem PySem.Spec PyProof.Rows L2 SX
abbrev TRow := List Nat × List Nat
def flat (rows : List TRow) : List Nat := rows.flatMap fun x => x.1 ++ x.2
def places (n : Nat) : List TRow → List V
  | [] => []
  | x :: r => .int (n : Nat) :: places (n + x.1.length + x.2.length) r
theorem flat_snoc (rows : List TRow) (x : TRow) : flat (rows ++ [x]) = flat rows ++ x.1 ++ x.2 := by
  simp [flat]
theorem flat_cons (rows : List TRow) (x : TRow) : flat (x :: rows) = x.1 ++ (x.2 ++ flat rows) := by
  simp [flat]
theorem places_snoc : ∀ (n : Nat) (rows : List TRow) (x : TRow), places n (rows ++ [x]) = places n rows ++ [.int ((n + (flat rows).length : Nat) : Int)]
  | n, [], x => by simp [places, flat]
  | n, y :: r, x => by
    show V.int _ :: places (n + y.1.length + y.2.length) (r ++ [x]) = _
    rw [places_snoc]
    show _ = V.int _ :: (places (n + y.1.length + y.2.length) r ++ _)
    rw [flat_cons, List.length_append, List.length_append]
    rw [show n + y.1.length + y.2.length + (flat r).length = n + (y.1.length + (y.2.length + (flat r).length)) by omega]
theorem places_len : ∀ (n : Nat) (rows : List TRow), (places n rows).length = rows.length
  | _, [] => rfl
  | n, y :: r => by
    show (places _ r).length + 1 = r.length + 1
    rw [places_len]
def Blank (l : List Nat) : Prop := (∀ c ∈ l, c = 32 ∨ c = 10) ∧ l.length ≤ 4
/-- where two parts join, a space stands between them -/
def Sepd (rows : List TRow) : Prop := ∀ (k : Nat) (x y : TRow), rows[k]? = some x → rows[k + 1]? = some y → joins x.1 y.1 = true → x.2 ≠ []
theorem flat_len : ∀ (rows : List TRow), (∀ x ∈ rows, x.1.length ≤ 100 ∧ x.2.length ≤ 4) → (flat rows).length ≤ 104 * rows.length
  | [], _ => by simp [flat]
  | x :: r, h => by
    have ih := flat_len r fun y hy => h y (List.mem_cons_of_mem _ hy)
    have h1 := h x List.mem_cons_self
    rw [flat_cons, List.length_append, List.length_append, List.length_cons]
    omega
theorem snoc_of {l : List Nat} (h : l ≠ []) : ∃ (a' : List Nat) (x : Nat), l = a' ++ [x] := ⟨l.dropLast, l.getLast h, (List.dropLast_concat_getLast h).symm⟩
theorem cons_of {l : List Nat} (h : l ≠ []) : ∃ (y : Nat) (b' : List Nat), l = y :: b' := by
  cases l with
  | nil => exact absurd rfl h
  | cons y r => exact ⟨y, r, rfl⟩
theorem at_map {α : Type} {f : α → V} {L : List α} {i : Nat} {a : α} (h : L[i]? = some a) : atI (L.map f) (i : Int) = some (f a) := atI_nat (by rw [List.getElem?_map, h]; rfl)
end Dw
namespace Dw
open PySem PySem.Spec PyProof.Rows L2 SX
theorem Pool.ne {H : Hp} {p q t : Addr} {ns : List Int} (h : Pool H p q ns) (ht : H t = none) : t ≠ p := by
  obtain ⟨_, _, _, _, hp, _⟩ := h
  exact (ne_of_none hp ht).symm
theorem But.free {H H1 : Hp} {p q t : Addr} {ns : List Int} (hB : But p H H1) (hP : Pool H1 p q ns) (ht : H1 t = none) : H t = none := by
  cases e : H t with
  | none => rfl
  | some o =>
    have := hB t o (hP.ne ht) e
    rw [ht] at this
    cases this
end Dw
namespace Dw
open PySem PySem.Spec PyProof.Rows L2 SX
theorem tyL {K : PySem.W.Frag} {H : Hp} {a : Addr} {xs : List V} (h : H a = some (.lst xs)) : tyV K "list" (.ref a) H := .inl ⟨rfl, _, SqL.of h⟩
theorem tyV_str {K : PySem.W.Frag} {H : Hp} {z : Str} : tyV K "str" (.str z) H = True := propext ⟨fun _ => trivial, fun _ => rfl⟩
theorem But.new {p t : Addr} {H H1 : Hp} {o : HO} (hB : But p H H1) (ht : H t = none) : But p H (L2.upd H1 t o) := fun b u n h => by
  rw [upd_ne (ne_of_none h ht)]
  exact hB b u n h
theorem Pool.set {p q t : Addr} {H : Hp} {ns : List Int} {o : HO} (h : Pool H p q ns) (h1 : t ≠ p) (h2 : t ≠ q) : Pool (L2.upd H t o) p q ns := by
  obtain ⟨n, hq, a, k, hp, h0, hk⟩ := h
  exact ⟨n, by rw [upd_ne h2.symm]; exact hq, a, k, by rw [upd_ne h1.symm]; exact hp, h0, hk⟩
theorem Pool.neq {H : Hp} {p q t : Addr} {ns : List Int} (h : Pool H p q ns) (ht : H t = none) : t ≠ q := by
  obtain ⟨_, hq, _⟩ := h
  exact (ne_of_none hq ht).symm
end Dw
namespace Dw
open PySem PySem.Spec PyProof.Rows L2 SX
def num (n : Nat) : List Nat := cs (toString (n : Int))
/-- a piece of a text, the kind and the value of its token -/
inductive Piece : List Nat → List Nat → V → Prop
  | res {l : List Nat} (h : l ∈ RES) : Piece l (cs "reserved") (.str (S l))
  | name {l : List Nat} (h : GName l) : Piece l (cs "name") (.str (S l))
  | word {l : List Nat} (h : GWord l) : Piece l (cs "word") (.str (S l))
  | num (n : Nat) (h : n < 256) : Piece (num n) (cs "number") (.int (n : Int))
  | sign {l : List Nat} (h : l ∈ SGN) : Piece l (cs "sign") (.str (S l))
end Dw
namespace Dw
open PySem PySem.Spec PyProof.Rows L2 SX
theorem But.upd2 {p t : Addr} {H H1 : Hp} {o : HO} (hB : But p H H1) (ht : H1 t = none) : But p H (L2.upd H1 t o) := hB.trans (But.of (same_upd ht))
end Dw
namespace Dw
open PySem PySem.Spec PyProof.Rows L2 SX
/-! loops by a word, what follows a turn left open -/
theorem while_up {c : TT} {tb : TS} {D : Ends} {σ : L2.St} {H : Hp} (W : Nat → L2.St → Hp → Prop) (h0 : ∃ m, W m σ H)
    (hs : ∀ m σ H (N : L2.St → Hp → Prop), W m σ H → (∀ m' σ' H', m' < m → W m' σ' H' → N σ' H') → c σ H fun b H1 => if b = true then tb { D with nx := N, ct := N, bk := D.nx } σ H1 else D.nx σ H1)
    (mono : ∀ σ H Q Q', (∀ b H1, Q b H1 → Q' b H1) → c σ H Q → c σ H Q') : tWhile c tb D σ H := by
  refine ⟨W, h0, fun m σ H hw => ?_⟩
  refine mono σ H _ _ (fun b H1 q => ?_) (hs m σ H (fun σ' H' => ∃ m', m' < m ∧ W m' σ' H') hw (fun m' σ' H' h1 h2 => ⟨m', h1, h2⟩))
  cases b with
  | true => exact ⟨_, fun σ' H' h => h, q⟩
  | false => exact q
theorem for_listN {K : PySem.W.Frag} {a : Addr} {xs : List V} {g : TG} {tb : TS} {D : Ends} {σ : L2.St} {H : Hp} (Pv : Nat → L2.St → Hp → Prop) (h0 : Pv 0 σ H) (hl : ∀ i σ H, i ≤ xs.length → Pv i σ H → SqL K H a xs)
    (hs : ∀ i x σ H (N : L2.St → Hp → Prop), xs[i]? = some x → Pv i σ H → (∀ σ' H', Pv (i + 1) σ' H' → N σ' H') → g x σ H fun σ2 H2 => tb { D with nx := N, ct := N, bk := D.nx } σ2 H2) (hd : ∀ σ H, Pv xs.length σ H → D.nx σ H) :
    ForJ (Itl K a) g tb D σ H := for_list Pv h0 hl (fun i x σ H hx hp => hs i x σ H (Pv (i + 1)) hx hp (fun _ _ h => h)) hd
theorem for_tupN {K : PySem.W.Frag} {a : Addr} {xs : List V} {g : TG} {tb : TS} {D : Ends} {σ : L2.St} {H : Hp} (Pv : Nat → L2.St → Hp → Prop) (h0 : Pv 0 σ H) (hl : ∀ i σ H, i ≤ xs.length → Pv i σ H → SqT K H a xs)
    (hs : ∀ i x σ H (N : L2.St → Hp → Prop), xs[i]? = some x → Pv i σ H → (∀ σ' H', Pv (i + 1) σ' H' → N σ' H') → g x σ H fun σ2 H2 => tb { D with nx := N, ct := N, bk := D.nx } σ2 H2) (hd : ∀ σ H, Pv xs.length σ H → D.nx σ H) :
    ForJ (Itt K a) g tb D σ H := for_tup Pv h0 hl (fun i x σ H hx hp => hs i x σ H (Pv (i + 1)) hx hp (fun _ _ h => h)) hd
theorem for_rangeN {lo : Int} {n : Nat} {g : TG} {tb : TS} {D : Ends} {σ : L2.St} {H : Hp} (Pv : Nat → L2.St → Hp → Prop) (h0 : Pv 0 σ H)
    (hs : ∀ i σ H (N : L2.St → Hp → Prop), i < n → Pv i σ H → (∀ σ' H', Pv (i + 1) σ' H' → N σ' H') → g (.int (lo + i)) σ H fun σ2 H2 => tb { D with nx := N, ct := N, bk := D.nx } σ2 H2) (hd : ∀ σ H, Pv n σ H → D.nx σ H) :
    ForJ (Itr lo n) g tb D σ H := for_range Pv h0 (fun i σ H hx hp => hs i σ H (Pv (i + 1)) hx hp (fun _ _ h => h)) hd
theorem lc_listN {K : PySem.W.Frag} {a : Addr} {xs : List V} {g : TG} {tt : TT} {te : TE} {vs : List Nat} {σ : L2.St} {H1 : Hp} {D : Addr} {Qd : Hp → Prop} (Pv : Nat → Hp → Prop) (h0 : Pv 0 (upd H1 D (.lst []))) (hl : ∀ i H, i ≤ xs.length → Pv i H → SqL K H a xs)
    (hs : ∀ i x H (N : Hp → Prop), xs[i]? = some x → Pv i H → (∀ H', Pv (i + 1) H' → N H') → g x (wipe σ vs) H fun σ2 H2 => wipe σ2 vs = wipe σ vs ∧ tt σ2 H2 fun b H3 =>
      if b = true then te σ2 H3 fun y H4 => ∃ acc, H4 D = some (.lst acc) ∧ acc.length < sizeLine ∧ N (upd H4 D (.lst (acc ++ [y]))) else N H3) (hd : ∀ H, Pv xs.length H → Qd H) :
    LcJ (Itl K a) g tt te vs D σ H1 Qd := lc_list Pv h0 hl (fun i x H hx hp => hs i x H (Pv (i + 1)) hx hp (fun _ h => h)) hd
theorem lc_tupN {K : PySem.W.Frag} {a : Addr} {xs : List V} {g : TG} {tt : TT} {te : TE} {vs : List Nat} {σ : L2.St} {H1 : Hp} {D : Addr} {Qd : Hp → Prop} (Pv : Nat → Hp → Prop) (h0 : Pv 0 (upd H1 D (.lst []))) (hl : ∀ i H, i ≤ xs.length → Pv i H → SqT K H a xs)
    (hs : ∀ i x H (N : Hp → Prop), xs[i]? = some x → Pv i H → (∀ H', Pv (i + 1) H' → N H') → g x (wipe σ vs) H fun σ2 H2 => wipe σ2 vs = wipe σ vs ∧ tt σ2 H2 fun b H3 =>
      if b = true then te σ2 H3 fun y H4 => ∃ acc, H4 D = some (.lst acc) ∧ acc.length < sizeLine ∧ N (upd H4 D (.lst (acc ++ [y]))) else N H3) (hd : ∀ H, Pv xs.length H → Qd H) :
    LcJ (Itt K a) g tt te vs D σ H1 Qd := lc_tup Pv h0 hl (fun i x H hx hp => hs i x H (Pv (i + 1)) hx hp (fun _ h => h)) hd
theorem lc_rangeN {lo : Int} {n : Nat} {g : TG} {tt : TT} {te : TE} {vs : List Nat} {σ : L2.St} {H1 : Hp} {D : Addr} {Qd : Hp → Prop} (Pv : Nat → Hp → Prop) (h0 : Pv 0 (upd H1 D (.lst [])))
    (hs : ∀ i H (N : Hp → Prop), i < n → Pv i H → (∀ H', Pv (i + 1) H' → N H') → g (.int (lo + i)) (wipe σ vs) H fun σ2 H2 => wipe σ2 vs = wipe σ vs ∧ tt σ2 H2 fun b H3 =>
      if b = true then te σ2 H3 fun y H4 => ∃ acc, H4 D = some (.lst acc) ∧ acc.length < sizeLine ∧ N (upd H4 D (.lst (acc ++ [y]))) else N H3) (hd : ∀ H, Pv n H → Qd H) :
    LcJ (Itr lo n) g tt te vs D σ H1 Qd := lc_range Pv h0 (fun i H hx hp => hs i H (Pv (i + 1)) hx hp (fun _ h => h)) hd
theorem cut_by {t u : TS} {D : Ends} {σ : L2.St} {H : Hp} (M : L2.St → Hp → Prop) (h1 : ∀ N : L2.St → Hp → Prop, (∀ σ' H', M σ' H' → N σ' H') → t { D with nx := N } σ H) (h2 : ∀ σ' H', M σ' H' → u D σ' H') : C8.tCut t u D σ H :=
  ⟨M, h1 M (fun _ _ h => h), h2⟩
/-! signs at the head of what is left -/
def hdIn (ch : List Nat) : List Nat → Bool
  | [] => false
  | c :: _ => decide (c ∈ ch)
theorem run_split (ch : List Nat) : ∀ l : List Nat, ∃ a b, l = a ++ b ∧ (∀ c ∈ a, c ∈ ch) ∧ hdIn ch b = false
  | [] => ⟨[], [], rfl, (fun _ h => nomatch h), rfl⟩
  | c :: r => by
    by_cases h : c ∈ ch
    · obtain ⟨a, b, rfl, h1, h2⟩ := run_split ch r
      refine ⟨c :: a, b, rfl, fun d hd => ?_, h2⟩
      rcases List.mem_cons.mp hd with e | e
      · rw [e]; exact h
      · exact h1 d e
    · exact ⟨[], c :: r, rfl, (fun _ h => nomatch h), decide_eq_false h⟩
theorem at_app {pre : List Nat} {c : Nat} {r : List Nat} : atI (pre ++ c :: r) ((pre.length : Nat) : Int) = some c := by
  refine atI_nat ?_
  rw [List.getElem?_append_right (Nat.le_refl _), Nat.sub_self]
  rfl
theorem cut_mid (pre l rest : List Nat) : Txt.slice (S (pre ++ (l ++ rest))) (some ((pre.length : Nat) : Int)) (some ((pre.length + l.length : Nat) : Int)) = S l := by
  rw [← C8.cutS_slice]
  unfold cutS
  rw [HT.sIx_nat, HT.sIx_nat, len_S, S_cps]
  have e1 : min pre.length (pre ++ (l ++ rest)).length = pre.length := by
    rw [List.length_append]; omega
  have e2 : min (pre.length + l.length) (pre ++ (l ++ rest)).length = pre.length + l.length := by
    rw [List.length_append, List.length_append]; omega
  rw [e1, e2, List.drop_left, Nat.add_sub_cancel_left, List.take_left]
end Dw
namespace Dw
open PySem PySem.Spec PyProof.Rows L2 SX
def NxW (W : Nat → L2.St → Hp → Prop) (m : Nat) (tb : TS) (D : Ends) (σ : L2.St) (H1 : Hp) : Prop := ∃ N : L2.St → Hp → Prop, (∀ σ' H', N σ' H' → ∃ m', m' < m ∧ W m' σ' H') ∧ tb { D with nx := N, ct := N, bk := D.nx } σ H1
theorem nxw_of {W : Nat → L2.St → Hp → Prop} {m : Nat} {tb : TS} {D : Ends} {σ : L2.St} {H1 : Hp} (h : ∀ N : L2.St → Hp → Prop, (∀ m' σ' H', m' < m → W m' σ' H' → N σ' H') → tb { D with nx := N, ct := N, bk := D.nx } σ H1) : NxW W m tb D σ H1 :=
  ⟨_, fun _ _ h => h, h (fun σ' H' => ∃ m', m' < m ∧ W m' σ' H') fun m' σ' H' h1 h2 => ⟨m', h1, h2⟩⟩
theorem while_W {c : TT} {tb : TS} {D : Ends} {σ : L2.St} {H : Hp} (W : Nat → L2.St → Hp → Prop) (h0 : ∃ m, W m σ H)
    (hs : ∀ m σ H, W m σ H → c σ H fun b H1 => if b = true then NxW W m tb D σ H1 else D.nx σ H1) : tWhile c tb D σ H := ⟨W, h0, hs⟩
end Dw
namespace Dw
open PySem PySem.Spec PyProof.Rows L2 SX
/-- a run of these signs and figures, a sign first, of at most 12 -/
def run (ch l : List Nat) : Bool := decide (1 ≤ l.length) && decide (l.length ≤ 12) && hdIn ch l && l.all fun c => decide (c ∈ ch ++ DIG)
/-- a value that is no text -/
inductive NoStr (H : Hp) : V → Prop
  | non : NoStr H .non
  | int (i : Int) : NoStr H (.int i)
  | bl (b : Bool) : NoStr H (.bl b)
  | tup {a : Addr} {xs : List V} (h : H a = some (.tup xs)) : NoStr H (.ref a)
theorem kit_str {K : PySem.W.Frag} : PySem.W.kitOne K (.type "str") (.type "str") = some true := kit_ty (by decide +kernel)
theorem NoStr.ty {K : PySem.W.Frag} {H : Hp} {v : V} (h : NoStr H v) : ∃ t, TyX K H v t ∧ PySem.W.kitOne K t (.type "str") = some false := by
  cases h with
  | non => exact ⟨_, .base .non, kit_ty (by decide +kernel)⟩
  | int i => exact ⟨_, .base (.int i), kit_ty (by decide +kernel)⟩
  | bl b => exact ⟨_, .base (.bl b), kit_ty (by decide +kernel)⟩
  | tup h => exact ⟨_, .base (.tup h), kit_ty (by decide +kernel)⟩
theorem gname_iff {l : List Nat} : (run LOW l && !decide (l ∈ RES)) = true ↔ GName l := by
  unfold run
  constructor
  · intro h
    simp only [Bool.and_eq_true, decide_eq_true_eq, List.all_eq_true, Bool.not_eq_true', decide_eq_false_iff_not] at h
    obtain ⟨⟨⟨⟨h1, h2⟩, h3⟩, h4⟩, h5⟩ := h
    refine ⟨?_, h4, h2, h5⟩
    cases l with
    | nil => exact absurd h1 (by decide)
    | cons c r => exact ⟨c, r, rfl, of_decide_eq_true h3⟩
  · rintro ⟨⟨c, r, rfl, hc⟩, h2, h3, h4⟩
    simp only [Bool.and_eq_true, decide_eq_true_eq, List.all_eq_true, Bool.not_eq_true', decide_eq_false_iff_not]
    exact ⟨⟨⟨⟨by simp, h3⟩, decide_eq_true hc⟩, h2⟩, h4⟩
end Dw
namespace Dw
open PySem PySem.Spec PyProof.Rows L2 SX
structure After (l rest : List Nat) : Prop where
  an : ∀ x, l.getLast? = some x → isAN x = true → ∀ y r, rest = y :: r → isAN y = false
  sg : ∀ s ∈ SGN, l.length < s.length → pfx l s = true → pfx s (l ++ rest) = false
theorem an_ld : ∀ c ∈ LOW ++ DIG, isAN c = true := by decide +kernel
theorem an_ud : ∀ c ∈ UPP ++ DIG, isAN c = true := by decide +kernel
theorem After.hd {l rest ch : List Nat} (h : After l rest) (hne : l ≠ []) (al : ∀ c ∈ l, isAN c = true) (hch : ∀ c ∈ ch, isAN c = true) : hdIn ch rest = false := by
  cases rest with
  | nil => rfl
  | cons y r =>
    have h1 := h.an _ (List.getLast?_eq_some_getLast hne) (al _ (List.getLast_mem hne)) y r rfl
    refine decide_eq_false fun hy => ?_
    rw [hch y hy] at h1
    cases h1
theorem res_ok : ∀ l ∈ RES, (∃ c r, l = c :: r ∧ c ∈ LOW) ∧ (∀ c ∈ l, c ∈ LOW ++ DIG) ∧ l.length ≤ 12 := by decide +kernel
theorem sgn_ok : ∀ l ∈ SGN, l ≠ [] ∧ hdIn LOW l = false ∧ hdIn UPP l = false ∧ hdIn DIG l = false ∧ hdIn [32, 10] l = false := by decide +kernel
theorem low_ok : ∀ c ∈ LOW, c ≠ 32 ∧ c ≠ 10 := by decide +kernel
theorem upp_ok : ∀ c ∈ UPP, c ∉ LOW ∧ c ≠ 32 ∧ c ≠ 10 := by decide +kernel
theorem dig_ok : ∀ c ∈ DIG, c ∉ LOW ∧ c ∉ UPP ∧ c ≠ 32 ∧ c ≠ 10 := by decide +kernel
theorem num_ok : ∀ n : Nat, n < 256 → num n ≠ [] ∧ (∀ c ∈ num n, c ∈ DIG) ∧ (num n).length ≤ 3 ∧ ((num n).head? = some 48 → (num n).length = 1) ∧ (num n).all (fun c => decide (48 ≤ c) && decide (c ≤ 57)) = true ∧ NumText.digitsVal (num n) = n := by decide +kernel
/-- a sign stands ahead of the signs that it begins with -/
theorem sgn_first : ∀ (i j : Fin 24), i < j → pfx (SGN.getD i []) (SGN.getD j []) = false := by decide +kernel
theorem num_int {n : Nat} (h : n < 256) : intText? (S (num n)) = some (n : Int) := by
  obtain ⟨h1, h2, h3, h4, h5, h6⟩ := num_ok n h
  rw [int_S h5 h1 (by omega), h6]
end Dw
namespace Dw
open PySem PySem.Spec PyProof.Rows L2 SX
theorem sgn_len24 : SGN.length = 24 := by decide +kernel
theorem sgn_before {i j : Nat} {s l : List Nat} (h : i < j) (hi : SGN[i]? = some s) (hj : SGN[j]? = some l) : pfx s l = false := by
  have h1 : j < 24 := by
    have := (List.getElem?_eq_some_iff.mp hj).1
    rw [sgn_len24] at this
    exact this
  have := sgn_first ⟨i, by omega⟩ ⟨j, h1⟩ h
  rw [List.getD_eq_getElem?_getD, List.getD_eq_getElem?_getD] at this
  rw [show SGN[(⟨i, by omega⟩ : Fin 24).val]? = some s from hi, show SGN[(⟨j, h1⟩ : Fin 24).val]? = some l from hj] at this
  exact this
theorem pfx_short {s l r : List Nat} (h : pfx s (l ++ r) = true) (hl : s.length ≤ l.length) : pfx s l = true := by
  unfold pfx at h ⊢
  rw [List.take_append_of_le_length hl] at h
  exact h
theorem pfx_two {s l r : List Nat} (h : pfx s (l ++ r) = true) (hl : l.length ≤ s.length) : pfx l s = true := by
  unfold pfx at h ⊢
  rw [beq_iff_eq] at h ⊢
  rw [← h, List.take_take, Nat.min_eq_left hl, List.take_left]
end Dw
namespace Dw
open PySem PySem.Spec PyProof.Rows L2 SX
/-- a piece, the space behind it, its token's kind and value -/
structure Itm where
  l : List Nat
  sp : List Nat
  k : List Nat
  v : V
def irow (x : Itm) : TRow := (x.l, x.sp)
abbrev iflat (r : List Itm) : List Nat := flat (r.map irow)
def Goods : List Itm → Prop
  | [] => True
  | x :: r => Piece x.l x.k x.v ∧ Blank x.sp ∧ After x.l (x.sp ++ iflat r) ∧ Goods r
theorem iflat_cons (x : Itm) (r : List Itm) : iflat (x :: r) = x.l ++ (x.sp ++ iflat r) := flat_cons _ _
/-- the tokens of these items stand at these places -/
def Toks (H : Hp) : Nat → List Itm → List Addr → Prop
  | _, [], [] => True
  | n, x :: r, a :: as => H a = some (.tup [.str (S x.k), x.v, .int (n : Nat)]) ∧ Toks H (n + x.l.length + x.sp.length) r as
  | _, _, _ => False
theorem Toks.same {H H' : Hp} (e : Same H H') : ∀ {n : Nat} {r : List Itm} {as : List Addr}, Toks H n r as → Toks H' n r as
  | _, [], [], _ => trivial
  | _, x :: r, a :: as, h => ⟨e _ _ h.1, Toks.same e h.2⟩
  | _, [], _ :: _, h => h.elim
  | _, _ :: _, [], h => h.elim
theorem Toks.but {p : Addr} {H H' : Hp} (e : But p H H') (hp : ∀ xs, H p ≠ some (.tup xs)) : ∀ {n : Nat} {r : List Itm} {as : List Addr}, Toks H n r as → Toks H' n r as
  | _, [], [], _ => trivial
  | _, x :: r, a :: as, h => ⟨e _ _ (fun q => hp _ (q ▸ h.1)) h.1, Toks.but e hp h.2⟩
  | _, [], _ :: _, h => h.elim
  | _, _ :: _, [], h => h.elim
theorem Toks.len {H : Hp} : ∀ {n : Nat} {r : List Itm} {as : List Addr}, Toks H n r as → as.length = r.length
  | _, [], [], _ => rfl
  | _, x :: r, a :: as, h => congrArg (· + 1) (Toks.len h.2)
  | _, [], _ :: _, h => h.elim
  | _, _ :: _, [], h => h.elim
theorem Toks.snoc {H : Hp} {x : Itm} {a : Addr} : ∀ {n : Nat} {r : List Itm} {as : List Addr}, Toks H n r as → H a = some (.tup [.str (S x.k), x.v, .int ((n + (iflat r).length : Nat) : Int)]) → Toks H n (r ++ [x]) (as ++ [a])
  | _, [], [], _, h => ⟨h, trivial⟩
  | n, y :: r, b :: as, h, h2 => ⟨h.1, Toks.snoc h.2 (by
      rw [iflat_cons, List.length_append, List.length_append] at h2
      rw [show n + y.l.length + y.sp.length + (iflat r).length = n + (y.l.length + (y.sp.length + (iflat r).length)) by omega]
      exact h2)⟩
  | _, [], _ :: _, h, _ => h.elim
  | _, _ :: _, [], h, _ => h.elim
theorem Goods.append : ∀ {a b : List Itm}, Goods (a ++ b) → Goods b
  | [], _, h => h
  | _ :: a, _, h => Goods.append (a := a) h.2.2.2
theorem piece_hd {l k : List Nat} {v : V} (h : Piece l k v) : ∃ c r, l = c :: r ∧ c ≠ 32 ∧ c ≠ 10 := by
  cases h with
  | res h =>
    obtain ⟨⟨c, r, e, hc⟩, _⟩ := res_ok l h
    exact ⟨c, r, e, low_ok c hc⟩
  | name h =>
    obtain ⟨c, r, e, hc⟩ := h.hd
    exact ⟨c, r, e, low_ok c hc⟩
  | word h =>
    obtain ⟨c, r, e, hc⟩ := h.hd
    exact ⟨c, r, e, (upp_ok c hc).2⟩
  | num n h =>
    obtain ⟨n1, n2, _⟩ := num_ok n h
    obtain ⟨c, r, e⟩ := cons_of n1
    exact ⟨c, r, e, (dig_ok c (n2 c (by rw [e]; exact List.mem_cons_self))).2.2⟩
  | sign h =>
    obtain ⟨n1, _, _, _, n5⟩ := sgn_ok l h
    obtain ⟨c, r, e⟩ := cons_of n1
    rw [e] at n5
    have : c ∉ [32, 10] := of_decide_eq_false n5
    simp at this
    exact ⟨c, r, e, this⟩
theorem piece_len {l k : List Nat} {v : V} (h : Piece l k v) : l.length ≤ 12 := by
  cases h with
  | res h => exact (res_ok l h).2.2
  | name h => exact h.le
  | word h => exact h.le
  | num n h => have := (num_ok n h).2.2.1; omega
  | sign h => have := sgn_len l h; omega
end Dw
namespace Dw
open PySem PySem.Spec PyProof.Rows L2 SX
theorem Same.new {H H1 : Hp} {t : Addr} {o : HO} (e : Same H H1) (ht : H t = none) : Same H (L2.upd H1 t o) := fun b u h => by
  rw [upd_ne (ne_of_none h ht)]
  exact e b u h
end Dw
namespace Dw
open PySem PySem.Spec PyProof.Rows L2 SX
/-! the tokens as data -/
inductive TV : V → PyData → Prop
  | str (z : Str) : TV (.str z) (.str z)
  | int (i : Int) : TV (.int i) (.int i)
def vD : V → PyData
  | .str z => .str z
  | .int i => .int i
  | _ => .none
theorem piece_vD {l k : List Nat} {v : V} (h : Piece l k v) : TV v (vD v) := by
  cases h <;> constructor
def tokD (n : Nat) (x : Itm) : PyData := .tuple [.str (S x.k), vD x.v, .int (n : Nat)]
def toksD : Nat → List Itm → List PyData
  | _, [] => []
  | n, x :: r => tokD n x :: toksD (n + x.l.length + x.sp.length) r
theorem vD_depth (v : V) : (vD v).depth = 0 := by
  cases v <;> simp [vD, PyData.depth]
theorem ok_S {l : List Nat} (h : ∀ c ∈ l, c < 128) : PyData.strOk (S l) = true := by
  unfold PyData.strOk
  rw [← Array.all_toList]
  exact List.all_eq_true.mpr fun c hc => decide_eq_true (Nat.lt_trans (h c hc) (by decide))
theorem ld_128 : ∀ c ∈ LOW ++ DIG, c < 128 := by decide +kernel
theorem ud_128 : ∀ c ∈ UPP ++ DIG, c < 128 := by decide +kernel
theorem sgn_128 : ∀ s ∈ SGN, ∀ c ∈ s, c < 128 := by decide +kernel
theorem kinds_128 : ∀ s ∈ (["reserved", "name", "word", "number", "sign"] : List String), ∀ c ∈ cs s, c < 128 := by decide +kernel
structure LayI (x : Itm) : Prop where
  k : PyData.strOk (S x.k) = true
  v : (vD x.v).canLay0 = true
theorem piece_lay {l k : List Nat} {v : V} (h : Piece l k v) : PyData.strOk (S k) = true ∧ (vD v).canLay0 = true := by
  cases h with
  | res h => exact ⟨ok_S (kinds_128 "reserved" (by simp)), by simp only [vD, PyData.canLay0]; exact ok_S fun c hc => ld_128 c ((res_ok l h).2.1 c hc)⟩
  | name h => exact ⟨ok_S (kinds_128 "name" (by simp)), by simp only [vD, PyData.canLay0]; exact ok_S fun c hc => ld_128 c (h.all c hc)⟩
  | word h => exact ⟨ok_S (kinds_128 "word" (by simp)), by simp only [vD, PyData.canLay0]; exact ok_S fun c hc => ud_128 c (h.all c hc)⟩
  | num n h => exact ⟨ok_S (kinds_128 "number" (by simp)), by simp only [vD, PyData.canLay0]⟩
  | sign h => exact ⟨ok_S (kinds_128 "sign" (by simp)), by simp only [vD, PyData.canLay0]; exact ok_S fun c hc => sgn_128 l h c hc⟩
theorem toksD_lay : ∀ (n : Nat) (r : List Itm), (∀ x ∈ r, LayI x) → PyData.canLayAll0 (toksD n r) = true
  | _, [], _ => by simp [toksD, PyData.canLayAll0]
  | n, x :: r, h => by
    have h1 := h x List.mem_cons_self
    simp [toksD, tokD, PyData.canLayAll0, PyData.canLay0, h1.k, h1.v, toksD_lay _ r fun y hy => h y (List.mem_cons_of_mem _ hy)]
theorem toksD_depth : ∀ (n : Nat) (r : List Itm), PyData.depthAll (toksD n r) ≤ 1
  | _, [] => by simp [toksD, PyData.depthAll]
  | n, x :: r => by
    have h1 := toksD_depth (n + x.l.length + x.sp.length) r
    simp only [toksD, tokD, PyData.depthAll, PyData.depth, vD_depth x.v]
    omega
theorem toksD_shaped (n : Nat) (r : List Itm) (h : ∀ x ∈ r, LayI x) : SeqAt.shaped (.list (toksD n r)) = true := by
  have h1 := toksD_depth n r
  have h2 : PyData.depth (.list (toksD n r)) ≤ 64 := by
    simp only [PyData.depth]
    omega
  show (PyData.canLay0 (.list (toksD n r)) && decide (PyData.depth (.list (toksD n r)) ≤ 64)) = true
  rw [Bool.and_eq_true]
  exact ⟨by simp only [PyData.canLay0]; exact toksD_lay n r h, decide_eq_true h2⟩
theorem shaped_refl {d : PyData} (h : SeqAt.shaped d = true) : PyData.eqv d d = true := SeqAt.eqv_refl d (SeqAt.canLay_of_shaped h)
theorem toks_dp {K : PySem.W.Frag} {H : Hp} : ∀ {n : Nat} {r : List Itm} {as : List Addr}, (∀ x ∈ r, TV x.v (vD x.v)) → Toks H n r as → DpAll K H (as.map V.ref) (toksD n r)
  | _, [], [], _, _ => .nil
  | n, x :: r, a :: as, hv, h => by
    refine .cons (.tup (SqT.of h.1) (.cons (.str _) (.cons ?_ (.cons (.int _) .nil)))) (toks_dp (fun y hy => hv y (List.mem_cons_of_mem _ hy)) h.2)
    have := hv x List.mem_cons_self
    generalize vD x.v = d at this
    cases hx : x.v <;> rw [hx] at this <;> cases this
    · exact .int _
    · exact .str _
  | _, [], _ :: _, _, h => h.elim
  | _, _ :: _, [], _, h => h.elim
theorem strs_lay : ∀ L : List (List Nat), (∀ l ∈ L, ∀ c ∈ l, c < 128) → PyData.canLayAll0 (L.map fun l => .str (S l)) = true
  | [], _ => by simp [PyData.canLayAll0]
  | l :: L, h => by simp [PyData.canLayAll0, PyData.canLay0, ok_S (h l List.mem_cons_self), strs_lay L fun m hm => h m (List.mem_cons_of_mem _ hm)]
theorem strs_depth : ∀ L : List (List Nat), PyData.depthAll (L.map fun l => .str (S l)) = 0
  | [] => by simp [PyData.depthAll]
  | l :: L => by simp [PyData.depthAll, PyData.depth, strs_depth L]
theorem strs_shaped (L : List (List Nat)) (h : ∀ l ∈ L, ∀ c ∈ l, c < 128) : SeqAt.shaped (.list (L.map fun l => .str (S l))) = true := by
  simp [SeqAt.shaped, PyData.canLay0, PyData.depth, strs_lay L h, strs_depth]
theorem res_128 : ∀ s ∈ RES, ∀ c ∈ s, c < 128 := by decide +kernel
theorem strs_dp {K : PySem.W.Frag} {H : Hp} : ∀ L : List (List Nat), DpAll K H (L.map vS) (L.map fun l => .str (S l))
  | [] => .nil
  | _ :: L => .cons (.str _) (strs_dp L)
/-! pieces as they stand -/
structure Pc where
  r : Addr
  t : Addr
  l : List Nat
  k : List Nat
  v : V
def PcsAt (H : Hp) (ps : List Pc) : Prop := ∀ x ∈ ps, Piece x.l x.k x.v ∧ H x.r = some (.lst [.str (S x.l), .ref x.t]) ∧ H x.t = some (.tup [.str (S x.k), x.v])
theorem PcsAt.same {H H' : Hp} {ps : List Pc} (h : PcsAt H ps) (e : Same H H') : PcsAt H' ps := fun x hx => ⟨(h x hx).1, e _ _ (h x hx).2.1, e _ _ (h x hx).2.2⟩
/-- at p stands none of the pieces' objects -/
theorem PcsAt.but {H H' : Hp} {p : Addr} {ps : List Pc} (h : PcsAt H ps) (e : But p H H') (h1 : ∀ l t, H p ≠ some (.lst [.str l, .ref t])) (h2 : ∀ xs, H p ≠ some (.tup xs)) : PcsAt H' ps := fun x hx =>
  ⟨(h x hx).1, e _ _ (fun q => h1 _ _ (q ▸ (h x hx).2.1)) (h x hx).2.1, e _ _ (fun q => h2 _ (q ▸ (h x hx).2.2)) (h x hx).2.2⟩
theorem PcsAt.pool {H H' : Hp} {p q : Addr} {ns : List Int} {ps : List Pc} (h : PcsAt H ps) (hP : Pool H p q ns) (e : But p H H') : PcsAt H' ps := by
  obtain ⟨_, _, a, k, hp, _⟩ := hP
  refine h.but e (fun l t e2 => ?_) (fun xs e2 => ?_)
  · rw [hp] at e2
    cases e2
  · rw [hp] at e2
    cases e2
theorem Toks.pool {H H' : Hp} {p q : Addr} {ns : List Int} {n : Nat} {r : List Itm} {as : List Addr} (h : Toks H n r as) (hP : Pool H p q ns) (e : But p H H') : Toks H' n r as := by
  obtain ⟨_, _, a, k, hp, _⟩ := hP
  refine h.but e (fun xs e2 => ?_)
  rw [hp] at e2
  cases e2
/-! what stands behind a piece -/
def mkI : List Pc → List TRow → List Itm
  | x :: ps, y :: rs => ⟨x.l, y.2, x.k, x.v⟩ :: mkI ps rs
  | _, _ => []
theorem mkI_rows : ∀ (ps : List Pc) (rows : List TRow), rows.map (·.1) = ps.map (·.l) → (mkI ps rows).map irow = rows
  | [], [], _ => rfl
  | x :: ps, y :: rs, h => by
    rw [List.map_cons, List.map_cons] at h
    obtain ⟨h1, h2⟩ := List.cons.inj h
    show irow _ :: (mkI ps rs).map irow = y :: rs
    rw [mkI_rows ps rs h2]
    show ((x.l, y.2) : TRow) :: rs = y :: rs
    rw [← h1]
  | [], _ :: _, h => by cases h
  | _ :: _, [], h => by cases h
theorem mkI_len : ∀ (ps : List Pc) (rows : List TRow), rows.map (·.1) = ps.map (·.l) → (mkI ps rows).length = ps.length
  | [], [], _ => rfl
  | x :: ps, y :: rs, h => by
    rw [List.map_cons, List.map_cons] at h
    exact congrArg (· + 1) (mkI_len ps rs (List.cons.inj h).2)
  | [], _ :: _, h => by cases h
  | _ :: _, [], h => by cases h
theorem mkI_get : ∀ (ps : List Pc) (rows : List TRow) (i : Nat) (x : Pc) (y : TRow), ps[i]? = some x → rows[i]? = some y → (mkI ps rows)[i]? = some ⟨x.l, y.2, x.k, x.v⟩
  | [], _, _, _, _, h, _ => by simp at h
  | _ :: _, [], _, _, _, _, h => by simp at h
  | a :: ps, b :: rs, 0, x, y, h1, h2 => by
    obtain rfl := Option.some.inj h1
    obtain rfl := Option.some.inj h2
    rfl
  | a :: ps, b :: rs, i + 1, x, y, h1, h2 => mkI_get ps rs i x y h1 h2
theorem an_sp : isAN 32 = false ∧ isAN 10 = false := by decide +kernel
theorem sgn_nosp : ∀ s ∈ SGN, ∀ c ∈ s, c ≠ 32 ∧ c ≠ 10 := by decide +kernel
theorem sgn_take : ∀ s ∈ SGN, s.length = 3 → s.take 2 ∈ SGN := by decide +kernel
theorem piece_ne {l k : List Nat} {v : V} (h : Piece l k v) : l ≠ [] := by
  obtain ⟨c, r, e, _⟩ := piece_hd h
  rw [e]
  exact List.cons_ne_nil _ _
theorem joins_no {a b : List Nat} (h : joins a b = false) : (isAN (a.getLast?.getD 0) && isAN (b.head?.getD 0)) = false ∧ ∀ s ∈ SGN, (decide (a.length < s.length) && pfx a s && pfx s (a ++ b)) = false := by
  unfold joins at h
  rw [Bool.or_eq_false_iff, List.any_eq_false] at h
  exact ⟨h.1, fun s hs => Bool.eq_false_iff.mpr (h.2 s hs)⟩
theorem after_of {l sp rest : List Nat} (hb : ∀ c ∈ sp, c = 32 ∨ c = 10) (hr : sp = [] → rest ≠ [] → ∃ b tl, rest = b ++ tl ∧ b ≠ [] ∧ l ≠ [] ∧ joins l b = false) : After l (sp ++ rest) := by
  constructor
  · intro x hx hax y r hy
    cases sp with
    | cons c sp' =>
      obtain rfl : c = y := (List.cons.inj hy).1
      rcases hb c List.mem_cons_self with e | e
      · rw [e]; exact an_sp.1
      · rw [e]; exact an_sp.2
    | nil =>
      rw [List.nil_append] at hy
      obtain ⟨b, tl, e, hbn, _, hj⟩ := hr rfl (by rw [hy]; exact List.cons_ne_nil _ _)
      obtain ⟨c, b', rfl⟩ := cons_of hbn
      rw [e] at hy
      obtain rfl : c = y := (List.cons.inj hy).1
      have h1 := (joins_no hj).1
      rw [hx] at h1
      simpa [hax] using h1
  · intro s hs hlt hp
    cases hc : pfx s (l ++ (sp ++ rest)) with
    | false => rfl
    | true =>
      exfalso
      have hs3 := sgn_len s hs
      obtain ⟨u, hu⟩ := pfx_iff.mp hp
      have hune : u ≠ [] := fun e => by rw [hu, e, List.append_nil] at hlt; exact Nat.lt_irrefl _ hlt
      obtain ⟨w, hw⟩ := pfx_iff.mp hc
      rw [hu, List.append_assoc] at hw
      have hw2 := List.append_cancel_left hw
      obtain ⟨d, u', rfl⟩ := cons_of hune
      cases sp with
      | cons c sp' =>
        have e : c = d := (List.cons.inj hw2).1
        have h1 := sgn_nosp s hs d (by rw [hu]; simp)
        rcases hb c List.mem_cons_self with e2 | e2
        · exact h1.1 (by rw [← e, e2])
        · exact h1.2 (by rw [← e, e2])
      | nil =>
        rw [List.nil_append] at hw2 hc
        obtain ⟨b, tl, e, hbn, hln, hj⟩ := hr rfl (by rw [hw2]; exact List.cons_ne_nil _ _)
        have hno := (joins_no hj).2
        by_cases hle : s.length ≤ (l ++ b).length
        · have h3 := hno s hs
          rw [decide_eq_true hlt, hp] at h3
          rw [e, ← List.append_assoc] at hc
          rw [pfx_short hc hle] at h3
          cases h3
        · have l1 : 1 ≤ l.length := List.length_pos_iff.mpr hln
          have b1 : 1 ≤ b.length := List.length_pos_iff.mpr hbn
          rw [List.length_append] at hle
          have hs3' : s.length = 3 := by omega
          have hll : l.length = 1 := by omega
          have hbb : b.length = 1 := by omega
          have ht := sgn_take s hs hs3'
          have et : s.take 2 = l ++ b := by
            rw [e, ← List.append_assoc] at hc
            obtain ⟨w2, hw3⟩ := pfx_iff.mp hc
            have : (l ++ b ++ tl).take 2 = l ++ b := by
              rw [List.take_append_of_le_length (by rw [List.length_append]; omega), List.take_of_length_le (by rw [List.length_append]; omega)]
            rw [← this, hw3, List.take_append_of_le_length (by omega)]
          have h3 := hno _ ht
          rw [et] at h3
          have e1 : decide (l.length < (l ++ b).length) = true := decide_eq_true (by rw [List.length_append]; omega)
          have e2 : pfx l (l ++ b) = true := pfx_iff.mpr ⟨b, rfl⟩
          have e3 : pfx (l ++ b) (l ++ b) = true := pfx_iff.mpr ⟨[], by simp⟩
          rw [e1, e2, e3] at h3
          cases h3
theorem goods_of : ∀ (ps : List Pc) (rows : List TRow), rows.map (·.1) = ps.map (·.l) → (∀ x ∈ rows, Blank x.2) → Sepd rows → (∀ x ∈ ps, Piece x.l x.k x.v) → Goods (mkI ps rows)
  | [], [], _, _, _, _ => trivial
  | x :: ps, y :: rs, h, hb, hs, hp => by
    have h0 := h
    rw [List.map_cons, List.map_cons] at h
    obtain ⟨h1, h2⟩ := List.cons.inj h
    refine ⟨hp x List.mem_cons_self, hb y List.mem_cons_self, ?_, goods_of ps rs h2 (fun z hz => hb z (List.mem_cons_of_mem _ hz)) (fun k a b ha hb' => hs (k + 1) a b ha hb') (fun z hz => hp z (List.mem_cons_of_mem _ hz))⟩
    show After x.l (y.2 ++ flat ((mkI ps rs).map irow))
    rw [mkI_rows ps rs h2]
    refine after_of (hb y List.mem_cons_self).1 (fun hsp hne => ?_)
    cases rs with
    | nil => exact absurd rfl hne
    | cons z rs' =>
      cases ps with
      | nil => cases h2
      | cons w ps' =>
        have hw : z.1 = w.l := (List.cons.inj h2).1
        refine ⟨z.1, z.2 ++ flat rs', flat_cons _ _, by rw [hw]; exact piece_ne (hp w (by simp)), piece_ne (hp x (by simp)), ?_⟩
        cases hj : joins x.l z.1 with
        | false => rfl
        | true => exact absurd hsp (hs 0 y z rfl rfl (by rw [h1]; exact hj))
  | [], _ :: _, h, _, _, _ => by cases h
  | _ :: _, [], h, _, _, _ => by cases h
theorem places_get : ∀ (n : Nat) (rows : List TRow) (i : Nat), i < rows.length → (places n rows)[i]? = some (.int ((n + (flat (rows.take i)).length : Nat) : Int))
  | n, y :: r, 0, _ => by simp [places, flat]
  | n, y :: r, i + 1, h => by
    show (places (n + y.1.length + y.2.length) r)[i]? = _
    rw [places_get _ r i (Nat.lt_of_succ_lt_succ h), List.take_succ_cons, flat_cons, List.length_append, List.length_append]
    rw [show n + y.1.length + y.2.length + (flat (r.take i)).length = n + (y.1.length + (y.2.length + (flat (r.take i)).length)) by omega]
theorem goods_mem : ∀ {is : List Itm}, Goods is → ∀ x ∈ is, Piece x.l x.k x.v
  | [], _, _, h => nomatch h
  | y :: r, g, x, h => by
    rcases List.mem_cons.mp h with e | e
    · rw [e]; exact g.1
    · exact goods_mem g.2.2.2 x e
end Dw
namespace Dw
open PySem PySem.Spec PyProof.Rows L2 SX
/-! rules that name the written part K itself (for a comprehension's block) -/
section
variable {X : Cx} (K : PySem.W.Frag)
theorem ixL (h : X.K = K := by rfl) : IxR X (rIxL K) := h ▸ ix_list
theorem ixT (h : X.K = K := by rfl) : IxR X (rIxT K) := h ▸ ix_tup
def rLen (K : PySem.W.Frag) : List V → Hp → VK → Prop := fun xs H Q => ∃ p ys, xs = [.ref p] ∧ (SqL K H p ys ∨ SqT K H p ys) ∧ Q (.int ys.length) H
theorem lenS (h : X.K = K := by rfl) : CallR X (.builtin "len") (rLen K) := h ▸ call_len_seq
theorem inQ (h : X.K = K := by rfl) : OpR X (compareOp .In) (rIn K false) := h ▸ op_in_seq
theorem notInQ (h : X.K = K := by rfl) : OpR X (compareOp .NotIn) (rIn K true) := h ▸ op_notIn_seq
theorem catA (h : X.K = K := by rfl) : OpR X (binaryOp .Add) (rCatA K) := h ▸ op_catA
theorem eqDK (hu : X.A.units + 64 < cLine) (h : X.K = K := by rfl) : OpR X (compareOp .Eq) (rEqD K) := h ▸ op_eqD hu
theorem neDK (hu : X.A.units + 64 < cLine) (h : X.K = K := by rfl) : OpR X (compareOp .NotEq) (rNeD K) := h ▸ op_neD hu
def rListOf (K : PySem.W.Frag) : List V → Hp → VK → Prop := fun xs H Q => ∃ p ys, xs = [.ref p] ∧ (SqL K H p ys ∨ SqT K H p ys) ∧ ∀ l, H l = none → Q (.ref l) (upd H l (.lst ys))
theorem listOf (h : X.K = K := by rfl) : CallR X (.type "list") (rListOf K) := h ▸ call_list_of
def rTupOf (K : PySem.W.Frag) : List V → Hp → VK → Prop := fun xs H Q => ∃ p ys, xs = [.ref p] ∧ ((SqL K H p ys ∧ ∀ l, H l = none → Q (.ref l) (upd H l (.tup ys))) ∨ (SqT K H p ys ∧ Q (.ref p) H))
theorem tupOf (h : X.K = K := by rfl) : CallR X (.type "tuple") (rTupOf K) := h ▸ call_tuple_of
theorem isiK (h : X.K = K := by rfl) : CallR X (.builtin "isinstance") (rIsi K) := h ▸ call_isi
end
end Dw
namespace Dw
open PySem PySem.Spec PyProof.Rows L2 SX
theorem isi_of {K : PySem.W.Frag} {H : Hp} {Q : VK} {x : V} {t : Value} {c : String} {b : Bool} (ty : TyX K H x t) (k : PySem.W.kitOne K t (.type c) = some b) (q : Q (.bl b) H) : rIsi K [x, .ty c] H Q := ⟨x, .ty c, t, .type c, b, rfl, .ty _, ty, k, q⟩
end Dw
namespace Dw
open PySem PySem.Spec PyProof.Rows L2 SX
theorem Toks.get {H : Hp} : ∀ {n : Nat} {r : List Itm} {as : List Addr} {i : Nat} {x : Itm}, Toks H n r as → r[i]? = some x → ∃ (a : Addr) (m : Nat), as[i]? = some a ∧ H a = some (.tup [.str (S x.k), x.v, .int (m : Nat)])
  | _, [], [], _, _, _, h => by simp at h
  | n, y :: r, a :: as, 0, x, h, e => by
    obtain rfl := Option.some.inj e
    exact ⟨a, n, rfl, h.1⟩
  | n, y :: r, a :: as, i + 1, x, h, e => by
    obtain ⟨b, m, h1, h2⟩ := Toks.get (r := r) (i := i) (x := x) h.2 (by simpa using e)
    exact ⟨b, m, by simpa using h1, h2⟩
  | _, [], _ :: _, _, _, h, _ => h.elim
  | _, _ :: _, [], _, _, h, _ => h.elim
theorem run_no {l : List Nat} (h : hdIn LOW l = false) : (run LOW l && !decide (l ∈ RES)) = false := by
  unfold run
  rw [h]
  simp
theorem kinds_ne : cs "reserved" ≠ cs "name" ∧ cs "word" ≠ cs "name" ∧ cs "number" ≠ cs "name" ∧ cs "sign" ≠ cs "name" := by decide +kernel
theorem piece_name {l k : List Nat} {v : V} (h : Piece l k v) : (run LOW l && !decide (l ∈ RES)) = decide (k = cs "name") := by
  cases h with
  | res h =>
    rw [decide_eq_true h, decide_eq_false kinds_ne.1]
    simp
  | name h => rw [gname_iff.mpr h, decide_eq_true rfl]
  | word h =>
    obtain ⟨c, r, e, hc⟩ := h.hd
    rw [decide_eq_false kinds_ne.2.1, run_no]
    rw [e]
    exact decide_eq_false (upp_ok c hc).1
  | num n h =>
    obtain ⟨n1, n2, _⟩ := num_ok n h
    obtain ⟨c, r, e⟩ := cons_of n1
    rw [decide_eq_false kinds_ne.2.2.1, run_no]
    rw [e]
    exact decide_eq_false (dig_ok c (n2 c (by rw [e]; exact List.mem_cons_self))).1
  | sign h =>
    rw [decide_eq_false kinds_ne.2.2.2, run_no (sgn_ok l h).2.1]
theorem tv_bool {K : PySem.W.Frag} {H : Hp} {v : V} {d : PyData} (h : TV v d) : ∃ t, TyX K H v t ∧ PySem.W.kitOne K t (.type "bool") = some false := by
  cases h with
  | str z => exact ⟨_, .base (.str _), kit_ty (by decide +kernel)⟩
  | int i => exact ⟨_, .base (.int _), kit_ty (by decide +kernel)⟩
theorem kit_list {K : PySem.W.Frag} : PySem.W.kitOne K (.type "list") (.type "list") = some true := kit_ty (by decide +kernel)
/-- no names -/
def OTH : List (List Nat) := [cs "", cs "1a", List.replicate 13 97, cs "a b", cs "aB", cs "A", cs "a_"]
theorem oth_no : ∀ l ∈ OTH, (run LOW l && !decide (l ∈ RES)) = false ∧ l.length ≤ 1000 := by decide +kernel
theorem mul_a : Txt.mul (S (cs "a")) 13 = S (List.replicate 13 97) := by decide +kernel
theorem mul_z : Txt.mul (S (cs "z")) 12 = S (List.replicate 12 122) := by decide +kernel
theorem run_z : (run LOW (List.replicate 12 122) && !decide (List.replicate 12 122 ∈ RES)) = true := by decide +kernel
end Dw
namespace Dw
open PySem PySem.Spec PyProof.Rows L2 SX
/-! bad pieces -/
def BADC : List Nat := cs "!\"#$'./?@\\^_`"
inductive Bad : List Nat → Prop
  | char {c : Nat} (h : c ∈ BADC) : Bad [c]
  | longN {l : List Nat} (h0 : hdIn LOW l = true) (h1 : ∀ c ∈ l, c ∈ LOW ++ DIG) (h2 : 12 < l.length) (h3 : l.length ≤ 20) : Bad l
  | longW {l : List Nat} (h0 : hdIn UPP l = true) (h1 : ∀ c ∈ l, c ∈ UPP ++ DIG) (h2 : 12 < l.length) (h3 : l.length ≤ 20) : Bad l
  | mixN {a b : List Nat} (h0 : hdIn LOW a = true) (h1 : ∀ c ∈ a, c ∈ LOW ++ DIG) (h2 : hdIn UPP b = true) (h3 : a.length ≤ 10) (h4 : b.length ≤ 10) (h5 : ∀ c ∈ b, isAN c = true) : Bad (a ++ b)
  | mixW {a b : List Nat} (h0 : hdIn UPP a = true) (h1 : ∀ c ∈ a, c ∈ UPP ++ DIG) (h2 : hdIn LOW b = true) (h3 : a.length ≤ 10) (h4 : b.length ≤ 10) (h5 : ∀ c ∈ b, isAN c = true) : Bad (a ++ b)
  | zeros {l : List Nat} (h0 : l.head? = some 48) (h1 : ∀ c ∈ l, c ∈ DIG) (h2 : 1 < l.length) (h3 : l.length ≤ 30) : Bad l
  | big {l : List Nat} (h0 : l ≠ []) (h1 : ∀ c ∈ l, c ∈ DIG) (h2 : l.length ≤ 30) (n : Nat) (h3 : intText? (S l) = some (n : Int)) (h4 : 255 < n) : Bad l
  | letr {a b : List Nat} (h0 : a ≠ []) (h1 : ∀ c ∈ a, c ∈ DIG) (h2 : hdIn (LOW ++ UPP) b = true) (h3 : a.length ≤ 10) (h4 : b.length ≤ 10) (h5 : ∀ c ∈ b, isAN c = true) : Bad (a ++ b)
end Dw

namespace Dw
open PySem PySem.Spec PyProof.Rows L2 SX
/-! sets of texts with their order -/
def tkey (e : Int × Value) : Str := match e.2 with | .str z _ => z | _ => Str.empty
def GoodT (P : Program) (w : World) (e : Int × Value) : Prop := ∃ z u, e.2 = Value.str z u ∧ e.1 = (PySem.strKind P w).hash z
/-- at a: a set of the texts ks -/
def TxSet (P : Program) (w : World) (h : Heap) (a : Addr) (ks : List Str) : Prop :=
  ∃ ob xs ep tb, h.get? a = some ob ∧ ob.ExactSet ∧ ob.data = .set xs ep tb ∧ (∀ e ∈ xs.toList, GoodT P w e) ∧ (xs.toList.map tkey).Perm ks ∧ ks.Nodup ∧
    xs.size < scanBound ∧ tb.fits xs.size = true ∧ Ris tb.place.toList ∧ (w.params.followText "set-order" = true ∨ tb.led = true)
section
variable {P : Program} {w : World} {h h' : Heap} {a : Addr} {ks : List Str}
theorem TxSet.at (R : TxSet P w h a ks) (k : ∀ ob, h.get? a = some ob → h'.get? a = some ob) : TxSet P w h' a ks := by
  obtain ⟨ob, xs, ep, tb, g, rest⟩ := R
  exact ⟨ob, xs, ep, tb, k ob g, rest⟩
theorem goodT_elems {l : List (Int × Value)} (g : ∀ e ∈ l, GoodT P w e) : ElemsOf (PySem.strKind P w) l := fun e he => by
  obtain ⟨z, u, e1, e2⟩ := g e he
  exact ⟨⟨z, by rw [e1]; exact strKind_is P w z u, e2⟩, by rw [e1] <;> rfl⟩
theorem goodT_is {e : Int × Value} (g : GoodT P w e) (z : Str) : (PySem.strKind P w).is z e.2 = true ↔ tkey e = z := by
  obtain ⟨z0, u, e1, _⟩ := g
  unfold tkey
  rw [e1]
  show ((z0 == z) = true) ↔ z0 = z
  exact beq_iff_eq
end
section
variable {P : Program} {w : World} {A : Around} {E : Value → Shared → Prop} {s : Shared} {a : Addr} {ks : List Str}
def putT (z : Str) (ks : List Str) : List Str := if z ∈ ks then ks else z :: ks
/-- what stands behind the laying of one more -/
theorem tx_tail {gv : Bool → Sem Unit} (hgv : ∀ (b : Bool) (s1 : Shared) (R1 : Unit → Shared → Prop), R1 () s1 → wpAny (model P w) A (gv b) R1 E s1)
    {ob : Obj} {xs : Array (Int × Value)} {ep : Nat} {tb : SetTable} (ho : s.heap.get? a = some ob) (hx : ob.ExactSet) (hd : ob.data = .set xs ep tb)
    {ys : Array (Int × Value)} {tc : SetTable} {ls : List Str} (g1 : ∀ e ∈ ys.toList, GoodT P w e) (pm1 : (ys.toList.map tkey).Perm ls) (nd1 : ls.Nodup)
    (b1 : ys.size < scanBound) (f1 : tc.fits ys.size = true) (r1 : Ris tc.place.toList) (l1 : w.params.followText "set-order" = true ∨ tc.led = true) {wd : Bool} {R : Option Bool → Shared → Prop}
    (hR : ∀ h', Heap.SameBut a s.heap h' → TxSet P w h' a ls → R (some true) { s with heap := h' }) :
    wpAny (model P w) A (do
        storeSet a ys tc
        if (!wd && tc.tooFull) = true then do
            gv (relayAll tc ys (SetTable.grown ys.size)).2.2
            storeSet a (relayAll tc ys (SetTable.grown ys.size)).1 (relayAll tc ys (SetTable.grown ys.size)).2.1
            pure (some true)
          else pure (some true)) R E s := by
  refine wpAny_bind (wpAny_storeSet_of ho hd ?_ (fits_of_scanBound b1))
  have o1 := store_at (es' := ys) (t' := tc) ho hd
  have sb := Heap.SameBut.update s.heap a (Obj.putSet ys tc)
  split
  · have pz := relayAll_perm tc ys (SetTable.grown ys.size)
    have fz := relayAll_fits tc ys (SetTable.grown ys.size)
    have rz := relayAll_ris tc ys (SetTable.grown ys.size)
    have lz := relayAll_led tc ys (SetTable.grown ys.size)
    generalize relayAll tc ys (SetTable.grown ys.size) = Z at pz fz rz lz ⊢
    obtain ⟨zs, td, gave⟩ := Z
    dsimp only at pz fz rz lz ⊢
    have hz : zs.size = ys.size := by rw [← Array.length_toList, pz.length_eq, Array.length_toList]
    have bz : zs.size < scanBound := by rw [hz]; exact b1
    refine wpAny_bind (hgv _ _ _ ?_)
    refine wpAny_bind (wpAny_storeSet_of o1 rfl ?_ (fits_of_scanBound bz))
    have o2 := store_at (es' := zs) (t' := td) o1 rfl
    refine wpAny_pure (hR _ (sb.trans (Heap.SameBut.update _ a _)) ?_)
    exact ⟨_, zs, _, td, o2, hx, rfl, fun e m => g1 e (pz.mem_iff.mp m), (pz.map tkey).trans pm1, nd1, bz, fz, rz, l1.imp id fun q => by rw [lz]; exact q⟩
  · exact wpAny_pure (hR _ sb ⟨_, ys, _, tc, o1, hx, rfl, g1, pm1, nd1, b1, f1, r1, l1⟩)
theorem tx_add {z : Str} {u : Tok} {Q : Bool → Shared → Prop} (R : TxSet P w s.heap a ks) (room : ks.length + 1 < scanBound)
    (hQ : ∀ h', Heap.SameBut a s.heap h' → TxSet P w h' a (putT z ks) → Q (!decide (z ∈ ks)) { s with heap := h' }) :
    wpAny (model P w) A (setAddHashed a (.str z u) ((PySem.strKind P w).hash z)) Q E s := by
  obtain ⟨ob, xs, ep, tb, ho, hx, hd, g, pm, nd, hb, hf, hr, hl⟩ := R
  have hkey : (PySem.strKind P w).is z (.str z u) = true := strKind_is P w z u
  have hsc : (Value.str z u).scannable = true := rfl
  have hel := goodT_elems g
  have hmem : z ∈ ks ↔ ∃ e ∈ xs.toList, (PySem.strKind P w).is z e.2 = true := by
    rw [← pm.mem_iff, List.mem_map]
    constructor
    · rintro ⟨e, m, q⟩
      exact ⟨e, m, (goodT_is (g e m) z).2 q⟩
    · rintro ⟨e, m, q⟩
      exact ⟨e, m, (goodT_is (g e m) z).1 q⟩
  unfold setAddHashed setAddHashedIn
  refine wpAny_holding (wpAny_bind (wpAny_setState_of ho hd hf ?_))
  dsimp only
  rw [byScan_of hsc hb hel]
  simp only [↓reduceIte]
  unfold setAddByScan
  refine wpAny_bind ?_
  refine wpAny_bind (wpAny_rule ?_)
  refine wpAny_bind (wpAny_setScan_of hkey ho hd hf hel ?_)
  cases hfi : List.findIdx? (fun e => (PySem.strKind P w).is z e.2) xs.toList with
  | some j =>
    dsimp only
    obtain ⟨hj, pj, _⟩ := List.findIdx?_eq_some_iff_getElem.mp hfi
    have hin : z ∈ ks := hmem.2 ⟨xs.toList[j], List.getElem_mem hj, pj⟩
    refine wpAny_pure (wpAny_pure ?_)
    have q := hQ s.heap (Heap.SameBut.refl a s.heap) (by
      unfold putT
      rw [if_pos hin]
      exact ⟨ob, xs, ep, tb, ho, hx, hd, g, pm, nd, hb, hf, hr, hl⟩)
    rw [decide_eq_true hin] at q
    exact q
  | none =>
    dsimp only
    have hout : z ∉ ks := fun m => by
      obtain ⟨e, m1, q⟩ := hmem.1 m
      have c := List.findIdx?_eq_none_iff.mp hfi e m1
      rw [q] at c
      cases c
    have hgv : ∀ (b : Bool) {s1 : Shared} {R1 : Unit → Shared → Prop}, R1 () s1 → wpAny (model P w) A (match b with | true => rule "set.scan.the-table-gave-way" | false => pure ()) R1 E s1 :=
      fun b s1 R1 q => by cases b <;> first | exact wpAny_pure q | exact wpAny_rule q
    have pn := layNew_perm tb xs ((PySem.strKind P w).hash z) (.str z u)
    have fn := layNew_fits tb xs ((PySem.strKind P w).hash z) (.str z u)
    have rn := layNew_ris tb xs ((PySem.strKind P w).hash z) (.str z u) hr
    have ln := layNew_led tb xs ((PySem.strKind P w).hash z) (.str z u)
    generalize layNew tb xs ((PySem.strKind P w).hash z) (.str z u) = Z at pn fn rn ln ⊢
    obtain ⟨ys, tc, wd, gave⟩ := Z
    dsimp only at pn fn rn ln ⊢
    rw [Array.toList_push] at pn
    have pc : ys.toList.Perm (((PySem.strKind P w).hash z, Value.str z u) :: xs.toList) := pn.trans (List.perm_append_singleton _ _)
    have pk : (ys.toList.map tkey).Perm (z :: ks) := (pc.map tkey).trans (pm.cons z)
    have g1 : ∀ e ∈ ys.toList, GoodT P w e := fun e m => by
      rcases List.mem_cons.mp (pc.mem_iff.mp m) with q | q
      · rw [q]; exact ⟨z, u, rfl, rfl⟩
      · exact g e q
    have nd1 : (z :: ks).Nodup := List.nodup_cons.mpr ⟨hout, nd⟩
    have b1 : ys.size < scanBound := by
      have e := pk.length_eq
      rw [List.length_map, Array.length_toList, List.length_cons] at e
      rw [e]; exact room
    have l1 : w.params.followText "set-order" = true ∨ tc.led = true := hl.imp id fun q => by rw [ln]; exact q
    have fin : ∀ h', Heap.SameBut a s.heap h' → TxSet P w h' a (z :: ks) → Q true { s with heap := h' } := fun h' sb r => by
      have q := hQ h' sb (by
        unfold putT
        rw [if_neg hout]
        exact r)
      rw [decide_eq_false hout] at q
      exact q
    refine wpAny_bind (hgv _ ?_)
    split
    · refine wpAny_bind ?_
      rw [hashByValue_scannable 8 hsc]
      refine wpAny_pure ?_
      refine tx_tail ?_ ho hx hd g1 pk nd1 b1 ?_ ?_ ?_ ?_
      · intro b s1 R1 q; cases b <;> first | exact wpAny_pure q | exact wpAny_rule q
      · first | (split <;> first | exact fn | exact SetTable.fits_plain_off fn) | exact fn
      · first | (split <;> exact rn) | exact rn
      · first | (split <;> exact l1) | exact l1
      · intro h' sb r; dsimp only; exact wpAny_pure (fin h' sb r)
    · refine wpAny_bind (wpAny_pure ?_)
      simp only [↓reduceIte]
      refine tx_tail ?_ ho hx hd g1 pk nd1 b1 fn rn l1 ?_
      · intro b s1 R1 q; cases b <;> first | exact wpAny_pure q | exact wpAny_rule q
      · intro h' sb r; dsimp only; exact wpAny_pure (fin h' sb r)
end
end Dw

namespace Dw
open PySem PySem.Spec PyProof.Rows L2 SX
/-- the texts that stand in xs, each once -/
def setL (xs : List Str) : List Str := xs.foldl (fun ks z => putT z ks) []
theorem setL_snoc (xs : List Str) (z : Str) : setL (xs ++ [z]) = putT z (setL xs) := by
  unfold setL
  rw [List.foldl_append]
  rfl
theorem putT_mem {z y : Str} {ks : List Str} : y ∈ putT z ks ↔ y = z ∨ y ∈ ks := by
  unfold putT
  by_cases h : z ∈ ks
  · rw [if_pos h]
    exact ⟨.inr, fun q => q.elim (fun e => e ▸ h) id⟩
  · rw [if_neg h, List.mem_cons]
theorem putT_nodup {z : Str} {ks : List Str} (d : ks.Nodup) : (putT z ks).Nodup := by
  unfold putT
  by_cases h : z ∈ ks
  · rw [if_pos h]; exact d
  · rw [if_neg h]; exact List.nodup_cons.mpr ⟨h, d⟩
theorem putT_len (z : Str) (ks : List Str) : (putT z ks).length ≤ ks.length + 1 := by
  unfold putT
  split
  · exact Nat.le_succ _
  · exact Nat.le_refl _
theorem fold_mem (y : Str) : ∀ (xs ks : List Str), y ∈ xs.foldl (fun ks z => putT z ks) ks ↔ y ∈ ks ∨ y ∈ xs
  | [], ks => by simp
  | x :: xs, ks => by
    rw [List.foldl_cons, fold_mem y xs, putT_mem, List.mem_cons]
    constructor
    · rintro ((h | h) | h)
      · exact .inr (.inl h)
      · exact .inl h
      · exact .inr (.inr h)
    · rintro (h | h | h)
      · exact .inl (.inr h)
      · exact .inl (.inl h)
      · exact .inr h
theorem fold_nodup : ∀ (xs ks : List Str), ks.Nodup → (xs.foldl (fun ks z => putT z ks) ks).Nodup
  | [], _, d => d
  | _ :: xs, _, d => fold_nodup xs _ (putT_nodup d)
theorem fold_len : ∀ (xs ks : List Str), (xs.foldl (fun ks z => putT z ks) ks).length ≤ ks.length + xs.length
  | [], _ => Nat.le_refl _
  | x :: xs, ks => by
    have h1 := fold_len xs (putT x ks)
    have h2 := putT_len x ks
    rw [List.foldl_cons, List.length_cons]
    omega
theorem setL_mem {xs : List Str} {y : Str} : y ∈ setL xs ↔ y ∈ xs := by
  unfold setL
  rw [fold_mem]
  simp
theorem setL_nodup (xs : List Str) : (setL xs).Nodup := fold_nodup xs [] List.nodup_nil
theorem setL_len (xs : List Str) : (setL xs).length ≤ xs.length := by
  have := fold_len xs []
  simpa [setL] using this
section
variable {P : Program} {w : World} {A : Around} {E : Value → Shared → Prop} {s : Shared}
theorem tx_fresh {h : Heap} {a : Addr} (g : h.get? a = some { cls := .type "set", dict := none, data := .set #[] 0 (.fresh 0 0 (!w.params.followText "set-order")) }) : TxSet P w h a [] :=
  ⟨_, #[], 0, _, g, ⟨rfl, rfl, rfl⟩, rfl, (fun e m => by simp at m), List.Perm.refl _, List.nodup_nil, (by decide), (by rfl), List.Pairwise.nil, by
    cases q : w.params.followText "set-order"
    · exact .inr rfl
    · exact .inl rfl⟩
theorem tx_update {I : Addr} {fp wr : List Addr} {G : Array GenState → Array GenState → Prop} {m : Nat} {Pv : Nat → Value → Prop} {St : Nat → Shared → Prop} {R : Result → Shared → Prop}
    (W : WalksS P w A.in1 I fp wr G m Pv St) (D : Addr) (hD : D ∉ fp) (xs : List Str) (hm : m = xs.length) (hb : xs.length + 1 < scanBound) (hval : ∀ i v, Pv i v → ∃ z u, xs[i]? = some z ∧ v = .str z u) :
    ∀ (k i : Nat) (s : Shared), m - i = k → i ≤ m → St i s → TxSet P w s.heap D (setL (xs.take i)) →
      (∀ s', Moved (D :: wr) G s s' → TxSet P w s'.heap D (setL xs) → R (.ok (.ret .none)) s') →
      codeAny (model P w) A (.builtin "set.update.loop" ⟨[.ref D, .ref I], []⟩) R s := by
  have hDw : D ∉ wr := fun q => hD (W.sub _ q)
  have wider : ∀ b ∈ wr, b ∈ D :: wr := fun b q => List.mem_cons_of_mem _ q
  intro k
  induction k with
  | zero =>
    intro i s hk him st set out
    obtain rfl : i = m := by omega
    refine codeAny_builtin F.entry_set_update_loop ?_
    rw [Around.under_plainId F.plain_set_update_loop _]
    show wpAny _ A.in1 (pyNext (.ref I) >>= _) _ _ s
    refine wpAny_bind (W.done s _ _ st fun s2 mv => ?_)
    show wpAny _ A.in1 (ret Value.none) _ _ s2
    rw [List.take_of_length_le (by omega)] at set
    exact wpAny_pure (out s2 (mv.mono wider) (set.at fun ob e => mv.heap D ob hDw e))
  | succ k ih =>
    intro i s hk him st set out
    have lt : i < m := by omega
    refine codeAny_builtin F.entry_set_update_loop ?_
    rw [Around.under_plainId F.plain_set_update_loop _]
    show wpAny _ A.in1 (pyNext (.ref I) >>= _) _ _ s
    refine wpAny_bind (W.item i s _ _ lt st fun v s2 hv st2 mv => ?_)
    obtain ⟨z, u, hz, rfl⟩ := hval i v hv
    have set2 : TxSet P w s2.heap D (setL (xs.take i)) := set.at fun ob e => mv.heap D ob hDw e
    show wpAny _ A.in1 (holding [Value.str z u] (setAdd D (.str z u)) >>= _) _ _ s2
    refine wpAny_bind (wpAny_holding ?_)
    unfold setAdd
    refine wpAny_holding ?_
    refine wpAny_bind ((PySem.strKind P w).pyHash (k := z) (strKind_is _ _ _ _) ?_)
    have hlen : (setL (xs.take i)).length + 1 < scanBound := by
      have q := setL_len (xs.take i)
      rw [List.length_take] at q
      omega
    refine tx_add (s := { s2 with toks := s2.toks + 1 }) set2 hlen fun h3 sb set3 => ?_
    have set4 : TxSet P w h3 D (setL (xs.take (i + 1))) := by
      rw [List.take_add_one, hz]
      show TxSet P w h3 D (setL (xs.take i ++ [z]))
      rw [setL_snoc]
      exact set3
    refine wpAny_pure ⟨plainId_quiet F.plain_set_update_loop _, ih (i + 1) _ (by omega) lt (W.frame _ s2 _ _ st2 (Nat.le_succ _) fun b q ob e => ?_) set4 fun s5 mv5 set5 => ?_⟩
    · rw [sb.2 b (fun z : b = D => hD (by rw [← z]; exact q))]; exact e
    · refine out s5 (Moved.trans W.gtrans ((mv.mono wider).then_heap (Nat.le_succ _) fun b ob q e => ?_) mv5) set5
      rw [sb.2 b (fun z : b = D => q (by rw [z]; exact List.mem_cons_self))]; exact e
end
end Dw

namespace Dw
open PySem PySem.Spec PyProof.Rows L2 SX
section
variable {P : Program} {w : World} {A : Around} {E : Value → Shared → Prop} {s : Shared}
set_option maxHeartbeats 3200000 in
theorem call_set_txt {l : Addr} {its : Array Value} (xs : List Str) {Q : Value → Shared → Prop} (hh : A.handled = none) (hl : s.heap.IsList l its) (hi : StrsAre its.toList xs) (hb : xs.length + 1 < scanBound)
    (out : ∀ (h' : Heap) (tk : Nat), TxSet P w h' s.heap.objs.size (setL xs) → (∀ b u, s.heap.get? b = some u → h'.get? b = some u) → Q (.ref s.heap.objs.size) { s with heap := h', toks := tk }) :
    wpAny (model P w) A (call (.type "set") [.ref l]) Q E s := by
  have isz : its.size = xs.length := by
    have q := StrsAre.len_eq hi
    rw [Array.length_toList] at q
    exact q
  obtain ⟨cc, ctl, mro⟩ := F.called_set.mro
  have made := F.called_set.made
  have subs := F.called_set.sub
  refine wpAny_call (codeAny_of_tree ?_)
  show wpAny _ _ (callAny (.type "set") _) _ _ _
  refine wpAny_pure ⟨Code.quiet_builtin _ (by decide +kernel), codeAny_builtin F.entry_type_call ?_⟩
  rw [Around.under_plain (weight_type_call_type "set" [.ref l] []) rfl]
  have f1 := F.called_set.notType
  have f2 := F.called_set.canCreate
  have f3 := F.typeCall_set_1 (.ref l)
  repeat (any_goals (first | assumption | wp_step))

  refine codeAny_mono (code_set_led1 (.ref l) (E := E) (Q₁ := fun ob s1 => ob = .ref s.heap.objs.size ∧ s1 = { s with heap := s.heap.push (Obj.mk (Value.type "set") none (Data.set #[] 0 (SetTable.fresh 0 0 (!(World.params w).followText "set-order"))) #[]) }) ⟨rfl, rfl⟩) fun r s1 hr => ?_
  cases r with
  | error e => exact hr
  | ok fl =>
    cases fl with
    | ret ob =>
      obtain ⟨rfl, rfl⟩ := hr
      have gS : (s.heap.push (Obj.mk (Value.type "set") none (Data.set #[] 0 (SetTable.fresh 0 0 (!(World.params w).followText "set-order"))) #[])).get? s.heap.objs.size = some (Obj.mk (Value.type "set") none (Data.set #[] 0 (SetTable.fresh 0 0 (!(World.params w).followText "set-order"))) #[]) := Heap.get?_push_size _ rfl
      have tS : Shared.TypeIs { s with heap := s.heap.push (Obj.mk (Value.type "set") none (Data.set #[] 0 (SetTable.fresh 0 0 (!(World.params w).followText "set-order"))) #[]) } (.ref s.heap.objs.size) "set" := ⟨_, gS, rfl⟩
      have li := F.called_set.init.lookup
      have bi := F.called_set.init.bind (.ref s.heap.objs.size)
      repeat (any_goals (first | assumption | wp_step))

      refine codeAny_mono (codeAny_call_builtin (R := wants (fun r s2 => r = .none ∧ ∃ h' tk, s2 = { s with heap := h', toks := tk } ∧ TxSet P w h' s.heap.objs.size (setL xs) ∧
          (∀ b u, s.heap.get? b = some u → h'.get? b = some u)) E) F.called_set.init.plain F.entry_set_init (check_set_init_1 tS ?_)) fun r2 s2 hr2 => ?_
      · obtain ⟨ol, gl, cl, nl, dl⟩ := hl
        obtain ⟨ocls, odict, odata, oslots⟩ := ol
        simp only at cl dl
        subst cl; subst dl
        have gl2 : (s.heap.push (Obj.mk (Value.type "set") none (Data.set #[] 0 (SetTable.fresh 0 0 (!(World.params w).followText "set-order"))) #[])).get? l = some { cls := .type "list", dict := odict, data := .seq its nl, slots := oslots } := Heap.get?_push_of_some _ gl
        have x1 := F.sub_list_set
        have x2 := F.sub_list_frozenset
        have x3 : (Value.type "list" == Value.type "dict") = false := by decide
        have il : (s.heap.push (Obj.mk (Value.type "set") none (Data.set #[] 0 (SetTable.fresh 0 0 (!(World.params w).followText "set-order"))) #[])).IsList l its := ⟨_, gl2, rfl, nl, rfl⟩
        unfold Builtin.«set.__init__» noKeywords Builtin.Frozenset.updateFrom
        generalize hPI : pyIter = PI
        wp_walk
        subst hPI

        refine wpAny_pyIter_list il ?_
        refine wpAny_bind (wpAny_runValue ?_)
        have ll : l < s.heap.objs.size := Heap.lt_size gl
        have h3 : A.in1.in1.in1.handled = none := by simp [hh]
        have nI : l ≠ (s.heap.push (Obj.mk (Value.type "set") none (Data.set #[] 0 (SetTable.fresh 0 0 (!(World.params w).followText "set-order"))) #[])).objs.size := by
          rw [Heap.size_push]; exact Nat.ne_of_lt (Nat.lt_succ_of_lt ll)
        have nF : s.heap.objs.size ∉ [(s.heap.push (Obj.mk (Value.type "set") none (Data.set #[] 0 (SetTable.fresh 0 0 (!(World.params w).followText "set-order"))) #[])).objs.size, l] := by
          rw [Heap.size_push]; simp only [List.mem_cons, List.mem_singleton, List.not_mem_nil, or_false, not_or]
          exact ⟨Nat.ne_of_lt (Nat.lt_succ_self _), Nat.ne_of_gt ll⟩
        have hval : ∀ (i : Nat) (v : Value), its[i]? = some v → ∃ z u, xs[i]? = some z ∧ v = .str z u := fun i v hv => by
          obtain ⟨z, u, e1, e2⟩ := StrsAre.item hi i v (by rw [Array.getElem?_toList]; exact hv)
          exact ⟨z, u, e2, e1⟩
        refine tx_update ((Walks.list h3 _ l nI its).toS) s.heap.objs.size
          nF xs isz hb hval (its.size - 0) 0 _ (by omega) (Nat.zero_le _)
          ⟨⟨_, Heap.get?_push_size _ rfl, rfl, rfl⟩, (il.push _)⟩ ?hS0 ?hR
        case hS0 => exact tx_fresh (Heap.get?_push_of_some _ gS)
        case hR =>
          intro s' mv set
          obtain ⟨h', g2, d', tk', os'⟩ := s'
          obtain rfl : g2 = s.gens := mv.gens
          obtain rfl : d' = s.drawn := mv.drawn
          obtain rfl : os' = s.os := mv.os
          show wpAny _ _ _ _ _ _
          refine wpAny_pure ?_
          show wpAny _ _ (ret Value.none) _ _ _
          refine wpAny_pure ⟨rfl, h', tk', rfl, set, fun b u e => ?_⟩
          have lb : b < s.heap.objs.size := Heap.lt_size e
          have n1 : b ≠ s.heap.objs.size := Nat.ne_of_lt lb
          have n2 : b ≠ (s.heap.push (Obj.mk (Value.type "set") none (Data.set #[] 0 (SetTable.fresh 0 0 (!(World.params w).followText "set-order"))) #[])).objs.size := by
            rw [Heap.size_push]; exact Nat.ne_of_lt (Nat.lt_succ_of_lt lb)
          exact mv.heap b u (by simp only [List.mem_cons, List.mem_singleton, List.not_mem_nil, or_false, not_or]; exact ⟨n1, n2⟩) (Heap.get?_push_of_some _ (Heap.get?_push_of_some _ e))

      · cases r2 with
        | error e => exact hr2
        | ok fl2 =>
          cases fl2 with
          | ret r =>
            obtain ⟨rfl, h', tk, rfl, set, keep⟩ := hr2
            repeat (any_goals (first | assumption | wp_step))
            exact out _ _ set keep
          | _ => exact hr2.elim
    | _ => exact hr.elim
theorem strs_out : ∀ (l : List Value), (∀ v ∈ l, ∃ z u, v = Value.str z u) → StrsAre l (l.map strOf)
  | [], _ => .nil
  | v :: l, h => by
    obtain ⟨z, u, rfl⟩ := h v List.mem_cons_self
    exact .cons z u (strs_out l fun y hy => h y (List.mem_cons_of_mem _ hy))
theorem sorted_txt {a : Addr} {ks : List Str} {Q : Value → Shared → Prop} (R : TxSet P w s.heap a ks) (hh : A.handled = none) (h64 : ks.length < 64)
    (hQ : ∀ s' p (ys : List Str), (∀ b u, s.heap.get? b = some u → s'.heap.get? b = some u) → s'.gens = s.gens → s'.os = s.os → s.heap.objs.size ≤ p →
      (∃ (its : Array Value) (c : Nat), s'.heap.get? p = some (seqObj "list" its c) ∧ StrsAre its.toList ys) → ys.Perm ks → sortedS ys = true → Q (.ref p) s') :
    wpAny (model P w) A (call (.builtin "sorted") [.ref a]) Q E s := by
  obtain ⟨ob, xs, ep, tb, ho, hx, hd, g, pm, nd, hb, hf, hr, hl⟩ := R
  refine Calls.call_function_entry kind_sorted plain_sorted entry_sorted (args_sorted1 _) ?_
  unfold Builtin.«sorted»
  refine wpAny_bind (m := checkCount "sorted" 1 1 _) (wpAny_pure ?_)
  refine wpAny_bind (collect_set (A := A.in1) hh ⟨ob, ho, hx.1, hd⟩ hf hb hr hl fun s1 vs k1 hz g1 o1 pv => ?_)
  have hS : StrsAre vs (vs.map strOf) := strs_out vs fun v hv => by
    obtain ⟨e, he, q⟩ := List.mem_map.mp (pv.mem_iff.mp hv)
    obtain ⟨z, u, e1, _⟩ := g e he
    exact ⟨z, u, by rw [← q]; exact e1⟩
  have pk : (vs.map strOf).Perm ks := by
    have q := pv.map strOf
    rw [List.map_map] at q
    have e : xs.toList.map (strOf ∘ fun x => x.2) = xs.toList.map tkey := List.map_congr_left fun e he => by
      obtain ⟨z, u, e1, _⟩ := g e he
      show strOf e.2 = tkey e
      unfold tkey
      rw [e1]
      rfl
    exact (e ▸ q).trans pm
  have vl : vs.length < 64 := by
    have q := pk.length_eq
    rw [List.length_map] at q
    omega
  refine wpAny_bind (wpAny_newList ?_ (by rw [sizeLine_eq]; omega))
  have gL : (s1.heap.push (seqObj "list" vs.toArray 0)).get? s1.heap.objs.size = some (seqObj "list" vs.toArray 0) := Heap.get?_push_size _ rfl
  refine wpAny_bind (wpAny_holding (wpAny_call_entry slot_list_sort ⟨_, gL, rfl⟩ entry_list_sort (list_sort_treeK strKind_oneLt gL hS.keysOf (fun v1 v2 rest e => keyKind_strs (by rw [← e]; exact hS)) vl fun st hp hs => ⟨_, rfl, ?_⟩) (args_list_sort _)))
  obtain ⟨ys, y1, y2, y3⟩ := sorted_out_str hS hp hs
  obtain ⟨c, hc⟩ := sortedHeap_at (vs := vs) (out := (arrOf st).map (·.2)) gL
  refine wpAny_pure ⟨_, rfl, hQ _ s1.heap.objs.size ys (fun b u e => ?_) g1 o1 hz ⟨_, c, hc, y1⟩ (y2.trans pk) y3⟩
  have q := k1 b u e
  have lt := Heap.lt_size q
  show (sortedHeap (s1.heap.push (seqObj "list" vs.toArray 0)) s1.heap.objs.size vs _).get? b = some u
  rw [sortedHeap_old (Nat.ne_of_lt lt) (by rw [size_push']; exact Nat.lt_succ_of_lt lt)]
  exact Heap.get?_push_of_some _ q
end
/-- at a: a set of texts -/
def SetTx (P : Program) (w : World) (a : Addr) (ks : List Str) : HO := .ext fun h => TxSet P w h a ks
section
variable {X : Cx} (K : PySem.W.Frag)
theorem setTx_new {w : World} {P : Program} {H : Hp} {h : Heap} {a : Addr} {ks : List Str} (R : TxSet P w h a ks) : ObjOk P w H h a (SetTx P w a ks) := by
  have ⟨ob, _, _, _, ho, _⟩ := R
  exact ⟨R, ⟨ob, ho⟩, fun h1 h2 p k => TxSet.at p k⟩
/-- set(a list of texts) -/
def rSetL (K : PySem.W.Frag) (P : Program) (w : World) : List V → Hp → VK → Prop := fun vs H Q => ∃ (l : Addr) (zs : List Str), vs = [.ref l] ∧ SqL K H l (zs.map V.str) ∧ zs.length ≤ 1000 ∧ ∀ p, H p = none → Q (.ref p) (upd H p (SetTx P w p (setL zs)))
theorem setOfL (hc : X.calm = true) (hK : X.K = K := by rfl) : CallR X (.type "set") (rSetL K X.prog X.w) := by
  subst hK
  intro pins s σ H vs us Q I r h
  obtain ⟨l, zs, rfl, hl, hz, q⟩ := h
  obtain ⟨its, rv, il, _⟩ := I.list hl
  rw [Vals.ref1 r]
  refine call_set_txt zs (I.ok.hd hc) il.isList rv.strs (by unfold scanBound; omega) fun h' tk set keep => ?_
  exact ⟨.ref _, _, I.laid (t' := tk) keep (Nat.le_refl _) (setTx_new set), rfl, q _ (I.hok.fresh (Nat.le_refl _))⟩
/-- sorted(a set of texts) -/
def rSortT (P : Program) (w : World) : List V → Hp → VK → Prop := fun vs H Q => ∃ (a : Addr) (ks : List Str), vs = [.ref a] ∧ H a = some (SetTx P w a ks) ∧ ks.length < 64 ∧ ∀ (ys : List Str) (p : Addr), ys.Perm ks → sortedS ys = true → H p = none → Q (.ref p) (upd H p (.lst (ys.map V.str)))
theorem sortT (hc : X.calm = true) : CallR X (.builtin "sorted") (rSortT X.prog X.w) := by
  intro pins s σ H vs us Q I r h
  obtain ⟨a, ks, rfl, ha, h64, q⟩ := h
  rw [Vals.ref1 r]
  refine sorted_txt ((I.hok a _ ha).1 : TxSet X.prog X.w s.heap a ks) (I.ok.hd hc) h64 fun s' p ys keep g o hp hg pm so => ?_
  obtain ⟨its, c, hg, hi⟩ := hg
  have len : (ys.map V.str).length ≤ sizeLine := by rw [List.length_map, pm.length_eq]; exact small (by omega)
  have free : H p = none := I.hok.fresh hp
  have J : Inv X pins σ (upd H p (.lst (ys.map V.str))) { s with heap := s'.heap, gens := s'.gens, drawn := s'.drawn, toks := s'.toks } :=
    I.call (ch := []) (Un.laid keep hp free) (I.hok.laid keep hp ⟨len, its.toList, c, vals_of_strs hi, hg⟩) (by rw [g]; exact I.bare) (fun _ z => nomatch z)
  have e : s' = { s with heap := s'.heap, gens := s'.gens, drawn := s'.drawn, toks := s'.toks } := by
    cases s'
    cases s
    cases o
    rfl
  rw [e]
  exact ⟨.ref p, _, J, rfl, q ys p pm so free⟩
end
end Dw

namespace Dw
open PySem PySem.Spec PyProof.Rows L2
/-! try with several clauses, each with a name: «except A as e: .. except B as e: ..» -/
abbrev Clause := Value × Nat × (Addr → Value → Option Addr → TS)
/-- the ends of a suite whose name is unbound behind it -/
def unb (i : Nat) (D : Ends) : Ends := { nx := fun σ H => D.nx (σ.set i none) H, rt := D.rt, bk := fun σ H => D.bk (σ.set i none) H, ct := fun σ H => D.ct (σ.set i none) H }
def wNamed (K : PySem.W.Frag) (Wo : WX) (D : Ends) : List Clause → WX
  | [] => Wo
  | (c, i, ts) :: rest => fun cls d σ H => ∃ b, PySem.W.exmOne K cls c = some b ∧
      (b = true → ∀ a, H a = none → ts a cls d (unb i D) (σ.set i (some (.ref a))) H) ∧ (b = false → wNamed K Wo D rest cls d σ H)
inductive Named (X : Cx) : List ExceptHandler → List Clause → Prop
  | none : Named X [] []
  | more {x n : Str} {c : Value} {i : Nat} {ts : Addr → Value → Option Addr → TS} {st : Stmt} {sts : List Stmt} {p p' : Pos} {hs : List ExceptHandler} {l : List Clause}
      (nm : Names X x c) (at_i : X.N[i]? = some n) (loc : X.env.kindOf n = some .local)
      (su : ∀ (a : Addr) (oe : Obj) (cls : Value) (d : Option Addr) (pn : List (Addr × Obj)), Zc cls d oe → (∃ vs, oe.data = .fields vs) → PSs (X.suite a ((a, oe) :: pn)) (st :: sts) (ts a cls d))
      (rest : Named X hs l) : Named X (.ExceptHandler (some (.Name x p)) (some n) (st :: sts) p' :: hs) ((c, i, ts) :: l)
section
variable {X : Cx} {D : Ends} {Wo : WX}
/-- what the catching frame knows of the exception at a -/
structure Got (X : Cx) (pins : List (Addr × Obj)) (σ : L2.St) (H : Hp) (a : Addr) (cls : Value) (d : Option Addr) (B : Heap) (sI s' : Shared) (h : Heap) : Prop where
  J : Inv X pins σ H sI
  nb : ∀ b o, sI.heap.get? b = some o → b ∉ frs X.stack → B.get? b = some o
  up : sI.heap.UpToSlots h
  fl : HandSPX.FlyingZ B (X.env :: X.outer) a (Zc cls d) h
  na : H a = none
  os : s'.os = sI.os
  ag : AllBare s'.gens
  nL : a ≠ X.env.locals
  nF : a ∉ X.fs
theorem named_run {pins : List (Addr × Obj)} {σ : L2.St} {H : Hp} {a : Addr} {cls : Value} {d : Option Addr} {B : Heap} {sI s' : Shared} {h : Heap}
    (hst : X.stack = X.env :: X.outer) (hfm : X.env.frame = some X.env.locals) (hN : X.N.Nodup) (tk : Takes X Wo) (ok : X.Ok)
    (G : Got X pins σ H a cls d B sI s' h) : ∀ {hs : List ExceptHandler} {l : List Clause}, Named X hs l → wNamed X.K Wo D l cls d σ H →
    wpAny (model X.prog X.w) X.A (handleBy (.ref a) X.env hs) (SP X pins D) X.xe { s' with heap := h } := by
  intro hs l nmd
  have J3 : Inv X pins σ H { s' with heap := h } := G.J.landed G.nb G.fl.1 G.up G.os G.ag
  induction nmd with
  | none =>
    intro w
    refine wpAny_handleBy_nil ?_
    obtain ⟨_, _, _, oe, vs, T, oT, us, he, hz, hd, h1, _⟩ := id G.fl
    unfold PySem.passOn
    have nz : ¬ ((Value.ref T == Value.none) = true) := by simp
    have out : wpAny (model X.prog X.w) X.A (setFlight (.ref a) X.env.frame)
        (fun _ s4 => wpAny (model X.prog X.w) X.A (throw (.ref a) : Sem Flow) (SP X pins D) X.xe s4) X.xe { s' with heap := h } := by
      rw [hfm]
      refine HandSPX.setFlight_upZ G.fl fun h4 held up4 => wpAny_throw (tk _ _ ?_)
      have sky : Sky B X.stack a (Zc cls d) X.env.locals h4 := .inr (.inr (by rw [hst]; exact held))
      exact ⟨a, B, sI, pins, σ, H, cls, d, rfl, G.J, G.nb, G.up.trans up4, sky, G.na, G.os, G.ag, w⟩
    refine wpAny_bind (wpAny_field he hd h1 ?_)
    rw [if_neg nz]
    first | exact wpAny_bind (wpAny_pure (wpAny_bind out)) | exact wpAny_bind out
  | @more x n c i ts st sts p p' hs2 l2 nm at_i loc su rest ih =>
    rintro ⟨b, hb, yes, no⟩
    obtain ⟨oe, vs, he, hz, hd⟩ := G.fl.there
    have S3 := J3.suite he hd G.na G.nL G.nF
    have typ : PySem.W.Looks (model X.prog X.w) h (typeOf (.ref a)) cls := fun A Q E s k q => wpAny_typeOf_ref (k _ _ he) (by rw [hz.1]; exact q)
    have look := PySem.W.exm_one (M := model X.prog X.w) J3.kIn typ hb
    refine wpAny_handleBy_cons (codeAny_handlers_test ?_) (by intro q; cases q)
    have name : ∀ {Q : Value → Shared → Prop} {E : Value → Shared → Prop}, Q c { s' with heap := h } →
        wpAny (model X.prog X.w) (X.A.mark (some (.ref a))) (eval (.Name x p) X.env) Q E { s' with heap := h } := by
      intro Q E q
      obtain ⟨g1, g2, g3 | ⟨g3, g4, g5⟩⟩ := nm
      · exact ld_glob (X := X.suite a ((a, oe) :: (X.pn ++ pins))) S3 g1 g3 q g2
      · exact ld_blt (X := X.suite a ((a, oe) :: (X.pn ++ pins))) S3 g1 g3 g4 q g5 g2
    refine name (look.here ?_)
    cases b with
    | false =>
      show wpAny _ X.A (handleBy (.ref a) X.env hs2) _ _ _
      exact ih (no rfl)
    | true =>
      refine codeAny_handlers_suite_as (HandSPX.lands_againZ G.fl fun h4 fl4 up4 => ?_)
      have J4 : Inv X pins σ H { s' with heap := h4 } := G.J.landed G.nb fl4.1 (G.up.trans up4) G.os G.ag
      obtain ⟨oe4, vs4, he4, hz4, hd4⟩ := fl4.there
      have S4 := J4.suite he4 hd4 G.na G.nL G.nF
      refine store_ok (X := X.suite a ((a, oe4) :: (X.pn ++ pins))) (v := .ref a) S4 hN at_i (.inl loc) rfl (fun s5 S5 => ?_) (.inr loc)
      refine wpAny_mono ((su a oe4 cls d (X.pn ++ pins) hz4 ⟨_, hd4⟩).run [] s5 _ H (unb i D) S5 (yes rfl a G.na)) (fun f s6 done => ?_) (fun _ _ z => False.elim z)
      have behind : ∀ {σ6 : L2.St} {H6 : Hp} {Q : Shared → Prop}, Inv (X.suite a ((a, oe4) :: (X.pn ++ pins))) [] σ6 H6 s6 → (∀ s7, Inv X pins (σ6.set i none) H6 s7 → Q s7) →
          wpAny (model X.prog X.w) X.A (do bindName X.env n .none; unbindBehindTheSuite X.env n p') (fun _ s7 => Q s7) X.xe s6 :=
        fun {σ6 H6 Q} S6 hq => gone_ok (S6.unsuite ok) hN at_i loc hq
      cases f with
      | ret u => obtain ⟨v6, σ6, H6, S6, r6, q6⟩ := done; exact behind S6 fun s7 J7 => ⟨_, _, _, J7, r6, q6⟩
      | next => obtain ⟨σ6, H6, S6, q6⟩ := done; exact behind S6 fun s7 J7 => ⟨_, _, J7, q6⟩
      | brk => obtain ⟨σ6, H6, S6, q6⟩ := done; exact behind S6 fun s7 J7 => ⟨_, _, J7, q6⟩
      | cont => obtain ⟨σ6, H6, S6, q6⟩ := done; exact behind S6 fun s7 J7 => ⟨_, _, J7, q6⟩
variable {body : List Stmt} {hd0 : ExceptHandler} {hds : List ExceptHandler} {l : List Clause} {pos : Pos} {tb : WX → TS}
theorem ps_try_named (hst : X.stack = X.env :: X.outer) (hfm : X.env.frame = some X.env.locals) (hN : X.N.Nodup) (tk : Takes X Wo)
    (hb : ∀ (W : WX) (pn : List (Addr × Obj)) (xe : Value → Shared → Prop), Takes (X.tr pn xe) W → PassesOwn (model X.prog X.w) X.A X.env xe → PSs (X.tr pn xe) body (tb W))
    (hh : Named X (hd0 :: hds) l) : PS X (.Try body (hd0 :: hds) [] [] pos) (fun D σ H => tb (wNamed X.K Wo D l) D σ H) := by
  refine ⟨fun pins s σ H D I q0 => wpAny_Try_except ?_⟩
  have ok := I.ok
  have hfr : X.A.frames = some (X.env :: X.outer) := by rw [ok.frames, hst]
  let xe : Value → Shared → Prop := fun e s₁ => wpAny (model X.prog X.w) X.A (noteFrame e X.env)
    (fun _ s₂ => wpAny (model X.prog X.w) X.A (setFlight e none) (fun _ s₃ => wpAny (model X.prog X.w) X.A (handleBy e X.env (hd0 :: hds)) (SP X pins D) X.xe s₃) X.xe s₂) X.xe s₁
  have takes : Takes (X.tr (X.pn ++ pins) xe) (wNamed X.K Wo D l) := by
    rintro u s' ⟨a, B, sI, pins', σ', H', cls, d, rfl, J', nb, up, sky, na, os, ag, w⟩
    have J : Inv X pins σ' H' sI := J'.ofTry ok
    have sky' : Sky B (X.env :: X.outer) a (Zc cls d) X.env.locals s'.heap := by rw [← hst]; exact sky
    show wpAny (model X.prog X.w) X.A (noteFrame (.ref a) X.env) _ _ _
    refine Sky.land Zc.steady hfr hfm sky' fun h3 fl3 up3 => ?_
    obtain ⟨oe3, vs3, he3, _, hd3⟩ := fl3.there
    have far : a ∉ frs (X.env :: X.outer) := fun hm => by
      obtain ⟨_, o', e', hnf⟩ := fl3.2.2.1.mem hm
      rw [he3] at e'
      cases e'
      exact hnf _ hd3
    refine named_run hst hfm hN tk ok ⟨J, nb, up.trans up3, fl3, na, os, ag, fun z => ?_, fun hm => ?_⟩ hh w
    · exact far (List.mem_filterMap.mpr ⟨X.env, List.mem_cons_self, by rw [hfm, z]⟩)
    · obtain ⟨e, he, q⟩ := List.mem_filterMap.mp hm
      exact far (List.mem_filterMap.mpr ⟨e, List.mem_cons_of_mem _ he, q⟩)
  refine wpAny_mono ((hb _ (X.pn ++ pins) xe takes PassesOwn.looking).run [] s σ H D (I.toTry _) q0) (fun f s1 done => ?_) (fun _ _ z => z)
  cases f with
  | ret u => obtain ⟨v, σ', H', J', r, q⟩ := done; exact ⟨v, σ', H', J'.ofTry ok, r, q⟩
  | next => obtain ⟨σ', H', J', q⟩ := done; exact wpAny_execs_nil ⟨σ', H', J'.ofTry ok, q⟩
  | brk => obtain ⟨σ', H', J', q⟩ := done; exact ⟨σ', H', J'.ofTry ok, q⟩
  | cont => obtain ⟨σ', H', J', q⟩ := done; exact ⟨σ', H', J'.ofTry ok, q⟩
end
end Dw

namespace Dw
open PySem PySem.Spec PyProof.Rows L2 SX
/-! own exceptions with one field -/
def sp_init (C : Addr) (f : Str) : Sp := fun vs H Q _ => ∃ (a : Addr) (v : V), vs = [.ref a, v] ∧ H a = some (exo a C none) ∧ ∀ dx, H dx = none → dx ≠ a → Q .non (upd (upd H dx (exd dx [(f, v)])) a (exo a C (some dx)))
/-- a class of own exceptions whose __init__ stores its one argument -/
structure ExF (P : Program) (w : World) (K : PySem.W.Frag) (mg : Str → Option Value) (base : Heap) (x : Str) (C : Addr) (f : Str) : Prop where
  T : OexC K C
  g : mg x = some (.ref C)
  xf : XfC K C
  nof : PySem.W.findIn K (.ref C) f = some none
  ini : ∃ (fI : Addr) (fd : FuncData), PySem.W.findIn K (.ref C) "__init__" = some (some (.ref fI)) ∧ PySem.W.typeIn K (.ref fI) = some (.type "function") ∧ FnOk P w K mg base C8.CX0 1 fI fd ["self", f] (sp_init C f) ∧ Binds K fd ["self", f] []
section
variable {X : Cx} {x f : Str} {C : Addr} {k : Nat} {e : Expr} {ta : TA} {p pos : Pos}
theorem pmk_ex (F : ExF X.prog X.w X.K X.mg X.base x C f) (hr : Room k X.A) (hk : 2 ≤ k) (hg : Gl X x) (ha : PA X [e] ta)
    (hdb : (x == ("__debug__" : Str)) = false := by decide) (he : starEach (e :: []) X.env = (false, eval e X.env) :: starEach [] X.env := by rfl) (hpl : (backTo pos (starEach [] X.env)).any (·.1) = false := by rfl) :
    PMk X (.Call (.Name x p) [e] [] pos) (tMkO C (sp_init C f) [] ta) := by
  obtain ⟨fI, fd, h1, h2, h3, h4⟩ := F.ini
  exact pmk_oex F.T h1 h2 h3 (hr.mono hk) h4 .nil C8.pass0 hg F.g ha hdb he hpl
end
theorem raise_ok {C : Addr} {f : Str} {v : V} {H : Hp} {E : XK} (ok : ∀ d H', Same H H' → H d = none → H' d = some (.xd [(f, v)]) → E (.ref C) (some d) H') {a : Addr} (ha : H a = none) :
    sp_init C f [.ref a, v] (upd H a (exo a C none)) (fun v H2 => v = .non ∧ ∃ (d : Addr) (fs : List (Str × V)), H2 a = some (exo a C (some d)) ∧ H2 d = some (exd d fs) ∧ H d = none ∧ E (.ref C) (some d) (upd (del H2 a) d (.xd fs))) (fun _ _ _ => False) := by
  refine ⟨a, v, rfl, upd_same, fun dx hd hne => ⟨rfl, dx, [(f, v)], upd_same, ?_, ?_, ?_⟩⟩
  · rw [upd_ne hne, upd_same]
  · rw [upd_ne hne] at hd
    exact hd
  · have hd0 : H dx = none := by
      rw [upd_ne hne] at hd
      exact hd
    refine ok dx _ (fun b o hb => ?_) hd0 upd_same
    have h1 : b ≠ dx := ne_of_none hb hd0
    have h2 : b ≠ a := ne_of_none hb ha
    rw [upd_ne h1, del_ne h2, upd_ne h2, upd_ne h1, upd_ne h2]
    exact hb
theorem exm_of {K : PySem.W.Frag} {S C : Addr} {b : Bool} (h1 : PySem.W.subIn K (.ref C) (.type "BaseException") = some true) (h2 : PySem.W.isClsIn K C = true) (h3 : PySem.W.typeIn K (.ref C) = some (.type "type")) (h4 : PySem.W.subIn K (.ref S) (.ref C) = some b) :
    PySem.W.exmOne K (.ref S) (.ref C) = some b := by
  have e1 : (PySem.W.subIn K (.ref C) (.type "BaseException") == some true) = true := by rw [h1]; rfl
  have h2' : (PySem.W.clsIn K C).isSome = true := h2
  have e2 : ((PySem.W.clsIn K C).isSome && PySem.W.typeIn K (.ref C) == some (.type "type")) = true := by
    rw [h2', h3]; rfl
  unfold PySem.W.exmOne
  rw [if_pos e1]
  unfold PySem.W.kitCls
  first
    | rw [if_pos e2, h4]
    | simp only [e2, h4, if_true]
/-! defs that may raise -/
structure CalX (P : Program) (w : World) (K : PySem.W.Frag) (mg : Str → Option Value) (base : Heap) (k : Nat) (x : Str) (sp : Sp) : Prop where
  ex : ∃ (f : Addr) (fd : FuncData) (ps : List Str), FnOk P w K mg base (L2.CX P w) k f fd ps sp ∧ mg x = some (.ref f) ∧ PySem.W.keepIn K (.ref f) = true ∧ Binds K fd ps []
section
variable {P : Program} {w : World} {K : PySem.W.Frag} {mg : Str → Option Value} {base : Heap}
theorem calX0 {x : Str} {st : Stmt} {f : Addr} {fd : FuncData} {N ps : List Str} {k : Nat} {sp : Sp} (F : C8.Def K mg x st f fd) (b : Binds K fd ps []) (S : FnScope N ps (C8.fnScope st)) (len : ∀ vs H Q E, sp vs H Q E → vs.length = ps.length)
    (hbody : ∀ (cdv : Value) (A : Around) (outer : List Env) (s : Shared) (H : Hp) (vs : List V) (Q : VK) (E : XK), Room k (A.deeper (envOfC x (C8.fnScope st) s.heap.objs.size f cdv)) → sp vs H Q E →
      ∃ t, PSs (cxOf (L2.CX P w) P w K mg base N x (C8.fnScope st) f cdv A outer s H E) (C8.fnBody st) t ∧ t { nx := fun _ H' => Q .non H', rt := Q } (start N vs) H) : CalX P w K mg base (k + 1) x sp := by
  refine ⟨f, fd, ps, ?_, F.mgf, F.kp, b⟩
  obtain ⟨oc, od, dV, kV, doc, pm, an, cdv, ct, osl, rfl, lk, hcd⟩ := F.fn.ex
  exact fn_of lk hcd S len fun A outer s H vs Q E hr hsp => hbody cdv A outer s H vs Q E hr hsp
end
section
variable {X : Cx} {k j : Nat} {x : Str} {sp : Sp} {p pos : Pos} {e : Expr} {es : List Expr} {t : TA}
/-- its call in a def that lets the same out -/
theorem pe_cx {E : XK} (c : CalX X.prog X.w X.K X.mg X.base k x sp) (hr : Room j X.A) (hk : k ≤ j) (hx : Passes (L2.CX X.prog X.w) X E) (hg : Gl X x) (ha : PA X (e :: es) t)
    (hdb : (x == ("__debug__" : Str)) = false := by decide) (he : starEach (e :: es) X.env = (false, eval e X.env) :: starEach es X.env := by rfl) (hpl : (backTo pos (starEach es X.env)).any (·.1) = false := by rfl) :
    PE X (.Call (.Name x p) (e :: es) [] pos) (tCall sp [] E t) := by
  obtain ⟨f, fd, ps, F, hm, kp, b⟩ := c.ex
  exact pe_call F (hr.mono hk) hg hm kp b .nil hx ha hdb he hpl
/-- its call in a try -/
theorem pe_cs {W : WX} (c : CalX X.prog X.w X.K X.mg X.base k x sp) (hr : Room j X.A) (hk : k ≤ j) (tk : Takes X W) (hg : Gl X x) (ha : PA X (e :: es) t)
    (hdb : (x == ("__debug__" : Str)) = false := by decide) (he : starEach (e :: es) X.env = (false, eval e X.env) :: starEach es X.env := by rfl) (hpl : (backTo pos (starEach es X.env)).any (·.1) = false := by rfl) :
    PE X (.Call (.Name x p) (e :: es) [] pos) (tCallS sp (WE W) t) := by
  obtain ⟨f, fd, ps, F, hm, kp, b⟩ := c.ex
  exact pe_callS F (hr.mono hk) hg hm kp b (fun σ => passAt tk σ) ha hdb he hpl
end
end Dw
namespace Dw
open PySem PySem.Spec PyProof.Rows L2 SX
/-- an own error of class C with this field is let out -/
def Rz (C : Addr) (f : Str) (v : V) (H : Hp) (E : XK) : Prop := ∀ d H', Same H H' → H d = none → H' d = some (.xd [(f, v)]) → E (.ref C) (some d) H'
theorem Rz.same {C : Addr} {f : Str} {v : V} {H H1 : Hp} {E : XK} (h : Rz C f v H E) (e : Same H H1) : Rz C f v H1 E := fun d H' s n x => h d H' (e.trans s) (e.free n) x
theorem raise_rz {C : Addr} {f : Str} {v : V} {H : Hp} {E : XK} (ok : Rz C f v H E) {a : Addr} (ha : H a = none) :
    sp_init C f [.ref a, v] (upd H a (exo a C none)) (fun v H2 => v = .non ∧ ∃ d : Addr, H2 a = some (exo a C (some d)) ∧ ∃ fs : List (Str × V), H2 d = some (exd d fs) ∧ H d = none ∧ E (.ref C) (some d) (upd (del H2 a) d (.xd fs))) (fun _ _ _ => False) := by
  obtain ⟨a1, v1, h1, h2, h3⟩ := raise_ok ok ha
  refine ⟨a1, v1, h1, h2, fun dx hd hne => ?_⟩
  obtain ⟨h4, d, fs, h5, h6, h7, h8⟩ := h3 dx hd hne
  exact ⟨h4, d, h5, fs, h6, h7, h8⟩
theorem hdIn_app {ch a b : List Nat} (h : hdIn ch a = true) : hdIn ch (a ++ b) = true := by
  cases a with
  | nil => cases h
  | cons c r => exact h
theorem hdIn_no {ch ch' a b : List Nat} (h : hdIn ch a = true) (d : ∀ c ∈ ch, c ∉ ch') : hdIn ch' (a ++ b) = false := by
  cases a with
  | nil => cases h
  | cons c r => exact decide_eq_false (d c (of_decide_eq_true h))
end Dw
namespace Dw
open PySem PySem.Spec PyProof.Rows L2 SX
theorem badc_ok : ∀ c ∈ BADC, c ∉ LOW ∧ c ∉ UPP ∧ c ∉ DIG ∧ c ≠ 32 ∧ c ≠ 10 ∧ ∀ s ∈ SGN, s.head? = some c → s = [33, 61] := by decide +kernel
theorem ul_no : ∀ c ∈ UPP, c ∉ LOW ++ DIG := by decide +kernel
theorem lu_no : ∀ c ∈ LOW, c ∉ UPP ++ DIG := by decide +kernel
theorem lud_no : ∀ c ∈ LOW ++ UPP, c ∉ DIG := by decide +kernel
theorem bad_hd {l : List Nat} (h : Bad l) : ∃ c r, l = c :: r ∧ c ≠ 32 ∧ c ≠ 10 := by
  have pick : ∀ {ch a : List Nat}, hdIn ch a = true → ∃ c r, a = c :: r ∧ c ∈ ch := fun {ch a} h => by
    cases a with
    | nil => cases h
    | cons c r => exact ⟨c, r, rfl, of_decide_eq_true h⟩
  cases h with
  | char h => exact ⟨_, [], rfl, (badc_ok _ h).2.2.2.1, (badc_ok _ h).2.2.2.2.1⟩
  | longN h0 h1 h2 h3 => obtain ⟨c, r, e, hc⟩ := pick h0; exact ⟨c, r, e, low_ok c hc⟩
  | longW h0 h1 h2 h3 => obtain ⟨c, r, e, hc⟩ := pick h0; exact ⟨c, r, e, (upp_ok c hc).2⟩
  | mixN h0 h1 h2 h3 h4 h5 => obtain ⟨c, r, e, hc⟩ := pick h0; exact ⟨c, _, by rw [e]; rfl, low_ok c hc⟩
  | mixW h0 h1 h2 h3 h4 h5 => obtain ⟨c, r, e, hc⟩ := pick h0; exact ⟨c, _, by rw [e]; rfl, (upp_ok c hc).2⟩
  | zeros h0 h1 h2 h3 =>
    cases l with
    | nil => cases h0
    | cons c r => exact ⟨c, r, rfl, (dig_ok c (h1 c List.mem_cons_self)).2.2⟩
  | big h0 h1 h2 n h3 h4 =>
    obtain ⟨c, r, e⟩ := cons_of h0
    exact ⟨c, r, e, (dig_ok c (h1 c (by rw [e]; exact List.mem_cons_self))).2.2⟩
  | letr h0 h1 h2 h3 h4 h5 =>
    obtain ⟨c, r, e⟩ := cons_of h0
    exact ⟨c, _, by rw [e]; rfl, (dig_ok c (h1 c (by rw [e]; exact List.mem_cons_self))).2.2⟩
theorem bad_len {l : List Nat} (h : Bad l) : l.length ≤ 30 := by
  cases h with
  | char h => exact (show 1 ≤ 30 by decide)
  | longN h0 h1 h2 h3 => omega
  | longW h0 h1 h2 h3 => omega
  | mixN h0 h1 h2 h3 h4 h5 => rw [List.length_append]; omega
  | mixW h0 h1 h2 h3 h4 h5 => rw [List.length_append]; omega
  | zeros h0 h1 h2 h3 => exact h3
  | big h0 h1 h2 n h3 h4 => exact h2
  | letr h0 h1 h2 h3 h4 h5 => rw [List.length_append]; omega
theorem char_no {c : Nat} {rest : List Nat} (h : c ∈ BADC) (h61 : hdIn [61] rest = false) : ∀ s ∈ SGN, pfx s ([c] ++ rest) = false := by
  intro s hs
  cases hp : pfx s ([c] ++ rest) with
  | false => rfl
  | true =>
    exfalso
    obtain ⟨r, hr⟩ := pfx_iff.mp hp
    obtain ⟨c', s', e⟩ := cons_of (sgn_ok s hs).1
    rw [e] at hr
    have hc : c = c' := (List.cons.inj hr).1
    have := (badc_ok c h).2.2.2.2.2 s hs (by rw [e, hc]; rfl)
    rw [this] at e
    obtain ⟨e1, e2⟩ := List.cons.inj e
    have h2 : rest = s' ++ r := (List.cons.inj hr).2
    rw [← e2] at h2
    rw [h2] at h61
    have h3 : hdIn [61] ([61] ++ r) = true := by
      show decide (61 ∈ [61]) = true
      decide
    rw [h3] at h61
    cases h61
end Dw
namespace Dw
open PySem PySem.Spec PyProof.Rows L2 SX
def GoodsT (tl : List Nat) : List Itm → Prop
  | [] => True
  | x :: r => Piece x.l x.k x.v ∧ Blank x.sp ∧ After x.l (x.sp ++ (iflat r ++ tl)) ∧ GoodsT tl r
theorem GoodsT.append {tl : List Nat} : ∀ {a b : List Itm}, GoodsT tl (a ++ b) → GoodsT tl b
  | [], _, h => h
  | _ :: a, _, h => GoodsT.append (a := a) h.2.2.2
end Dw

namespace Dw
open PySem PySem.Spec PyProof.Rows L2 SX
theorem fold_rep (c : Nat) : ∀ (n : Nat) (a : Array Nat), (List.replicate n #[c]).foldl (· ++ ·) a = a ++ (List.replicate n c).toArray
  | 0, a => by simp
  | n + 1, a => by
    rw [List.replicate_succ, List.foldl_cons, fold_rep c n, List.replicate_succ, Array.append_assoc]
    congr 1
    simp
theorem mul_S (c n : Nat) : Txt.mul (S [c]) ((n : Nat) : Int) = S (List.replicate n c) := by
  unfold Txt.mul
  by_cases h : n = 0
  · subst h
    rfl
  · rw [if_neg (by omega)]
    by_cases h1 : n = 1
    · subst h1
      rfl
    · have e : (((n : Nat) : Int) == 1 || (S [c]).length == 0) = false := by
        rw [len_S]
        simp
        omega
      rw [if_neg (by rw [e]; exact Bool.false_ne_true), Int.toNat_natCast]
      show (⟨(List.replicate n #[c]).foldl (· ++ ·) #[]⟩ : Str) = ⟨(List.replicate n c).toArray⟩
      rw [fold_rep]
      simp
theorem mulOk_S (c n : Nat) (h : n ≤ 10000) : MulOk (S [c]) ((n : Nat) : Int) := mulOk_of 1 10000 (by rw [len_S]; exact Nat.le_refl 1) (by omega) (by omega) (by decide) (by decide)
theorem num_eq (n : Nat) : num n = TL.numL n := TL.tl_num n
theorem dig_in : ∀ c : Nat, 48 ≤ c → c ≤ 57 → c ∈ DIG := by
  intro c h1 h2
  have : ∀ k : Fin 10, 48 + k.val ∈ DIG := by decide +kernel
  have := this ⟨c - 48, by omega⟩
  rw [show 48 + (c - 48) = c by omega] at this
  exact this
theorem num_big {n : Nat} (h : n < 10 ^ 9) : num n ≠ [] ∧ (∀ c ∈ num n, c ∈ DIG) ∧ (num n).length ≤ 9 ∧ intText? (S (num n)) = some (n : Int) := by
  have h1 : (TL.numL n).length ≤ 9 := TL.numL_len (by decide) h
  refine ⟨?_, ?_, ?_, ?_⟩
  · rw [num_eq]; exact TL.numL_ne n
  · intro c hc
    rw [num_eq] at hc
    have := TL.numL_digits n c hc
    exact dig_in c this.1 this.2
  · rw [num_eq]; exact h1
  · rw [num_eq, ← num_S]
    exact TL.int_num (by omega)
theorem log_small {n : Nat} (h : n < 10 ^ 9) : ((n : Nat) : Int).natAbs.log2 < 1920 := by
  rw [Int.natAbs_natCast]
  by_cases h0 : n = 0
  · subst h0; decide
  · exact Nat.lt_of_lt_of_le ((Nat.log2_lt h0).mpr (show n < 2 ^ 30 by omega)) (by decide)
theorem lu_up : ∀ s ∈ ["a", "x9", "Z", "all"], hdIn (LOW ++ UPP) (cs s) = true ∧ (cs s).length ≤ 10 ∧ ∀ c ∈ cs s, isAN c = true := by decide +kernel
theorem mixed_bad : Bad (cs "aB") ∧ Bad (cs "Ab") ∧ Bad (cs "x1Y") ∧ Bad (cs "TX0y") := by
  refine ⟨.mixN (a := cs "a") (b := cs "B") ?_ ?_ ?_ ?_ ?_ ?_, .mixW (a := cs "A") (b := cs "b") ?_ ?_ ?_ ?_ ?_ ?_, .mixN (a := cs "x1") (b := cs "Y") ?_ ?_ ?_ ?_ ?_ ?_, .mixW (a := cs "TX0") (b := cs "y") ?_ ?_ ?_ ?_ ?_ ?_⟩ <;> decide +kernel
theorem long_bad {k : Nat} (h1 : 12 ≤ k) (h2 : k ≤ 16) : Bad (cs "a" ++ List.replicate k 57) ∧ Bad (cs "Z" ++ List.replicate k 57) := by
  have e1 : cs "a" = [97] := by decide +kernel
  have e2 : cs "Z" = [90] := by decide +kernel
  rw [e1, e2]
  have a1 : (97 : Nat) ∈ LOW := by decide +kernel
  have a2 : (90 : Nat) ∈ UPP := by decide +kernel
  refine ⟨.longN (show decide ((97 : Nat) ∈ LOW) = true from decide_eq_true a1) ?_ ?_ ?_, .longW (show decide ((90 : Nat) ∈ UPP) = true from decide_eq_true a2) ?_ ?_ ?_⟩
  · intro c hc
    rcases List.mem_cons.mp hc with e | e
    · rw [e]; decide +kernel
    · rw [(List.mem_replicate.mp e).2]; decide +kernel
  · simp; omega
  · simp; omega
  · intro c hc
    rcases List.mem_cons.mp hc with e | e
    · rw [e]; decide +kernel
    · rw [(List.mem_replicate.mp e).2]; decide +kernel
  · simp; omega
  · simp; omega
theorem zeros_bad {k n : Nat} (h1 : 1 ≤ k) (h2 : k ≤ 3) (hn : n < 10 ^ 9) : Bad (List.replicate k 48 ++ num n) := by
  obtain ⟨n1, n2, n3, _⟩ := num_big hn
  have hp : 0 < (num n).length := List.length_pos_iff.mpr n1
  refine .zeros ?_ ?_ ?_ ?_
  · obtain ⟨k', rfl⟩ : ∃ k', k = k' + 1 := ⟨k - 1, by omega⟩
    rfl
  · intro c hc
    rcases List.mem_append.mp hc with e | e
    · rw [(List.mem_replicate.mp e).2]; decide +kernel
    · exact n2 c e
  · rw [List.length_append, List.length_replicate]; omega
  · rw [List.length_append, List.length_replicate]; omega
theorem big_bad {n : Nat} (h : 255 < n) (hn : n < 10 ^ 9) : Bad (num n) := by
  obtain ⟨n1, n2, n3, n4⟩ := num_big hn
  exact .big n1 n2 (by omega) n n4 h
theorem letr_bad {n : Nat} (hn : n < 10 ^ 9) {s : String} (hs : s ∈ ["a", "x9", "Z", "all"]) : Bad (num n ++ cs s) := by
  obtain ⟨n1, n2, n3, _⟩ := num_big hn
  obtain ⟨s1, s2, s3⟩ := lu_up s hs
  exact .letr n1 n2 s1 (by omega) s2 s3
theorem bad_lt {l : List Nat} (h : Bad l) : l ≠ [] ∧ l.length ≤ 100 := by
  obtain ⟨c, r, e, _⟩ := bad_hd h
  exact ⟨by rw [e]; exact List.cons_ne_nil _ _, by have := bad_len h; omega⟩
end Dw

namespace Dw
open PySem PySem.Spec PyProof.Rows L2 SX
/-! sorted texts: one order alone -/
def leS (a b : Str) : Prop := ¬ (b.cps.toList < a.cps.toList)
theorem leS_trans {a b c : Str} (h1 : leS a b) (h2 : leS b c) : leS a c := List.le_trans (α := Nat) h1 h2
theorem leS_anti {a b : Str} (h1 : leS a b) (h2 : leS b a) : a = b := by
  have e : a.cps.toList = b.cps.toList := List.le_antisymm (α := Nat) h1 h2
  obtain ⟨x⟩ := a
  obtain ⟨y⟩ := b
  exact congrArg Str.mk (Array.toList_inj.mp e)
theorem rising_pw : ∀ (r : List Str) (p : Str), risingS p r = true → (p :: r).Pairwise leS
  | [], p, _ => List.pairwise_singleton _ _
  | x :: r, p, h => by
    unfold risingS at h
    rw [Bool.and_eq_true, ltCps_eq] at h
    have hx : leS p x := by
      have := h.1
      simpa [leS] using this
    have ih := rising_pw r x h.2
    refine List.pairwise_cons.mpr ⟨fun y hy => ?_, ih⟩
    rcases List.mem_cons.mp hy with e | e
    · rw [e]; exact hx
    · exact leS_trans hx ((List.pairwise_cons.mp ih).1 y e)
theorem sorted_pw : ∀ {ys : List Str}, sortedS ys = true → ys.Pairwise leS
  | [], _ => List.Pairwise.nil
  | x :: r, h => rising_pw r x h
theorem pw_sorted {ys : List Str} (h : ys.Pairwise leS) : sortedS ys = true := sortedS_of_pairwise ys (h.imp fun {a b} q => by
  rw [ltCps_eq]
  exact decide_eq_false q)
theorem sorted_one {xs ys : List Str} (p : xs.Perm ys) (h1 : sortedS xs = true) (h2 : sortedS ys = true) : xs = ys :=
  List.Perm.eq_of_pairwise (le := leS) (fun a b _ _ => leS_anti) (sorted_pw h1) (sorted_pw h2) p
open Classical in
/-- the texts in their order, where the order was found -/
noncomputable def srt (ks : List Str) : List Str := if h : ∃ ys : List Str, ys.Perm ks ∧ sortedS ys = true then h.choose else []
theorem srt_of {ks ys : List Str} (p : ys.Perm ks) (s : sortedS ys = true) : ys = srt ks := by
  have h : ∃ ys : List Str, ys.Perm ks ∧ sortedS ys = true := ⟨ys, p, s⟩
  unfold srt
  rw [dif_pos h]
  exact sorted_one (p.trans h.choose_spec.1.symm) s h.choose_spec.2
/-! sums of pairs -/
abbrev Prs := List (Str × Int)
def look (D : Prs) (z : Str) : Option Int := (D.find? fun p => decide (p.1 = z)).map (·.2)
def put (D : Prs) (z : Str) (i : Int) : Prs := if (D.any fun p => decide (p.1 = z)) = true then D.map (fun p => if p.1 = z then (p.1, i) else p) else D ++ [(z, i)]
def ent (p : Str × Int) : Key × V := (Sum.inr p.1, V.int p.2)
theorem val_ent (D : Prs) (z : Str) : valV (D.map ent) (Sum.inr z) = (look D z).map V.int := by
  unfold valV look
  rw [List.find?_map, Option.map_map, Option.map_map]
  have e : ((fun kv : Key × V => decide (kv.1 = Sum.inr z)) ∘ ent) = fun p : Str × Int => decide (p.1 = z) := by
    funext p
    simp [ent]
  rw [e]
  rfl
theorem put_ent (D : Prs) (z : Str) (i : Int) : putK (D.map ent) (Sum.inr z) (V.int i) = (put D z i).map ent := by
  unfold putK put
  rw [List.any_map]
  have e : ((fun kv : Key × V => decide (kv.1 = Sum.inr z)) ∘ ent) = fun p : Str × Int => decide (p.1 = z) := by
    funext p
    simp [ent]
  rw [e]
  split
  · rw [List.map_map, List.map_map]
    apply List.map_congr_left
    intro p _
    show (if (ent p).1 = Sum.inr z then ((ent p).1, V.int i) else ent p) = ent (if p.1 = z then (p.1, i) else p)
    by_cases h : p.1 = z
    · rw [if_pos h, if_pos (by simp [ent, h])]
      rfl
    · rw [if_neg h, if_neg (by simp [ent, h])]
  · rw [List.map_append]
    rfl
def keys (D : Prs) : List Str := D.map (·.1)
theorem put_keys (D : Prs) (z : Str) (i : Int) : keys (put D z i) = if z ∈ keys D then keys D else keys D ++ [z] := by
  unfold put keys
  have e : (D.any fun p => decide (p.1 = z)) = true ↔ z ∈ D.map (·.1) := by
    rw [List.any_eq_true, List.mem_map]
    constructor
    · rintro ⟨p, h, q⟩; exact ⟨p, h, of_decide_eq_true q⟩
    · rintro ⟨p, h, q⟩; exact ⟨p, h, decide_eq_true q⟩
  by_cases h : z ∈ D.map (·.1)
  · rw [if_pos (e.2 h), if_pos h, List.map_map]
    apply List.map_congr_left
    intro p _
    show (if p.1 = z then (p.1, i) else p).1 = p.1
    split <;> rfl
  · rw [if_neg (fun q => h (e.1 q)), if_neg h, List.map_append]
    rfl
def add1 (D : Prs) (p : Str × Int) : Prs := put D p.1 ((look D p.1).getD 0 + p.2)
def sums (ps : Prs) : Prs := ps.foldl add1 []
theorem sums_snoc (ps : Prs) (p : Str × Int) : sums (ps ++ [p]) = add1 (sums ps) p := by
  unfold sums
  rw [List.foldl_append]
  rfl
theorem add1_keys {D : Prs} {p : Str × Int} (nd : (keys D).Nodup) : (keys (add1 D p)).Nodup ∧ (∀ z, z ∈ keys (add1 D p) ↔ z ∈ keys D ∨ z = p.1) ∧ (add1 D p).length ≤ D.length + 1 := by
  have hk := put_keys D p.1 ((look D p.1).getD 0 + p.2)
  have hl : (add1 D p).length = (keys (add1 D p)).length := by simp [keys]
  have hl2 : D.length = (keys D).length := by simp [keys]
  rw [hl, hl2]
  unfold add1
  rw [hk]
  by_cases h : p.1 ∈ keys D
  · rw [if_pos h]
    exact ⟨nd, fun z => ⟨.inl, fun q => q.elim id (fun e => e ▸ h)⟩, Nat.le_succ _⟩
  · rw [if_neg h]
    refine ⟨?_, fun z => ?_, ?_⟩
    · rw [List.nodup_append]
      refine ⟨nd, by simp, fun a ha b hb e => ?_⟩
      rw [List.mem_singleton.mp hb] at e
      exact h (e ▸ ha)
    · rw [List.mem_append, List.mem_singleton]
    · rw [List.length_append]; exact Nat.le_refl _
theorem fold_keys : ∀ (ps D : Prs), (keys D).Nodup → (keys (ps.foldl add1 D)).Nodup ∧ (∀ z, z ∈ keys (ps.foldl add1 D) ↔ z ∈ keys D ∨ z ∈ keys ps) ∧ (ps.foldl add1 D).length ≤ D.length + ps.length
  | [], D, nd => ⟨nd, fun z => by simp [keys], Nat.le_refl _⟩
  | p :: ps, D, nd => by
    obtain ⟨h1, h2, h3⟩ := add1_keys (p := p) nd
    obtain ⟨k1, k2, k3⟩ := fold_keys ps (add1 D p) h1
    refine ⟨k1, fun z => ?_, ?_⟩
    · rw [List.foldl_cons, k2, h2]
      show (z ∈ keys D ∨ z = p.1) ∨ z ∈ keys ps ↔ z ∈ keys D ∨ z ∈ p.1 :: keys ps
      rw [List.mem_cons, or_assoc]
    · rw [List.foldl_cons, List.length_cons]
      omega
theorem sums_keys (ps : Prs) : (keys (sums ps)).Nodup ∧ (∀ z, z ∈ keys (sums ps) ↔ z ∈ keys ps) ∧ (sums ps).length ≤ ps.length := by
  obtain ⟨h1, h2, h3⟩ := fold_keys ps [] List.nodup_nil
  refine ⟨h1, fun z => ?_, by simpa [sums] using h3⟩
  unfold sums
  rw [h2]
  simp [keys]
noncomputable def lin (ps : Prs) : Prs := ((srt (keys (sums ps))).map fun z => (z, (look (sums ps) z).getD 0)).filter fun p => decide (p.2 ≠ 0)
def okC (c : Int) : Bool := decide (-255 ≤ c) && decide (c ≤ 255)
noncomputable def linOk (ps : Prs) (c : Int) : Bool := (c :: (lin ps).map (·.2)).all okC
theorem look_some {D : Prs} {z : Str} (h : z ∈ keys D) : ∃ i, look D z = some i := by
  obtain ⟨p, hp, e⟩ := List.mem_map.mp h
  unfold look
  cases q : D.find? fun p => decide (p.1 = z) with
  | some x => exact ⟨x.2, rfl⟩
  | none =>
    have := List.find?_eq_none.mp q p hp
    simp [e] at this
end Dw

namespace Dw
open PySem PySem.Spec PyProof.Rows L2 SX
theorem hu1 {A : Around} {k : Nat} (hr : Room k A) : A.units + 1 < cLine := by
  have := hr.units
  omega
section
variable {X : Cx} (K : PySem.W.Frag)
theorem allK (hc : X.calm = true := by rfl) (h : X.K = K := by rfl) : CallR X (.builtin "all") (rAll K) := h ▸ cr_all hc
end
theorem getD_int (o : Option Int) (d : Int) : (o.map V.int).getD (V.int d) = V.int (o.getD d) := by cases o <;> rfl
/-! pairs as they stand -/
def PrsAt (H : Hp) : List Addr → Prs → Prop
  | [], [] => True
  | a :: as, p :: ps => H a = some (.tup [.str p.1, .int p.2]) ∧ PrsAt H as ps
  | _, _ => False
theorem PrsAt.same {H H' : Hp} (e : Same H H') : ∀ {as : List Addr} {ps : Prs}, PrsAt H as ps → PrsAt H' as ps
  | [], [], _ => trivial
  | _ :: _, _ :: _, h => ⟨e _ _ h.1, PrsAt.same e h.2⟩
  | [], _ :: _, h => h.elim
  | _ :: _, [], h => h.elim
theorem PrsAt.len {H : Hp} : ∀ {as : List Addr} {ps : Prs}, PrsAt H as ps → as.length = ps.length
  | [], [], _ => rfl
  | _ :: as, _ :: ps, h => congrArg (· + 1) (PrsAt.len (as := as) (ps := ps) h.2)
  | [], _ :: _, h => h.elim
  | _ :: _, [], h => h.elim
theorem PrsAt.append {H : Hp} : ∀ {as bs : List Addr} {ps qs : Prs}, PrsAt H as ps → PrsAt H bs qs → PrsAt H (as ++ bs) (ps ++ qs)
  | [], _, [], _, _, h => h
  | _ :: _, _, _ :: _, _, h, k => ⟨h.1, PrsAt.append h.2 k⟩
  | [], _, _ :: _, _, h, _ => h.elim
  | _ :: _, _, [], _, h, _ => h.elim
theorem PrsAt.snoc {H : Hp} {as : List Addr} {ps : Prs} {a : Addr} {p : Str × Int} (h : PrsAt H as ps) (e : H a = some (.tup [.str p.1, .int p.2])) : PrsAt H (as ++ [a]) (ps ++ [p]) := h.append ⟨e, trivial⟩
theorem PrsAt.get {H : Hp} : ∀ {as : List Addr} {ps : Prs} {i : Nat} {p : Str × Int}, PrsAt H as ps → ps[i]? = some p → ∃ a, as[i]? = some a ∧ H a = some (.tup [.str p.1, .int p.2])
  | [], [], _, _, _, e => by simp at e
  | a :: as, q :: ps, 0, p, h, e => by
    obtain rfl := Option.some.inj e
    exact ⟨a, rfl, h.1⟩
  | a :: as, q :: ps, i + 1, p, h, e => PrsAt.get (as := as) (ps := ps) (i := i) h.2 (by simpa using e)
  | [], _ :: _, _, _, h, _ => h.elim
  | _ :: _, [], _, _, h, _ => h.elim
theorem PrsAt.at {H : Hp} {as : List Addr} {ps : Prs} {i : Nat} {v : V} (h : PrsAt H as ps) (e : (as.map V.ref)[i]? = some v) : ∃ a p, as[i]? = some a ∧ v = .ref a ∧ ps[i]? = some p ∧ H a = some (.tup [.str p.1, .int p.2]) := by
  rw [List.getElem?_map] at e
  obtain ⟨a, ha, rfl⟩ := Option.map_eq_some_iff.mp e
  have hl := h.len
  have hi : i < ps.length := by
    have := (List.getElem?_eq_some_iff.mp ha).1
    omega
  obtain ⟨a2, h2, h3⟩ := h.get (List.getElem?_eq_getElem hi)
  rw [ha] at h2
  obtain rfl := Option.some.inj h2
  exact ⟨a, _, ha, rfl, List.getElem?_eq_getElem hi, h3⟩
theorem PrsAt.keep {H H' : Hp} {g : Addr} (e2 : ∀ x y, H g ≠ some (.tup [.str x, .int y])) (e : But g H H') : ∀ {as : List Addr} {ps : Prs}, PrsAt H as ps → PrsAt H' as ps
  | [], [], _ => trivial
  | _ :: as, _ :: ps, h => ⟨e _ _ (fun q => e2 _ _ (q ▸ h.1)) h.1, PrsAt.keep e2 e (as := as) (ps := ps) h.2⟩
  | [], _ :: _, h => h.elim
  | _ :: _, [], h => h.elim
def prD (p : Str × Int) : PyData := .tuple [.str p.1, .int p.2]
theorem PrsAt.dp {K : PySem.W.Frag} {H : Hp} : ∀ {as : List Addr} {ps : Prs}, PrsAt H as ps → DpAll K H (as.map V.ref) (ps.map prD)
  | [], [], _ => .nil
  | _ :: as, _ :: ps, h => .cons (.tup (SqT.of h.1) (.cons (.str _) (.cons (.int _) .nil))) (PrsAt.dp (as := as) (ps := ps) h.2)
  | [], _ :: _, h => h.elim
  | _ :: _, [], h => h.elim
/-- names of pairs are good -/
def Good (ps : Prs) : Prop := ∀ p ∈ ps, ∃ l, GName l ∧ p.1 = S l
theorem good_lay {z : Str} (h : ∃ l, GName l ∧ z = S l) : PyData.strOk z = true := by
  obtain ⟨l, g, rfl⟩ := h
  exact ok_S fun c hc => ld_128 c (g.all c hc)
theorem prs_lay : ∀ {ps : Prs}, Good ps → PyData.canLayAll0 (ps.map prD) = true ∧ PyData.depthAll (ps.map prD) ≤ 1
  | [], _ => by simp [PyData.canLayAll0, PyData.depthAll]
  | p :: ps, h => by
    obtain ⟨h1, h2⟩ := prs_lay (ps := ps) fun q m => h q (List.mem_cons_of_mem _ m)
    have h3 := good_lay (h p List.mem_cons_self)
    refine ⟨by simp [prD, PyData.canLayAll0, PyData.canLay0, h1, h3], ?_⟩
    simp only [List.map_cons, prD, PyData.depthAll, PyData.depth]
    omega
/-- a term as it stands -/
def TermAt (H : Hp) (t : Addr) (ps : Prs) (c : Int) : Prop := ∃ (q : Addr) (as : List Addr), H t = some (.tup [.ref q, .int c]) ∧ H q = some (.tup (as.map V.ref)) ∧ PrsAt H as ps
theorem TermAt.same {H H' : Hp} {t : Addr} {ps : Prs} {c : Int} (h : TermAt H t ps c) (e : Same H H') : TermAt H' t ps c := by
  obtain ⟨q, as, h1, h2, h3⟩ := h
  exact ⟨q, as, e _ _ h1, e _ _ h2, h3.same e⟩
def tmD (ps : Prs) (c : Int) : PyData := .tuple [.tuple (ps.map prD), .int c]
theorem TermAt.dp {K : PySem.W.Frag} {H : Hp} {t : Addr} {ps : Prs} {c : Int} (h : TermAt H t ps c) : Dp K H (.ref t) (tmD ps c) := by
  obtain ⟨q, as, h1, h2, h3⟩ := h
  exact .tup (SqT.of h1) (.cons (.tup (SqT.of h2) h3.dp) (.cons (.int _) .nil))
theorem tm_shaped {ps : Prs} (h : Good ps) (c : Int) : SeqAt.shaped (tmD ps c) = true := by
  obtain ⟨h1, h2⟩ := prs_lay h
  show (PyData.canLay0 (tmD ps c) && decide (PyData.depth (tmD ps c) ≤ 64)) = true
  rw [Bool.and_eq_true]
  refine ⟨by simp [tmD, PyData.canLay0, PyData.canLayAll0, h1], decide_eq_true ?_⟩
  simp only [tmD, PyData.depth, PyData.depthAll]
  omega
theorem prs_shaped {ps : Prs} (h : Good ps) : SeqAt.shaped (.list (ps.map prD)) = true := by
  obtain ⟨h1, h2⟩ := prs_lay h
  show (PyData.canLay0 (.list (ps.map prD)) && decide (PyData.depth (.list (ps.map prD)) ≤ 64)) = true
  rw [Bool.and_eq_true]
  refine ⟨by simp [PyData.canLay0, h1], decide_eq_true ?_⟩
  simp only [PyData.depth]
  omega
theorem txt_dp {K : PySem.W.Frag} {H : Hp} : ∀ zs : List Str, DpAll K H (zs.map V.str) (zs.map PyData.str)
  | [] => .nil
  | _ :: zs => .cons (.str _) (txt_dp zs)
theorem txt_lay : ∀ zs : List Str, (∀ z ∈ zs, PyData.strOk z = true) → PyData.canLayAll0 (zs.map PyData.str) = true ∧ PyData.depthAll (zs.map PyData.str) = 0
  | [], _ => by simp [PyData.canLayAll0, PyData.depthAll]
  | z :: zs, h => by
    obtain ⟨h1, h2⟩ := txt_lay zs fun y hy => h y (List.mem_cons_of_mem _ hy)
    simp [PyData.canLayAll0, PyData.canLay0, PyData.depthAll, PyData.depth, h z List.mem_cons_self, h1, h2]
theorem txt_shaped (zs : List Str) (h : ∀ z ∈ zs, PyData.strOk z = true) : SeqAt.shaped (.list (zs.map PyData.str)) = true := by
  obtain ⟨h1, h2⟩ := txt_lay zs h
  simp [SeqAt.shaped, PyData.canLay0, PyData.depth, h1, h2]
theorem good_keys {ps : Prs} (h : Good ps) : ∀ z ∈ keys ps, PyData.strOk z = true := fun z hz => by
  obtain ⟨p, hp, rfl⟩ := List.mem_map.mp hz
  exact good_lay (h p hp)
theorem setL_perm {zs : List Str} (d : zs.Nodup) : (setL zs).Perm zs := (List.perm_ext_iff_of_nodup (setL_nodup zs) d).2 fun _ => setL_mem
end Dw

namespace Dw
open PySem PySem.Spec PyProof.Rows L2 SX
/-- what linear and the law's own sum answer: the term, or the word -/
def OVER : V := .str (S (cs "oversized"))
def Res (H : Hp) (v : V) (ps : Prs) (c : Int) : Prop := (linOk ps c = true ∧ ∃ t, v = .ref t ∧ TermAt H t (lin ps) c) ∨ (linOk ps c = false ∧ v = OVER)
theorem Res.same {H H' : Hp} {v : V} {ps : Prs} {c : Int} (h : Res H v ps c) (e : Same H H') : Res H' v ps c := by
  rcases h with ⟨a, t, b, d⟩ | h
  · exact .inl ⟨a, t, b, d.same e⟩
  · exact .inr h
theorem res_split {H : Hp} {Q : VK} {ps : Prs} {c : Int} (h : ∀ v H', Same H H' → Res H' v ps c → Q v H') :
    (linOk ps c = true → ∀ t H', Same H H' → TermAt H' t (lin ps) c → Q (.ref t) H') ∧ (linOk ps c = false → ∀ H', Same H H' → Q (.str (S (cs "oversized"))) H') :=
  ⟨fun o t H' e x => h _ H' e (.inl ⟨o, t, rfl, x⟩), fun o H' e => h _ H' e (.inr ⟨o, rfl⟩)⟩
theorem over_ok : PyData.strOk (S (cs "oversized")) = true := ok_S (kinds2_128' "oversized" (by simp))
where kinds2_128' : ∀ s ∈ (["oversized"] : List String), ∀ c ∈ cs s, c < 128 := by decide +kernel
theorem str_shaped {z : Str} (h : PyData.strOk z = true) : SeqAt.shaped (.str z) = true := by
  simp [SeqAt.shaped, PyData.canLay0, PyData.depth, h]
/-- two answers over the same pairs are equal, as data -/
theorem Res.two {K : PySem.W.Frag} {H : Hp} {v w : V} {ps : Prs} {c : Int} (h : Res H v ps c) (k : Res H w ps c) (g : Good (lin ps)) : ∃ d, Dp K H v d ∧ Dp K H w d ∧ SeqAt.shaped d = true := by
  rcases h with ⟨a, t, rfl, ht⟩ | ⟨a, rfl⟩
  · rcases k with ⟨_, u, rfl, hu⟩ | ⟨b, _⟩
    · exact ⟨_, ht.dp, hu.dp, tm_shaped g c⟩
    · rw [a] at b; cases b
  · rcases k with ⟨b, _⟩ | ⟨_, rfl⟩
    · rw [a] at b; cases b
    · exact ⟨_, .str _, .str _, str_shaped over_ok⟩
theorem srt_spec (K : List Str) : srt K = [] ∨ ((srt K).Perm K ∧ sortedS (srt K) = true) := by
  unfold srt
  split
  · rename_i h
    exact .inr h.choose_spec
  · exact .inl rfl
theorem lin_sub (ps : Prs) : (keys (lin ps)).Sublist (srt (keys (sums ps))) := by
  have h1 := (List.filter_sublist (p := fun p : Str × Int => decide (p.2 ≠ 0)) (l := (srt (keys (sums ps))).map fun z => (z, (look (sums ps) z).getD 0))).map (·.1)
  rw [List.map_map] at h1
  have e : (srt (keys (sums ps))).map ((fun x : Str × Int => x.1) ∘ fun z => (z, (look (sums ps) z).getD 0)) = srt (keys (sums ps)) := by
    show (srt (keys (sums ps))).map (fun z => z) = _
    rw [List.map_id']
  rw [e] at h1
  exact h1
theorem lin_mem {ps : Prs} {z : Str} (h : z ∈ keys (lin ps)) : z ∈ keys ps := by
  have h1 := (lin_sub ps).subset h
  rcases srt_spec (keys (sums ps)) with e | ⟨e, _⟩
  · rw [e] at h1; cases h1
  · exact ((sums_keys ps).2.1 z).1 (e.mem_iff.mp h1)
theorem lin_good {ps : Prs} (h : Good ps) : Good (lin ps) := fun p hp => by
  have h1 : p.1 ∈ keys ps := lin_mem (List.mem_map_of_mem hp)
  obtain ⟨q, hq, e⟩ := List.mem_map.mp h1
  rw [← e]
  exact h q hq
theorem lin_len (ps : Prs) : (lin ps).length ≤ ps.length := by
  have h1 := (lin_sub ps).length_le
  have h2 : (keys (lin ps)).length = (lin ps).length := by simp [keys]
  have h3 := (sums_keys ps).2.2
  have h4 : (keys (sums ps)).length = (sums ps).length := by simp [keys]
  rcases srt_spec (keys (sums ps)) with e | ⟨e, _⟩
  · rw [e] at h1
    rw [List.length_nil] at h1
    omega
  · rw [e.length_eq] at h1
    omega
theorem lin_sorted (ps : Prs) : sortedS (keys (lin ps)) = true ∧ (keys (lin ps)).Nodup := by
  rcases srt_spec (keys (sums ps)) with e | ⟨e, s⟩
  · have h1 := lin_sub ps
    rw [e] at h1
    rw [List.sublist_nil.mp h1]
    exact ⟨rfl, List.nodup_nil⟩
  · exact ⟨pw_sorted ((sorted_pw s).sublist (lin_sub ps)), (e.nodup_iff.mpr (sums_keys ps).1).sublist (lin_sub ps)⟩
theorem lin_nz {ps : Prs} {p : Str × Int} (h : p ∈ lin ps) : p.2 ≠ 0 := by
  unfold lin at h
  exact of_decide_eq_true (List.mem_filter.mp h).2
theorem linOk_of {ps : Prs} {c : Int} (h : linOk ps c = true) : okC c = true ∧ ∀ p ∈ lin ps, okC p.2 = true := by
  unfold linOk at h
  rw [List.all_cons, Bool.and_eq_true, List.all_eq_true] at h
  exact ⟨h.1, fun p hp => h.2 _ (List.mem_map_of_mem hp)⟩
theorem okC_bd {c : Int} (h : okC c = true) : -255 ≤ c ∧ c ≤ 255 := by
  simpa [okC] using h
theorem good_app {a b : Prs} (h : Good a) (k : Good b) : Good (a ++ b) := fun p hp => by
  rcases List.mem_append.mp hp with q | q
  · exact h p q
  · exact k p q
theorem good_map {a : Prs} {f : Str × Int → Str × Int} (h : Good a) (k : ∀ p, (f p).1 = p.1) : Good (a.map f) := fun p hp => by
  obtain ⟨q, hq, rfl⟩ := List.mem_map.mp hp
  rw [k]
  exact h q hq
/-- values of a table of names -/
def NamesT (kvs : List (Key × V)) : Prop := ∀ kv ∈ kvs, ∃ l, GName l ∧ kv.2 = .str (S l)
theorem putK_names {kvs : List (Key × V)} {k : Key} {l : List Nat} (h : NamesT kvs) (g : GName l) : NamesT (putK kvs k (.str (S l))) := by
  intro kv hkv
  unfold putK at hkv
  split at hkv
  · obtain ⟨x, hx, rfl⟩ := List.mem_map.mp hkv
    by_cases e : x.1 = k
    · rw [if_pos e]; exact ⟨l, g, rfl⟩
    · rw [if_neg e]; exact h x hx
  · rcases List.mem_append.mp hkv with q | q
    · exact h kv q
    · rw [List.mem_singleton.mp q]; exact ⟨l, g, rfl⟩
def renF (kvs : List (Key × V)) (z : Str) : Str := match valV kvs (Sum.inr z) with | some (.str y) => y | _ => z
theorem renF_ok {kvs : List (Key × V)} (h : NamesT kvs) (z : Str) : (valV kvs (Sum.inr z)).getD (.str z) = .str (renF kvs z) ∧ ((∃ l, GName l ∧ z = S l) → ∃ l, GName l ∧ renF kvs z = S l) := by
  unfold renF valV
  cases e : kvs.find? fun kv => decide (kv.1 = (Sum.inr z : Key)) with
  | none => exact ⟨rfl, fun q => q⟩
  | some kv =>
    obtain ⟨l, g, q⟩ := h kv (List.mem_of_find?_eq_some e)
    simp only [Option.map_some, q]
    exact ⟨rfl, fun _ => ⟨l, g, rfl⟩⟩
theorem look_none {D : Prs} {z : Str} (h : z ∉ keys D) : (D.any fun p => decide (p.1 = z)) = false ∧ (D.find? fun p => decide (p.1 = z)) = none := by
  have hn : ∀ p ∈ D, ¬ p.1 = z := fun p hp e => h (e ▸ List.mem_map_of_mem hp)
  refine ⟨?_, List.find?_eq_none.mpr fun p hp => by simp [hn p hp]⟩
  rw [List.any_eq_false]
  exact fun p hp => by simp [hn p hp]
theorem put_new {D : Prs} {z : Str} {i : Int} (h : z ∉ keys D) : put D z i = D ++ [(z, i)] := by
  unfold put
  rw [(look_none h).1, if_neg (by decide)]
theorem look_new {D : Prs} {z : Str} {i : Int} (h : z ∉ keys D) : look (D ++ [(z, i)]) z = some i := by
  unfold look
  rw [List.find?_append, (look_none h).2]
  simp
theorem look_old {D : Prs} {z y : Str} {i : Int} (h : y ∈ keys D) : look (D ++ [(z, i)]) y = look D y := by
  obtain ⟨v, hv⟩ := look_some h
  have hv2 := hv
  unfold look at hv ⊢
  rw [List.find?_append]
  cases e : D.find? fun p => decide (p.1 = y) with
  | none => rw [e] at hv; cases hv
  | some x => rfl
theorem nodup_take {l : List Str} {i : Nat} {z : Str} (nd : l.Nodup) (h : l[i]? = some z) : z ∉ l.take i := by
  intro hz
  have e : l = l.take i ++ l.drop i := (List.take_append_drop i l).symm
  rw [e, List.nodup_append] at nd
  have hd : z ∈ l.drop i := by
    have : (l.drop i)[0]? = some z := by
      rw [List.getElem?_drop]
      exact h
    exact List.mem_of_getElem? this
  exact nd.2.2 z hz z hd rfl
end Dw

namespace Dw
open PySem PySem.Spec PyProof.Rows L2 SX
/-! formulas as they stand -/
inductive Fm
  | pow (z : List Nat)
  | word (w z : List Nat) (o : Int)
  | cmp (k : Bool) (ps : Prs) (c : Int)
  | call (f : List Nat) (zs : List (List Nat))
  | not (a : Fm)
  | bin (k : Fin 4) (a b : Fm)
  | qf (k : Bool) (z : List Nat) (a : Fm)
def kCmp : Bool → List Nat
  | true => cs "eq"
  | false => cs "le"
def kQf : Bool → List Nat
  | true => cs "some"
  | false => cs "all"
def kBin : Fin 4 → List Nat
  | 0 => cs "and"
  | 1 => cs "or"
  | 2 => cs "imp"
  | 3 => cs "iff"
def FmAt (H : Hp) : Addr → Fm → Prop
  | t, .pow z => H t = some (.tup [.str (S (cs "pow")), .str (S z)])
  | t, .word w z o => H t = some (.tup [.str (S (cs "word")), .str (S w), .str (S z), .int o])
  | t, .cmp k ps c => ∃ u, H t = some (.tup [.str (S (kCmp k)), .ref u]) ∧ TermAt H u ps c
  | t, .call f zs => ∃ u, H t = some (.tup [.str (S (cs "call")), .str (S f), .ref u]) ∧ H u = some (.tup (zs.map vS))
  | t, .not a => ∃ u, H t = some (.tup [.str (S (cs "not")), .ref u]) ∧ FmAt H u a
  | t, .bin k a b => ∃ u v, H t = some (.tup [.str (S (kBin k)), .ref u, .ref v]) ∧ FmAt H u a ∧ FmAt H v b
  | t, .qf k z a => ∃ u, H t = some (.tup [.str (S (kQf k)), .str (S z), .ref u]) ∧ FmAt H u a
/-- all the tuples of H stand in H' -/
def Tups (H H' : Hp) : Prop := ∀ a xs, H a = some (.tup xs) → H' a = some (.tup xs)
theorem Tups.same {H H' : Hp} (e : Same H H') : Tups H H' := fun a xs h => e _ _ h
theorem Tups.pool {H H' : Hp} {p q : Addr} {ns : List Int} (hP : Pool H p q ns) (e : But p H H') : Tups H H' := by
  obtain ⟨_, _, x, k, hp, _⟩ := hP
  intro a xs h
  refine e a _ (fun z => ?_) h
  rw [z, hp] at h
  cases h
theorem Tups.trans {H H1 H2 : Hp} (a : Tups H H1) (b : Tups H1 H2) : Tups H H2 := fun x xs h => b x xs (a x xs h)
theorem PrsAt.tups {H H' : Hp} (e : Tups H H') : ∀ {as : List Addr} {ps : Prs}, PrsAt H as ps → PrsAt H' as ps
  | [], [], _ => trivial
  | _ :: _, _ :: _, h => ⟨e _ _ h.1, PrsAt.tups e h.2⟩
  | [], _ :: _, h => h.elim
  | _ :: _, [], h => h.elim
theorem TermAt.tups {H H' : Hp} (e : Tups H H') {t : Addr} {ps : Prs} {c : Int} (h : TermAt H t ps c) : TermAt H' t ps c := by
  obtain ⟨q, as, h1, h2, h3⟩ := h
  exact ⟨q, as, e _ _ h1, e _ _ h2, h3.tups e⟩
theorem FmAt.tups {H H' : Hp} (e : Tups H H') : ∀ {f : Fm} {t : Addr}, FmAt H t f → FmAt H' t f
  | .pow _, _, h => e _ _ h
  | .word _ _ _, _, h => e _ _ h
  | .cmp _ _ _, _, ⟨u, h1, h2⟩ => ⟨u, e _ _ h1, h2.tups e⟩
  | .call _ _, _, ⟨u, h1, h2⟩ => ⟨u, e _ _ h1, e _ _ h2⟩
  | .not a, _, ⟨u, h1, h2⟩ => ⟨u, e _ _ h1, FmAt.tups e (f := a) h2⟩
  | .bin _ a b, _, ⟨u, v, h1, h2, h3⟩ => ⟨u, v, e _ _ h1, FmAt.tups e (f := a) h2, FmAt.tups e (f := b) h3⟩
  | .qf _ _ a, _, ⟨u, h1, h2⟩ => ⟨u, e _ _ h1, FmAt.tups e (f := a) h2⟩
/-- its data -/
def strD (l : List Nat) : PyData := .str (S l)
def fmD : Fm → PyData
  | .pow z => .tuple [strD (cs "pow"), strD z]
  | .word w z o => .tuple [strD (cs "word"), strD w, strD z, .int o]
  | .cmp k ps c => .tuple [strD (kCmp k), tmD ps c]
  | .call f zs => .tuple [strD (cs "call"), strD f, .tuple (zs.map strD)]
  | .not a => .tuple [strD (cs "not"), fmD a]
  | .bin k a b => .tuple [strD (kBin k), fmD a, fmD b]
  | .qf k z a => .tuple [strD (kQf k), strD z, fmD a]
theorem strs_dpD {K : PySem.W.Frag} {H : Hp} : ∀ zs : List (List Nat), DpAll K H (zs.map vS) (zs.map strD)
  | [] => .nil
  | _ :: zs => .cons (.str _) (strs_dpD zs)
theorem FmAt.dp {K : PySem.W.Frag} {H : Hp} : ∀ {f : Fm} {t : Addr}, FmAt H t f → Dp K H (.ref t) (fmD f)
  | .pow _, _, h => .tup (SqT.of h) (.cons (.str _) (.cons (.str _) .nil))
  | .word _ _ _, _, h => .tup (SqT.of h) (.cons (.str _) (.cons (.str _) (.cons (.str _) (.cons (.int _) .nil))))
  | .cmp _ _ _, _, ⟨_, h1, h2⟩ => .tup (SqT.of h1) (.cons (.str _) (.cons h2.dp .nil))
  | .call _ zs, _, ⟨_, h1, h2⟩ => .tup (SqT.of h1) (.cons (.str _) (.cons (.str _) (.cons (.tup (SqT.of h2) (strs_dpD zs)) .nil)))
  | .not a, _, ⟨_, h1, h2⟩ => .tup (SqT.of h1) (.cons (.str _) (.cons (FmAt.dp (f := a) h2) .nil))
  | .bin _ a b, _, ⟨_, _, h1, h2, h3⟩ => .tup (SqT.of h1) (.cons (.str _) (.cons (FmAt.dp (f := a) h2) (.cons (FmAt.dp (f := b) h3) .nil)))
  | .qf _ _ a, _, ⟨_, h1, h2⟩ => .tup (SqT.of h1) (.cons (.str _) (.cons (.str _) (.cons (FmAt.dp (f := a) h2) .nil)))
/-- levels above the leaves -/
def Fm.dep : Fm → Nat
  | .not a => a.dep + 1
  | .bin _ a b => max a.dep b.dep + 1
  | .qf _ _ a => a.dep + 1
  | _ => 0
/-- names and terms are good -/
def Fm.Good : Fm → Prop
  | .pow z => GName z
  | .word w z o => GWord w ∧ GName z ∧ 0 ≤ o ∧ o ≤ 9
  | .cmp _ ps c => Dw.Good ps ∧ sortedS (keys ps) = true ∧ (keys ps).Nodup ∧ (∀ p ∈ ps, okC p.2 = true ∧ p.2 ≠ 0) ∧ okC c = true ∧ ps.length ≤ 30
  | .call f zs => GName f ∧ zs ≠ [] ∧ zs.length ≤ 30 ∧ ∀ z ∈ zs, GName z
  | .not a => a.Good
  | .bin _ a b => a.Good ∧ b.Good
  | .qf _ z a => GName z ∧ a.Good
theorem ld_ok {l : List Nat} (h : GName l) : PyData.strOk (S l) = true := ok_S fun c hc => ld_128 c (h.all c hc)
theorem ud_ok {l : List Nat} (h : GWord l) : PyData.strOk (S l) = true := ok_S fun c hc => ud_128 c (h.all c hc)
theorem heads_128 : ∀ s ∈ (["pow", "word", "call", "not", "eq", "le", "some", "all", "and", "or", "imp", "iff"] : List String), ∀ c ∈ cs s, c < 128 := by decide +kernel
theorem hd_ok {s : String} (h : s ∈ (["pow", "word", "call", "not", "eq", "le", "some", "all", "and", "or", "imp", "iff"] : List String)) : PyData.strOk (S (cs s)) = true := ok_S (heads_128 s h)
theorem kCmp_ok (k : Bool) : PyData.strOk (S (kCmp k)) = true := by cases k <;> exact hd_ok (by simp)
theorem kQf_ok (k : Bool) : PyData.strOk (S (kQf k)) = true := by cases k <;> exact hd_ok (by simp)
theorem kBin_ok : ∀ k : Fin 4, PyData.strOk (S (kBin k)) = true
  | 0 => hd_ok (s := "and") (by simp)
  | 1 => hd_ok (s := "or") (by simp)
  | 2 => hd_ok (s := "imp") (by simp)
  | 3 => hd_ok (s := "iff") (by simp)
theorem strsD_lay : ∀ zs : List (List Nat), (∀ z ∈ zs, GName z) → PyData.canLayAll0 (zs.map strD) = true ∧ PyData.depthAll (zs.map strD) = 0
  | [], _ => by simp [PyData.canLayAll0, PyData.depthAll]
  | z :: zs, h => by
    obtain ⟨h1, h2⟩ := strsD_lay zs fun y hy => h y (List.mem_cons_of_mem _ hy)
    rw [List.map_cons]
    refine ⟨?_, ?_⟩
    · show PyData.canLayAll0 (PyData.str (S z) :: zs.map strD) = true
      simp only [PyData.canLayAll0, PyData.canLay0, ld_ok (h z List.mem_cons_self), h1, Bool.and_self]
    · show PyData.depthAll (PyData.str (S z) :: zs.map strD) = 0
      simp only [PyData.depthAll, PyData.depth, h2, Nat.max_self]
theorem tm_lay {ps : Prs} (h : Good ps) (c : Int) : (tmD ps c).canLay0 = true ∧ (tmD ps c).depth ≤ 3 := by
  obtain ⟨h1, h2⟩ := prs_lay h
  refine ⟨by simp [tmD, PyData.canLay0, PyData.canLayAll0, h1], ?_⟩
  simp only [tmD, PyData.depth, PyData.depthAll]
  omega
theorem fm_lay : ∀ f : Fm, f.Good → (fmD f).canLay0 = true ∧ (fmD f).depth ≤ f.dep + 4
  | .pow z, h => by
    refine ⟨by simp [fmD, strD, PyData.canLay0, PyData.canLayAll0, hd_ok (s := "pow") (by simp), ld_ok h], ?_⟩
    simp [fmD, strD, PyData.depth, PyData.depthAll, Fm.dep]
  | .word w z o, h => by
    refine ⟨by simp [fmD, strD, PyData.canLay0, PyData.canLayAll0, hd_ok (s := "word") (by simp), ld_ok h.2.1, ud_ok h.1], ?_⟩
    simp [fmD, strD, PyData.depth, PyData.depthAll, Fm.dep]
  | .cmp k ps c, h => by
    obtain ⟨h1, h2⟩ := tm_lay h.1 c
    refine ⟨by simp [fmD, strD, PyData.canLay0, PyData.canLayAll0, kCmp_ok, h1], ?_⟩
    simp only [fmD, strD, PyData.depth, PyData.depthAll, Fm.dep]
    omega
  | .call f zs, h => by
    obtain ⟨h1, h2⟩ := strsD_lay zs h.2.2.2
    refine ⟨?_, ?_⟩
    · show PyData.canLay0 (.tuple [.str (S (cs "call")), .str (S f), .tuple (zs.map strD)]) = true
      simp only [PyData.canLay0, PyData.canLayAll0, hd_ok (s := "call") (by simp), ld_ok h.1, h1, Bool.and_self]
    · show PyData.depth (.tuple [.str (S (cs "call")), .str (S f), .tuple (zs.map strD)]) ≤ 0 + 4
      simp only [PyData.depth, PyData.depthAll, h2]
      omega
  | .not a, h => by
    obtain ⟨h1, h2⟩ := fm_lay a h
    refine ⟨by simp [fmD, strD, PyData.canLay0, PyData.canLayAll0, hd_ok (s := "not") (by simp), h1], ?_⟩
    simp only [fmD, strD, PyData.depth, PyData.depthAll, Fm.dep]
    omega
  | .bin k a b, h => by
    obtain ⟨h1, h2⟩ := fm_lay a h.1
    obtain ⟨h3, h4⟩ := fm_lay b h.2
    refine ⟨by simp [fmD, strD, PyData.canLay0, PyData.canLayAll0, kBin_ok, h1, h3], ?_⟩
    simp only [fmD, strD, PyData.depth, PyData.depthAll, Fm.dep]
    omega
  | .qf k z a, h => by
    obtain ⟨h1, h2⟩ := fm_lay a h.2
    refine ⟨by simp [fmD, strD, PyData.canLay0, PyData.canLayAll0, kQf_ok, ld_ok h.1, h1], ?_⟩
    simp only [fmD, strD, PyData.depth, PyData.depthAll, Fm.dep]
    omega
theorem fm_shaped {f : Fm} (h : f.Good) (hd : f.dep ≤ 40) : SeqAt.shaped (fmD f) = true := by
  obtain ⟨h1, h2⟩ := fm_lay f h
  show ((fmD f).canLay0 && decide ((fmD f).depth ≤ 64)) = true
  rw [Bool.and_eq_true]
  exact ⟨h1, decide_eq_true (by omega)⟩
end Dw

namespace Dw
open PySem PySem.Spec PyProof.Rows L2 SX
/-! a written table with texts as keys: in, not in -/
def KTabl (K : PySem.W.Frag) (w : World) (a : Addr) (ks : List (List Nat)) : Prop :=
  ∃ es n, K.lookup a = some ⟨.type "dict", none, .dict es n, #[]⟩ ∧ PySem.W.KeysLit w.params es.toList ∧ (a == sysModules) = false ∧ ∀ l : List Nat, ∃ r, PySem.W.nsIn K a (S l) = some r ∧ r.isSome = decide (l ∈ ks)
def rKIn (K : PySem.W.Frag) (w : World) (neg : Bool) : R2 := fun x y H Q => ∃ (a : Addr) (ks : List (List Nat)) (l : List Nat), y = .ref a ∧ x = .str (S l) ∧ KTabl K w a ks ∧ Q (.bl (if neg then !decide (l ∈ ks) else decide (l ∈ ks))) H
section
variable {X : Cx}
theorem op_kIn : OpR X (compareOp .In) (rKIn X.K X.w false) := by
  intro pins s σ H x y v u Q I rx ry h
  obtain ⟨a, ks, l, rfl, rfl, ⟨es, n, hl, hk, low, hr⟩, q⟩ := h
  obtain ⟨t, rfl⟩ := (show ∃ t, v = Value.str (S l) t from rx)
  obtain rfl : u = Value.ref a := ry
  obtain ⟨r, h1, h2⟩ := hr l
  refine wpAny_in_of (strKind_is X.prog X.w (S l) t) low (PySem.W.mapOf_K (prog := X.prog) (w := X.w) I.kIn hl hk) ?_
  rw [PySem.W.find_K hl h1, h2]
  exact ⟨.bl (decide (l ∈ ks)), H, I.tok _, rfl, q⟩
theorem op_kNotIn : OpR X (compareOp .NotIn) (rKIn X.K X.w true) := by
  intro pins s σ H x y v u Q I rx ry h
  obtain ⟨a, ks, l, rfl, rfl, ⟨es, n, hl, hk, low, hr⟩, q⟩ := h
  obtain ⟨t, rfl⟩ := (show ∃ t, v = Value.str (S l) t from rx)
  obtain rfl : u = Value.ref a := ry
  obtain ⟨r, h1, h2⟩ := hr l
  refine wpAny_notIn_of (strKind_is X.prog X.w (S l) t) low (PySem.W.mapOf_K (prog := X.prog) (w := X.w) I.kIn hl hk) ?_
  rw [PySem.W.find_K hl h1, h2]
  exact ⟨.bl (!decide (l ∈ ks)), H, I.tok _, rfl, q⟩
end
end Dw

namespace Dw
open PySem PySem.Spec PyProof.Rows L2 SX
section
variable {P : Program} {w : World} {A : Around} {E : Value → Shared → Prop} {s : Shared} {a : Addr} {ks : List Str}
theorem TxSet.setOf (R : TxSet P w s.heap a ks) : s.heap.SetOf (PySem.strKind P w) a (fun z => decide (z ∈ ks)) ks.length := by
  obtain ⟨ob, xs, ep, tb, ho, hx, hd, g, pm, nd, hb, hf, hr, hl⟩ := R
  refine ⟨ob, xs, ep, tb, ho, hx, hd, goodT_elems g, fun z => ?_, hb, hf, ?_⟩
  · show decide (z ∈ ks) = true ↔ _
    rw [decide_eq_true_eq, ← pm.mem_iff, List.mem_map]
    constructor
    · rintro ⟨e, m, q⟩
      exact ⟨e, m, (goodT_is (g e m) z).2 q⟩
    · rintro ⟨e, m, q⟩
      exact ⟨e, m, (goodT_is (g e m) z).1 q⟩
  · have q := pm.length_eq
    rw [List.length_map, Array.length_toList] at q
    exact q
theorem tx_put {z : Str} {u : Tok} {Q : Value → Shared → Prop} (R : TxSet P w s.heap a ks) (room : ks.length + 1 < scanBound)
    (hQ : ∀ h', Heap.SameBut a s.heap h' → TxSet P w h' a (putT z ks) → Q .none { s with heap := h', toks := s.toks + 1 }) :
    wpAny (model P w) A (call (.builtin "set.add") [.ref a, .str z u]) Q E s := by
  have ty := R.setOf
  refine wpAny_call_entry F.slot_set_add ty.typeIs F.entry_set_add ?_ (F.args_set_add_2 _ _)
  unfold Builtin.«set.add» Builtin.Frozenset.oneOther
  simp only [List.isEmpty_nil, bind_assoc]
  unfold Builtin.Frozenset.addrOf setAdd
  refine wpAny_bind (wpAny_pure ?_)
  try dsimp only
  refine wpAny_bind (wpAny_pure ?_)
  try dsimp only
  refine wpAny_bind ?_
  refine wpAny_holding ?_
  refine wpAny_bind ((PySem.strKind P w).pyHash (strKind_is P w z u) ?_)
  refine tx_add (s := { s with toks := s.toks + 1 }) R room fun h' sb r => ?_
  show wpAny _ _ (ret Value.none) _ _ _
  exact wpAny_pure ⟨_, rfl, hQ h' sb r⟩
end
section
variable {X : Cx}
/-- set(): a set of texts, empty -/
def rSetT0 (P : Program) (w : World) : List V → Hp → VK → Prop := fun vs H Q => vs = [] ∧ ∀ p, H p = none → Q (.ref p) (upd H p (SetTx P w p []))
theorem setT0 : CallR X (.type "set") (rSetT0 X.prog X.w) := by
  intro pins s σ H vs us Q I r h
  obtain ⟨rfl, q⟩ := h
  cases r
  refine setR_new fun _ => ?_
  exact ⟨.ref _, upd H s.heap.objs.size (SetTx X.prog X.w s.heap.objs.size []), I.laid (t' := s.toks) (fun b u e => Heap.get?_push_of_some _ e) (Nat.le_refl _) (setTx_new (tx_fresh (Heap.get?_push_size _ rfl))), rfl, q _ (I.hok.fresh (Nat.le_refl _))⟩
/-- found.add(text) -/
def rAddT (P : Program) (w : World) : V → List V → Hp → VK → Prop := fun x vs H Q => ∃ (a : Addr) (z : Str) (ks : List Str), x = V.ref a ∧ vs = [V.str z] ∧ H a = some (SetTx P w a ks) ∧ ks.length < 4000 ∧ Q .non (upd H a (SetTx P w a (putT z ks)))
theorem mt_addT : MtR X "set.add" (rAddT X.prog X.w) := by
  intro pins s σ H x vs v us Q I rx rv h
  obtain ⟨a, z, ks, rfl, rfl, ha, room, q⟩ := h
  obtain rfl : v = Value.ref a := rx
  obtain ⟨u1, rfl, t, rfl⟩ := vals1 rv
  have R : TxSet X.prog X.w s.heap a ks := (I.hok a _ ha).1
  refine tx_put R (by unfold scanBound; omega) fun h' sb new => ?_
  have he : ∃ u, h'.get? a = some u := by
    have ⟨ob, _, _, _, ho, _⟩ := new
    exact ⟨ob, ho⟩
  exact ⟨.non, upd H a (SetTx X.prog X.w a (putT z ks)), I.write (e := a) (t' := s.toks + 1) (by rw [ha]; trivial) (.inl rfl) (fun b u hb hu => (sb.2 b hb).trans hu) he (setTx_new new), rfl, q⟩
def tAddT (P : Program) (w : World) (to : TE) (t : TA) : TE := fun σ H Q => to σ H fun x H1 => (∃ a ks, x = V.ref a ∧ H1 a = some (SetTx P w a ks)) ∧ t σ H1 fun vs H2 => rAddT P w x vs H2 Q
variable {o e : Expr} {es : List Expr} {to : TE} {t : TA} {apos cpos : Pos}
theorem pe_addT (ho : PE X o to) (ha : PA X (e :: es) t)
    (h1 : attributeBase o "add" X.env (eval o X.env) = eval o X.env := by rfl)
    (h2 : ((backTo cpos (starEach (e :: es) X.env)).all (fun x => !x.1) && (backToKw cpos (keywordEach [] X.env)).all (fun x => x.1.isSome) && decide ((e :: es).length + ([] : List Keyword).length + (if ([] : List Keyword).isEmpty then 0 else 1) < 30)) = true := by rfl)
    (h3 : (apos.endLine == cpos.line) = true := by rfl) (h4 : starEach (e :: es) X.env = (false, eval e X.env) :: starEach es X.env := by rfl) (h5 : (backTo cpos (starEach es X.env)).any (·.1) = false := by rfl) :
    PE X (.Call (.Attribute o "add" apos) (e :: es) [] cpos) (tAddT X.prog X.w to t) := by
  refine ⟨fun pins s σ H Q I h => ?_⟩
  refine wpAny_Call_method_late h1 h2 h3 rfl (thn (ho.run pins s σ H _ I h) fun v s1 ⟨x, H1, I1, r1, ty, q1⟩ => ?_)
  obtain ⟨a, ks, rfl, hka⟩ := ty
  have R : TxSet X.prog X.w s1.heap a ks := (I1.hok a _ hka).1
  obtain rfl : v = Value.ref a := r1
  have so := R.setOf
  refine ⟨"set", "set.add", F.plainAttrs_set, F.slot_set_add, F.type_set_add, so.typeIs, so.noDict, ?_⟩
  have hA := ha.run cpos pins s1 σ H1 _ I1 q1
  rw [h4] at hA ⊢
  refine Calls.callWith_builtin (by show (false || (backTo cpos (starEach es X.env)).any (·.1)) = false; rw [h5] <;> rfl) (Calls.evalArgs_plain ?_)
  exact thn hA fun us s2 ⟨vs, H2, I2, r2, q2⟩ => mt_addT pins s2 σ H2 (.ref a) vs (.ref a) us Q I2 rfl r2 q2
end
end Dw

namespace Dw
open PySem PySem.Spec PyProof.Rows L2 SX
/-! max(list, default=d) -/
theorem mxk (a v : Value) : argsOk "max" ⟨[a], [(Str.ofString "default", v)]⟩ := by unfold argsOk; kernel_rfl
theorem mxn : (toString "max" ++ toString ".loop" : String) = "max.loop" := by decide
section
variable {pr : Program} {w : World} {A : Around} {I : Addr} {fp wr : List Addr} {n : Nat} {P : Nat → Value → Prop} {St : Nat → Heap → Prop} {R : Result → Shared → Prop}
/-- what the loop leaves to be shown -/
def MxEnd (P : Nat → Value → Prop) (wr : List Addr) (n : Nat) (bt : Nat → Nat → Bool) (S : Addr) (R : Result → Shared → Prop) (s : Shared) : Prop :=
  ∀ v h' tk, P (argBest bt (n - 1)) v → (∀ b o, b ∉ wr → b ≠ S → s.heap.get? b = some o → h'.get? b = some o) → R (.ok (.ret v)) { s with heap := h', toks := tk }
theorem mx_turn (W : Walks pr w A.in1 I fp wr n P St) (bt : Nat → Nat → Bool) (cm : CmpOf pr w A.in1 .Gt P bt) (d : Value) (S : Addr) (nS : S ∉ fp) :
    ∀ (k j : Nat) (s : Shared) (x : Value) (c : Nat), n - (j + 1) = k → j + 1 ≤ n → St (j + 1) s.heap → P (argBest bt j) x → s.heap.get? S = some ⟨.type "list", none, .seq #[x, x] c, #[]⟩ → MxEnd P wr n bt S R s →
      codeAny (model pr w) A (.builtin "max.loop" ⟨[.ref I, .none, .ref S], [(Str.ofString "default", d)]⟩) R s := by
  have nW : S ∉ wr := fun q => nS (W.sub _ q)
  intro k
  induction k with
  | zero =>
    intro j s x c e0 lj st px hS fin
    have ej : j + 1 = n := by omega
    refine codeAny_builtin PySem.F.entry_max_loop ?_; rw [Around.under_plainId PySem.F.plain_max_loop _]
    show wpAny _ A.in1 (seqItems? (.ref S) >>= _) _ _ s
    refine wpAny_bind (wpAny_seqItems hS rfl (?_ : wpAny _ A.in1 (tryCatch (pyNext (.ref I)) _ >>= _) _ _ s))
    refine wpAny_bind (wpAny_tryCatch (W.done s _ _ (ej ▸ st) fun h1 tk kp => ?_))
    have hS1 := kp S _ nW hS
    refine (wpAny_bind ?_ : wpAny _ A.in1 (updateSeq S (fun _ => #[]) >>= _) _ _ _)
    refine wpAny_updateSeq hS1 rfl (wpAny_bind (wpAny_letGo (wpAny_pure ?_)))
    exact fin x _ tk (by rw [← ej]; exact px) fun b o bw bS q => (Heap.get?_update_other _ _ (Ne.symm bS)).trans (kp b o bw q)
  | succ k ih =>
    intro j s x c e0 lj st px hS fin
    have lt : j + 1 < n := by omega
    refine codeAny_builtin PySem.F.entry_max_loop ?_; rw [Around.under_plainId PySem.F.plain_max_loop _]
    show wpAny _ A.in1 (seqItems? (.ref S) >>= _) _ _ s
    refine wpAny_bind (wpAny_seqItems hS rfl (?_ : wpAny _ A.in1 (tryCatch (pyNext (.ref I)) _ >>= _) _ _ s))
    refine wpAny_bind (wpAny_tryCatch (W.item (j + 1) s _ _ lt st fun y h1 tk py st1 kp => ?_))
    have hS1 := kp S _ nW hS
    refine (wpAny_bind (wpAny_tryCatch (wpAny_holding (wpAny_bind (cm (j + 1) (argBest bt j) y x _ _ _ py px ?_)))) : wpAny _ A.in1 (tryCatch (holding [y, y] (richCompare .Gt y x >>= _)) _ >>= _) _ _ _)
    refine wpAny_bind (wpAny_holding (wpAny_truthy_bool (wpAny_bind (wpAny_letGo (wpAny_pure ?_)))))
    cases hb : bt (j + 1) (argBest bt j) with
    | true =>
      simp only [if_true]
      refine wpAny_bind (wpAny_updateSeq hS1 rfl (wpAny_bind (wpAny_letGo ?_)))
      rw [mxn]
      refine (wpAny_pure ⟨plainId_quiet PySem.F.plain_max_loop _, ih (j + 1) _ y _ (by omega) lt (W.frame _ _ _ st1 fun b bf o q => ?_) (by simp only [argBest, hb, if_true]; exact py) (Heap.get?_update_self _ hS1 rfl) fun v h2 tk2 pv kp2 => ?_⟩)
      · exact (Heap.get?_update_other _ _ (fun q : S = b => nS (q ▸ bf))).trans q
      · exact fin v h2 tk2 pv fun b o bw bS q => kp2 b o bw bS ((Heap.get?_update_other _ _ (Ne.symm bS)).trans (kp b o bw q))
    | false =>
      simp only [Bool.false_eq_true, if_false]
      refine wpAny_bind (wpAny_letGo ?_)
      rw [mxn]
      refine (wpAny_pure ⟨plainId_quiet PySem.F.plain_max_loop _, ih (j + 1) _ x c (by omega) lt st1 (by simp only [argBest, hb, Bool.false_eq_true, if_false]; exact px) hS1 fun v h2 tk2 pv kp2 => ?_⟩)
      exact fin v h2 tk2 pv fun b o bw bS q => kp2 b o bw bS (kp b o bw q)
theorem mx_first (W : Walks pr w A.in1 I fp wr n P St) (bt : Nat → Nat → Bool) (cm : CmpOf pr w A.in1 .Gt P bt) (d : Value) (S : Addr) (nS : S ∉ fp) {s : Shared} {c : Nat} (st : St 0 s.heap) (hS : s.heap.get? S = some ⟨.type "list", none, .seq #[] c, #[]⟩)
    (no : n = 0 → ∀ h' tk, (∀ b o, b ∉ wr → b ≠ S → s.heap.get? b = some o → h'.get? b = some o) → R (.ok (.ret d)) { s with heap := h', toks := tk })
    (fin : 0 < n → MxEnd P wr n bt S R s) :
    codeAny (model pr w) A (.builtin "max.loop" ⟨[.ref I, .none, .ref S], [(Str.ofString "default", d)]⟩) R s := by
  have nW : S ∉ wr := fun q => nS (W.sub _ q)
  refine codeAny_builtin PySem.F.entry_max_loop ?_; rw [Around.under_plainId PySem.F.plain_max_loop _]
  show wpAny _ A.in1 (seqItems? (.ref S) >>= _) _ _ s
  refine wpAny_bind (wpAny_seqItems hS rfl (?_ : wpAny _ A.in1 (tryCatch (pyNext (.ref I)) _ >>= _) _ _ s))
  rcases Nat.eq_zero_or_pos n with h0 | h0
  · subst h0
    refine wpAny_bind (wpAny_tryCatch (W.done s _ _ st fun h1 tk kp => ?_))
    refine (wpAny_bind (wpAny_rule ?_) : wpAny _ A.in1 (rule _ >>= _) _ _ _)
    exact wpAny_pure (no rfl h1 tk fun b o bw bS q => kp b o bw q)
  · refine wpAny_bind (wpAny_tryCatch (W.item 0 s _ _ h0 st fun y h1 tk py st1 kp => ?_))
    have hS1 := kp S _ nW hS
    refine (wpAny_bind ?_ : wpAny _ A.in1 (updateSeq S (fun _ => #[y, y]) >>= _) _ _ _)
    refine wpAny_updateSeq hS1 rfl ?_
    rw [mxn]
    refine (wpAny_pure ⟨plainId_quiet PySem.F.plain_max_loop _, mx_turn W bt cm d S nS _ 0 _ y _ rfl h0 (W.frame _ _ _ st1 fun b bf o q => ?_) py (Heap.get?_update_self _ hS1 rfl) fun v h2 tk2 pv kp2 => ?_⟩)
    · exact (Heap.get?_update_other _ _ (fun q : S = b => nS (q ▸ bf))).trans q
    · exact fin h0 v h2 tk2 pv fun b o bw bS q => kp2 b o bw bS ((Heap.get?_update_other _ _ (Ne.symm bS)).trans (kp b o bw q))
theorem mx_ints {E : Value → Shared → Prop} {s : Shared} {l : Addr} {xs : Array (Int × Tok)} {d : Value} {Q : Value → Shared → Prop} (hh : A.handled = none) (hl : s.heap.IsList l (intItems xs))
    (no : xs.size = 0 → ∀ h' tk, (∀ b o, s.heap.get? b = some o → h'.get? b = some o) → Q d { s with heap := h', toks := tk })
    (fin : ∀ v h' tk, 0 < xs.size → (intItems xs)[argBest (fun i j => decide (numAt xs i > numAt xs j)) (xs.size - 1)]? = some v → (∀ b o, s.heap.get? b = some o → h'.get? b = some o) → Q v { s with heap := h', toks := tk }) :
    wpAny (model pr w) A (call (.builtin "max") [.ref l] [(Str.ofString "default", d)]) Q E s := by
  refine PyProof.Rows.kmb_tree PySem.F.kind_max PySem.F.plain_max PySem.F.entry_max (mxk _ _) ?_
  have hlt : l < s.heap.objs.size := let ⟨_, e, _⟩ := hl; Heap.lt_size e
  refine (wpAny_bind (wpAny_of_eq (show Builtin.Builtins.bindParams "max" ["key", "default"] 0 ⟨[], [(Str.ofString "default", d)]⟩ = pure [none, some d] from rfl) ?_) : wpAny _ A.in1 (Builtin.Builtins.bindParams "max" ["key", "default"] 0 ⟨[], [(Str.ofString "default", d)]⟩ >>= _) _ _ s)
  refine wpAny_bind (wpAny_pure (wpAny_bind (iter_intList hl fun s2 e st bd nl => ?_)))
  subst e
  refine wpAny_bind (wpAny_newObj_type ?_)
  rw [mxn]
  refine wpAny_pure ⟨plainId_quiet PySem.F.plain_max_loop _, ?_⟩
  have W := Walks.list (prog := pr) (w := w) (A := A.in1) hh s.heap.objs.size l nl (intItems xs)
  have sz : (intItems xs).size = xs.size := by simp [intItems]
  have old := fun {h' : Heap} kp => old_kept (s := s) (l := l) (h' := h') kp
  have nS : (s.heap.push { cls := .type "list_iterator", data := .fields #[.ref l, .int 0 0] }).objs.size ∉ [s.heap.objs.size, l] := fun hm => Nat.lt_irrefl _ (bd _ hm)
  refine mx_first W (fun i j => decide (numAt xs i > numAt xs j)) (CmpOf.ints_gt (numAt xs) fun _ _ => intItems_at) d _ nS (W.frame _ _ _ st fun b _ o q => Heap.get?_push_of_some _ q) (Heap.get?_push_size _ rfl) (fun z h' tk kp => ?_) fun z v h' tk pv kp => ?_
  · exact no (sz ▸ z) h' tk (old fun b o bw q => kp b o bw (Nat.ne_of_lt (Heap.lt_size q)) (Heap.get?_push_of_some _ q))
  · exact fin v h' tk (sz ▸ z) (by rw [sz] at pv; exact pv) (old fun b o bw q => kp b o bw (Nat.ne_of_lt (Heap.lt_size q)) (Heap.get?_push_of_some _ q))
end
/-- max of a list of ints, with a default -/
def rMaxDf (K : PySem.W.Frag) : List V → List V → Hp → VK → Prop := fun vs zs H Q => ∃ (a : Addr) (ns : List Int) (d : Int), vs = [V.ref a] ∧ zs = [.int d] ∧ SqL K H a (ns.map V.int) ∧ ∀ m, ((ns = [] ∧ m = d) ∨ m ∈ ns) → (∀ y ∈ ns, y ≤ m) → Q (.int m) H
theorem cr_maxDf {X : Cx} (K : PySem.W.Frag) (hc : X.calm = true := by rfl) (hK : X.K = K := by rfl) : CallRK X (.builtin "max") ["default"] (rMaxDf K) := by
  subst hK
  intro pins s σ H xs zs us ws Q I r rz h
  obtain ⟨a, ns, d, rfl, rfl, hs, q⟩ := h
  obtain ⟨its, rv, hl, _⟩ := I.list hs
  rw [Vals.ref1 r]
  cases rz with
  | cons e er =>
  cases er
  obtain ⟨td, rfl⟩ := e
  obtain ⟨xs, e⟩ := rv.ints.allInts.items
  have hn : numsOf (intItems xs).toList = ns := by rw [← e]; exact rv.ints.numsOf
  rw [nums_intItems] at hn
  have hl2 := hl.isList
  rw [e] at hl2
  subst hn
  refine mx_ints (I.ok.hd hc) hl2 (fun z h' tk hk => ?_) fun v h' tk z hv hk => ?_
  · have ez : xs = #[] := Array.eq_empty_of_size_eq_zero z
    subst ez
    exact ⟨.int d, H, I.kept hk, ⟨_, rfl⟩, q d (.inl ⟨rfl, rfl⟩) (fun y hy => nomatch hy)⟩
  · obtain ⟨t, rfl⟩ := intItems_at hv
    obtain ⟨h1, h2⟩ := argBest_gt (numAt xs) (xs.size - 1)
    refine ⟨.int _, H, I.kept hk, ⟨_, rfl⟩, q _ (.inr ?_) fun y hy => ?_⟩
    · rw [numAt_eq]; exact PySem.getD_mem (by rw [List.length_map, Array.length_toList]; omega)
    · obtain ⟨j, hj, rfl⟩ := mem_getD hy
      rw [List.length_map, Array.length_toList] at hj
      rw [← numAt_eq]; exact h2 j (by omega)
end Dw

namespace Dw
open PySem PySem.Spec PyProof.Rows L2 SX
abbrev nv (n : Nat) : V := .int (n : Int)
/-! digits and the numbers that they stand for -/
def lo : List Nat → Nat
  | [] => 0
  | d :: r => d + 2 * lo r
def Bits (ds : List Nat) : Prop := ∀ d ∈ ds, d < 2
theorem lo_app : ∀ a b : List Nat, lo (a ++ b) = lo a + 2 ^ a.length * lo b
  | [], b => by simp [lo]
  | d :: a, b => by
    show d + 2 * lo (a ++ b) = d + 2 * lo a + 2 ^ (a.length + 1) * lo b
    rw [lo_app a b, Nat.pow_succ, Nat.mul_add, Nat.mul_comm (2 ^ a.length) 2, Nat.mul_assoc]
    omega
theorem lo_lt : ∀ {ds : List Nat}, Bits ds → lo ds < 2 ^ ds.length
  | [], _ => by simp [lo]
  | d :: r, h => by
    have h1 := lo_lt (ds := r) fun x hx => h x (List.mem_cons_of_mem _ hx)
    have h2 := h d List.mem_cons_self
    show d + 2 * lo r < 2 ^ (r.length + 1)
    rw [Nat.pow_succ]
    omega
theorem lo_bit : ∀ {ds : List Nat} (k : Nat), Bits ds → lo ds / 2 ^ k % 2 = ds.getD k 0
  | [], k, _ => by simp [lo]
  | d :: r, 0, h => by
    have h2 := h d List.mem_cons_self
    show (d + 2 * lo r) / 1 % 2 = d
    omega
  | d :: r, k + 1, h => by
    have h1 := lo_bit (ds := r) k fun x hx => h x (List.mem_cons_of_mem _ hx)
    have h2 := h d List.mem_cons_self
    show (d + 2 * lo r) / 2 ^ (k + 1) % 2 = r.getD k 0
    rw [Nat.pow_succ, Nat.mul_comm (2 ^ k) 2, ← Nat.div_div_eq_div_mul]
    have : (d + 2 * lo r) / 2 = lo r := by omega
    rw [this, h1]
def bitsL (n w : Nat) : List Nat := (List.range w).map fun k => n / 2 ^ k % 2
theorem bitsL_len (n w : Nat) : (bitsL n w).length = w := by simp [bitsL]
theorem bitsL_bits (n w : Nat) : Bits (bitsL n w) := fun d h => by
  obtain ⟨k, _, rfl⟩ := List.mem_map.mp h
  exact Nat.mod_lt _ (by decide)
theorem bitsL_zero (w : Nat) : bitsL 0 w = List.replicate w 0 := by
  refine List.ext_getElem (by simp [bitsL]) fun i h1 h2 => ?_
  simp [bitsL]
theorem bitsL_succ (n w : Nat) : bitsL n (w + 1) = n % 2 :: bitsL (n / 2) w := by
  unfold bitsL
  rw [List.range_succ_eq_map, List.map_cons, List.map_map]
  congr 1
  · simp
  · refine List.map_congr_left fun k _ => ?_
    show n / 2 ^ (k + 1) % 2 = n / 2 / 2 ^ k % 2
    rw [Nat.pow_succ, Nat.mul_comm, Nat.div_div_eq_div_mul]
theorem lo_bitsL : ∀ (n w : Nat), lo (bitsL n w) = n % 2 ^ w
  | n, 0 => by simp [bitsL, lo, Nat.mod_one]
  | n, w + 1 => by
    rw [bitsL_succ]
    show n % 2 + 2 * lo (bitsL (n / 2) w) = _
    rw [lo_bitsL (n / 2) w, Nat.pow_succ, Nat.mul_comm (2 ^ w) 2, Nat.mod_mul]
theorem lo_bitsL_of {n w : Nat} (h : n < 2 ^ w) : lo (bitsL n w) = n := by rw [lo_bitsL, Nat.mod_eq_of_lt h]
theorem bitsL_lo {ds : List Nat} (h : Bits ds) : bitsL (lo ds) ds.length = ds := by
  refine List.ext_getElem (by simp [bitsL]) fun i h1 h2 => ?_
  simp only [bitsL, List.getElem_map, List.getElem_range]
  rw [lo_bit i h, List.getD_eq_getElem?_getD, List.getElem?_eq_getElem h2]
  rfl
/-- the sum of the digits' values -/
theorem lo_sum : ∀ (ds : List Nat) (m : Nat), ((List.range ds.length).map fun i => ((ds.getD i 0 : Nat) : Int) * 2 ^ (i + m)).sum = (lo ds : Int) * 2 ^ m
  | [], m => by simp [lo]
  | d :: r, m => by
    rw [List.length_cons, List.range_succ_eq_map, List.map_cons, List.map_map, List.sum_cons]
    have h := lo_sum r (m + 1)
    have e : (List.map ((fun i => (((d :: r).getD i 0 : Nat) : Int) * 2 ^ (i + m)) ∘ Nat.succ) (List.range r.length)) = (List.range r.length).map fun i => ((r.getD i 0 : Nat) : Int) * 2 ^ (i + (m + 1)) := by
      refine List.map_congr_left fun i _ => ?_
      show ((((d :: r).getD (i + 1) 0 : Nat)) : Int) * 2 ^ (i + 1 + m) = _
      rw [show i + 1 + m = i + (m + 1) by omega]
      rfl
    rw [e, h]
    show ((d : Nat) : Int) * 2 ^ (0 + m) + (lo r : Int) * 2 ^ (m + 1) = ((d + 2 * lo r : Nat) : Int) * 2 ^ m
    rw [Nat.zero_add, Int.pow_succ, Int.natCast_add, Int.natCast_mul, Int.add_mul]
    have : (lo r : Int) * (2 ^ m * 2) = ((2 : Nat) : Int) * (lo r : Int) * 2 ^ m := by
      rw [Int.mul_comm ((2 : Nat) : Int), Int.mul_assoc, Int.mul_comm (2 ^ m) 2]
      rfl
    rw [this]
/-! words -/
def blen (n : Nat) : Nat := Builtin.Int.intBits (n : Int)
theorem blen_zero : blen 0 = 0 := rfl
theorem blen_pos {n : Nat} (h : n ≠ 0) : blen n = n.log2 + 1 := by
  unfold blen Builtin.Int.intBits
  rw [if_neg (by simpa using h), Int.natAbs_natCast]
theorem lt_blen (n : Nat) : n < 2 ^ blen n := by
  by_cases h : n = 0
  · subst h; decide
  · rw [blen_pos h]; exact Nat.lt_log2_self
theorem blen_le {n k : Nat} (h : n < 2 ^ k) : blen n ≤ k := by
  by_cases h0 : n = 0
  · subst h0; exact Nat.zero_le _
  · rw [blen_pos h0]
    exact Nat.succ_le_of_lt ((Nat.log2_lt h0).mpr h)
theorem blen_top {n : Nat} (h : n ≠ 0) : n / 2 ^ (blen n - 1) % 2 = 1 := by
  rw [blen_pos h, Nat.add_sub_cancel]
  have h1 := Nat.log2_self_le h
  have h2 : n < 2 ^ (n.log2 + 1) := Nat.lt_log2_self
  rw [Nat.pow_succ] at h2
  have hp : 0 < 2 ^ n.log2 := Nat.two_pow_pos _
  have : n / 2 ^ n.log2 = 1 := by
    refine Nat.div_eq_of_lt_le ?_ ?_
    · rw [Nat.one_mul]; exact h1
    · rw [Nat.mul_comm]; omega
  rw [this]
def bls : List Nat → Nat
  | [] => 0
  | n :: r => max (blen n) (bls r)
theorem bls_le {ns : List Nat} {k : Nat} (h : ∀ n ∈ ns, n < 2 ^ k) : bls ns ≤ k := by
  induction ns with
  | nil => exact Nat.zero_le _
  | cons n r ih => exact Nat.max_le.mpr ⟨blen_le (h n List.mem_cons_self), ih fun x hx => h x (List.mem_cons_of_mem _ hx)⟩
theorem le_bls {ns : List Nat} {n : Nat} (h : n ∈ ns) : blen n ≤ bls ns := by
  induction ns with
  | nil => cases h
  | cons m r ih =>
    rcases List.mem_cons.mp h with rfl | h
    · exact Nat.le_max_left _ _
    · exact Nat.le_trans (ih h) (Nat.le_max_right _ _)
theorem bls_mem {ns : List Nat} (h : ns ≠ []) : ∃ n ∈ ns, blen n = bls ns := by
  induction ns with
  | nil => exact absurd rfl h
  | cons m r ih =>
    by_cases hr : r = []
    · subst hr
      exact ⟨m, List.mem_cons_self, by simp [bls]⟩
    · obtain ⟨n, hn, e⟩ := ih hr
      rcases Nat.le_total (blen m) (bls r) with q | q
      · exact ⟨n, List.mem_cons_of_mem _ hn, by rw [e]; exact (Nat.max_eq_right q).symm⟩
      · exact ⟨m, List.mem_cons_self, (Nat.max_eq_left q).symm⟩
theorem bls_max {ns : List Nat} {m : Int} (h : (ns.map (fun n => ((blen n : Nat) : Int)) = [] ∧ m = 0) ∨ m ∈ ns.map fun n => ((blen n : Nat) : Int)) (hm : ∀ y ∈ ns.map (fun n => ((blen n : Nat) : Int)), y ≤ m) : m = (bls ns : Nat) := by
  rcases h with ⟨h, rfl⟩ | h
  · rw [List.map_eq_nil_iff.mp h]; rfl
  · obtain ⟨n, hn, rfl⟩ := List.mem_map.mp h
    obtain ⟨k, hk, e⟩ := bls_mem (ns := ns) (fun z => by rw [z] at hn; cases hn)
    have h1 := hm _ (List.mem_map.mpr ⟨k, hk, rfl⟩)
    have h2 := le_bls hn
    omega
def bitAt (ns : List Nat) (k : Nat) : List Nat := ns.map fun n => n / 2 ^ k % 2
theorem bitAt_bits (ns : List Nat) (k : Nat) : Bits (bitAt ns k) := fun d h => by
  obtain ⟨n, _, rfl⟩ := List.mem_map.mp h
  exact Nat.mod_lt _ (by decide)
theorem bitAt_len (ns : List Nat) (k : Nat) : (bitAt ns k).length = ns.length := by simp [bitAt]
def wd (ns : List Nat) : List Nat := (List.range (bls ns)).map fun k => lo (bitAt ns k)
theorem wd_len (ns : List Nat) : (wd ns).length = bls ns := by simp [wd]
theorem wd_get {ns : List Nat} {k : Nat} (h : k < bls ns) : (wd ns)[k]? = some (lo (bitAt ns k)) := by simp [wd, h]
theorem wd_lt {ns : List Nat} {l : Nat} (h : l ∈ wd ns) : l < 2 ^ ns.length := by
  obtain ⟨k, _, rfl⟩ := List.mem_map.mp h
  have := lo_lt (bitAt_bits ns k)
  rwa [bitAt_len] at this
theorem bitAt_ge {ns : List Nat} {k : Nat} (h : bls ns ≤ k) : bitAt ns k = List.replicate ns.length 0 := by
  refine List.ext_getElem (by simp [bitAt]) fun i h1 h2 => ?_
  simp only [bitAt, List.getElem_map, List.getElem_replicate]
  have h3 : i < ns.length := by simpa [bitAt] using h1
  have h4 : ns[i] < 2 ^ k := Nat.lt_of_lt_of_le (lt_blen _) (Nat.pow_le_pow_right (by decide) (Nat.le_trans (le_bls (List.getElem_mem h3)) h))
  rw [Nat.div_eq_of_lt h4]
theorem lo_zeros : ∀ w : Nat, lo (List.replicate w 0) = 0
  | 0 => rfl
  | w + 1 => by
    show 0 + 2 * lo (List.replicate w 0) = 0
    rw [lo_zeros w]
theorem lo_bitAt_ge {ns : List Nat} {k : Nat} (h : bls ns ≤ k) : lo (bitAt ns k) = 0 := by rw [bitAt_ge h, lo_zeros]
theorem lo_ne : ∀ {ds : List Nat}, (∃ d ∈ ds, d ≠ 0) → lo ds ≠ 0
  | [], ⟨_, h, _⟩ => nomatch h
  | x :: r, ⟨d, h, hd⟩ => by
    show x + 2 * lo r ≠ 0
    rcases List.mem_cons.mp h with rfl | h
    · omega
    · have := lo_ne ⟨d, h, hd⟩
      omega
theorem wd_snoc {ns : List Nat} (h : 0 < bls ns) : ∃ r, wd ns = r ++ [lo (bitAt ns (bls ns - 1))] := by
  obtain ⟨n, e⟩ : ∃ n, bls ns = n + 1 := ⟨bls ns - 1, by omega⟩
  refine ⟨(List.range n).map fun k => lo (bitAt ns k), ?_⟩
  unfold wd
  rw [e, List.range_succ, List.map_append]
  rfl
theorem wd_last {ns : List Nat} (h : 0 < bls ns) : lo (bitAt ns (bls ns - 1)) ≠ 0 := by
  obtain ⟨n, hn, e⟩ := bls_mem (ns := ns) (fun z => by rw [z] at h; exact absurd h (by decide))
  have n0 : n ≠ 0 := fun z => by
    rw [z, blen_zero] at e
    omega
  refine lo_ne ⟨n / 2 ^ (bls ns - 1) % 2, List.mem_map.mpr ⟨n, hn, rfl⟩, ?_⟩
  rw [← e, blen_top n0]
  decide
def un (word : List Nat) (w : Nat) : List Nat := (List.range w).map fun t => lo (bitAt word t)
theorem bitAt_wd (ns : List Nat) (z t : Nat) (ht : t < ns.length) : lo (bitAt (wd ns ++ List.replicate z 0) t) = ns[t] := by
  have e : bitAt (wd ns ++ List.replicate z 0) t = bitsL ns[t] (bls ns) ++ List.replicate z 0 := by
    unfold bitAt
    rw [List.map_append, List.map_replicate, Nat.zero_div]
    congr 1
    unfold wd bitsL
    rw [List.map_map]
    refine List.map_congr_left fun k _ => ?_
    show lo (bitAt ns k) / 2 ^ t % 2 = _
    rw [lo_bit t (bitAt_bits ns k), List.getD_eq_getElem?_getD, bitAt, List.getElem?_map, List.getElem?_eq_getElem ht]
    rfl
  rw [e, lo_app, lo_zeros, Nat.mul_zero, Nat.add_zero]
  exact lo_bitsL_of (Nat.lt_of_lt_of_le (lt_blen _) (Nat.pow_le_pow_right (by decide) (le_bls (List.getElem_mem ht))))
theorem un_wd (ns : List Nat) (z : Nat) : un (wd ns ++ List.replicate z 0) ns.length = ns := by
  refine List.ext_getElem (by simp [un]) fun i h1 h2 => ?_
  simp only [un, List.getElem_map, List.getElem_range]
  exact bitAt_wd ns z i h2
/-! letters with a track more -/
def wt (l t v : Nat) : Nat := l % 2 ^ t + 2 ^ t * (v + 2 * (l / 2 ^ t))
theorem wt_mod {l t v : Nat} : wt l t v % 2 ^ t = l % 2 ^ t := by
  unfold wt
  rw [Nat.add_mul_mod_self_left, Nat.mod_mod]
theorem wt_div {l t v : Nat} : wt l t v / 2 ^ t = v + 2 * (l / 2 ^ t) := by
  unfold wt
  have hp : 0 < 2 ^ t := Nat.two_pow_pos _
  rw [Nat.add_mul_div_left _ _ hp, Nat.div_eq_of_lt (Nat.mod_lt _ hp), Nat.zero_add]
theorem wt_or {l t v : Nat} (hv : v < 2) : (l % 2 ^ t ||| v * 2 ^ t) ||| l / 2 ^ t * 2 ^ (t + 1) = wt l t v := by
  have hp : 0 < 2 ^ t := Nat.two_pow_pos _
  have h1 : l % 2 ^ t < 2 ^ t := Nat.mod_lt _ hp
  have e1 : l % 2 ^ t ||| v * 2 ^ t = 2 ^ t * v + l % 2 ^ t := by
    rw [Nat.or_comm, Nat.mul_comm, Nat.two_pow_add_eq_or_of_lt h1]
  have h2 : 2 ^ t * v + l % 2 ^ t < 2 ^ (t + 1) := by
    rw [Nat.pow_succ]
    have : 2 ^ t * v ≤ 2 ^ t * 1 := Nat.mul_le_mul_left _ (by omega)
    omega
  rw [e1, Nat.or_comm, Nat.mul_comm (l / 2 ^ t), ← Nat.two_pow_add_eq_or_of_lt h2, Nat.pow_succ]
  unfold wt
  rw [Nat.mul_add, Nat.mul_assoc]
  omega
def wo (l t : Nat) : Nat := l % 2 ^ t + 2 ^ t * (l / 2 ^ (t + 1))
theorem wo_or {l t : Nat} : (l % 2 ^ t ||| l / 2 ^ (t + 1) * 2 ^ t) = wo l t := by
  have hp : 0 < 2 ^ t := Nat.two_pow_pos _
  have h1 : l % 2 ^ t < 2 ^ t := Nat.mod_lt _ hp
  unfold wo
  rw [Nat.or_comm, Nat.mul_comm, ← Nat.two_pow_add_eq_or_of_lt h1]
  omega
theorem wo_wt {l t v : Nat} (hv : v < 2) : wo (wt l t v) t = l := by
  unfold wo
  rw [wt_mod, Nat.pow_succ, ← Nat.div_div_eq_div_mul, wt_div]
  have : (v + 2 * (l / 2 ^ t)) / 2 = l / 2 ^ t := by omega
  rw [this, Nat.mod_add_div]
theorem wt_lo {l w t v : Nat} (hl : l < 2 ^ w) (ht : t ≤ w) : lo ((bitsL l w).take t ++ [v] ++ (bitsL l w).drop t) = wt l t v := by
  have e1 : (bitsL l w).take t = bitsL l t := by
    unfold bitsL
    rw [← List.map_take, List.take_range, Nat.min_eq_left ht]
  have e2 : lo ((bitsL l w).drop t) = l / 2 ^ t := by
    have h := lo_app ((bitsL l w).take t) ((bitsL l w).drop t)
    rw [List.take_append_drop, lo_bitsL_of hl, e1, lo_bitsL, bitsL_len] at h
    have h2 := Nat.mod_add_div l (2 ^ t)
    have hp : 0 < 2 ^ t := Nat.two_pow_pos _
    have h3 : 2 ^ t * lo ((bitsL l w).drop t) = 2 ^ t * (l / 2 ^ t) := by omega
    exact Nat.eq_of_mul_eq_mul_left hp h3
  rw [lo_app, lo_app, e2, e1, lo_bitsL, List.length_append, bitsL_len]
  show l % 2 ^ t + 2 ^ t * (v + 2 * 0) + 2 ^ (t + 1) * (l / 2 ^ t) = wt l t v
  unfold wt
  rw [Nat.pow_succ, Nat.mul_add, Nat.mul_add, Nat.mul_assoc]
  omega
/-! the same of Python's ints -/
theorem i_dig (n k : Nat) : Builtin.bitAnd ((n : Int) / 2 ^ k) 1 = ((n / 2 ^ k % 2 : Nat) : Int) := by
  have e : (n : Int) / 2 ^ k = ((n / 2 ^ k : Nat) : Int) := by rw [Int.natCast_ediv, PySem.W.kbt_cast]
  have h := PySem.W.kbt_mask ((n : Int) / 2 ^ k) 1
  rw [show ((2 : Int) ^ 1 - 1) = 1 by decide, show ((2 : Int) ^ 1) = 2 by decide] at h
  rw [h, e, Int.natCast_emod]
  rfl
theorem i_low (n k : Nat) : Builtin.bitAnd (n : Int) (2 ^ k - 1) = ((n % 2 ^ k : Nat) : Int) := by
  rw [PySem.W.kbt_mask, Int.natCast_emod, PySem.W.kbt_cast]
theorem i_or (a b : Nat) : Builtin.bitOr (a : Int) (b : Int) = ((a ||| b : Nat) : Int) := by
  rw [bitOr_nn (Int.natCast_nonneg _) (Int.natCast_nonneg _), Int.toNat_natCast, Int.toNat_natCast]
theorem i_shl (a k : Nat) : (a : Int) * 2 ^ k = ((a * 2 ^ k : Nat) : Int) := by rw [Int.natCast_mul, PySem.W.kbt_cast]
theorem i_shr (a k : Nat) : (a : Int) / 2 ^ k = ((a / 2 ^ k : Nat) : Int) := by rw [Int.natCast_ediv, PySem.W.kbt_cast]
theorem i_one (k : Nat) : (1 : Int) * 2 ^ k = ((2 ^ k : Nat) : Int) := by rw [Int.one_mul, PySem.W.kbt_cast]
theorem shlN {n k b : Nat} (h : n < 2 ^ b) (hb : b + k ≤ 134217728) : CShl (n : Int) (k : Int) := shl_ok (by rw [Int.natAbs_natCast]; exact h) hb
/-! a comprehension without a test: a new list of what each turn gives -/
theorem lc_map {J : It} {n : Nat} {G : Hp → Prop} {Y : Nat → Hp → V → Hp → Prop} (w : Walk J n G Y) {g : TG} {te : TE} {vs : List Nat} {σ : L2.St} {H1 : Hp} {D : Addr} {Qd : Hp → Prop} (out : Nat → V) (hn : n ≤ 10000) (hD : H1 D = none)
    (hG : ∀ H, Same H1 H → G H)
    (hs : ∀ i x H H' (N : VK), i < n → Same H1 H → Y i H x H' → (∀ H2, Same H H2 → N (out i) H2) → g x (wipe σ vs) H' fun σ2 H2 => wipe σ2 vs = wipe σ vs ∧ te σ2 H2 N)
    (hd : ∀ H, Same H1 H → H D = some (.lst ((List.range n).map out)) → Qd H) : LcJ J g tYes te vs D σ H1 Qd := by
  refine lc_it w (fun i H => Same H1 H ∧ H D = some (.lst ((List.range i).map out))) ⟨same_upd hD, upd_same⟩ (fun i H _ p => hG H p.1) (fun i x H H' hi p y => ?_) fun H p => hd H p.1 p.2
  obtain ⟨s1, hDl⟩ := p
  refine hs i x H H' (fun y H4 => ∃ acc, H4 D = some (.lst acc) ∧ acc.length < sizeLine ∧ (Same H1 (upd H4 D (.lst (acc ++ [y]))) ∧ (upd H4 D (.lst (acc ++ [y]))) D = some (.lst ((List.range (i + 1)).map out)))) hi s1 y fun H2 s2 => ⟨_, s2 _ _ hDl, by rw [List.length_map, List.length_range]; exact smallt (by omega), Dw.Same.new (s1.trans s2) hD, ?_⟩
  rw [upd_same, List.range_succ, List.map_append]
  rfl
theorem blkOk_nm {N : List Str} {sc scope : Scope} {own : List (Str × Nat)} (nm : List (Str × NameKind)) (e : sc.names = nm) (h : blkC N ⟨.function, nm, false, false, []⟩ scope own = true) : BlkOk N sc scope own := by
  refine blkOk_by ?_
  unfold blkC at h ⊢
  rw [e]
  exact h
theorem sameT {K : PySem.W.Frag} {H H' : Hp} {a : Addr} {xs : List V} (s : Same H H') (h : SqT K H a xs) : SqT K H' a xs := by
  rcases h with (h | ⟨o, h⟩) | h
  · exact .inl (.inl (s _ _ h))
  · exact .inl (.inr ⟨o, s _ _ h⟩)
  · exact .inr h
theorem yat_i {xs : List V} {i : Nat} {H H' : Hp} {x : V} (h : YAt xs i H x H') : H' = H ∧ xs[i]? = some x := h
section
variable {X : Cx} (K : PySem.W.Frag)
theorem piL {tg l : Expr} {tl : TE} (hl : PE X l tl) (h : X.K = K := by rfl) : PI X tg l (iList K tl) := h ▸ pi_list hl
theorem piT {tg l : Expr} {tl : TE} (hl : PE X l tl) (h : X.K = K := by rfl) : PI X tg l (iTup K tl) := h ▸ pi_tup hl
theorem piE {e : Expr} {ta : TA} {p pos tpos : Pos} {elts : List Expr} {kk : Nat} (hg : Gl X "enumerate") (hm : X.mg "enumerate" = none) (ha : PA X [e] ta) (hs : starEach [e] X.env = [(false, eval e X.env)] := by rfl) (h : X.K = K := by rfl) :
    PI X (.Tuple elts kk tpos) (.Call (.Name "enumerate" p) [e] [] pos) (iEnum K ta) := h ▸ pi_enum hg hm ha hs
theorem sumK (hc : X.calm = true := by rfl) (h : X.K = K := by rfl) : CallR X (.builtin "sum") (rSum K) := h ▸ cr_sum hc
end
end Dw
namespace Dw
open PySem PySem.Spec PyProof.Rows L2 SX
/-- the drawing's own list at p, over the script at q -/
def Draw (K : PySem.W.Frag) (H : Hp) (p q : Addr) (ns : List Int) : Prop := (∀ H', But p H H' → SqL K H' q (ns.map V.int)) ∧ ∃ a v x : Int, H p = some (.lst [.ref q, .int a, .int v, .int x]) ∧ 0 ≤ a ∧ 0 ≤ v
theorem Draw.same {K : PySem.W.Frag} {H H' : Hp} {p q : Addr} {ns : List Int} (h : Draw K H p q ns) (e : Same H H') : Draw K H' p q ns := by
  obtain ⟨hq, a, v, x, hp, h0, h1⟩ := h
  exact ⟨fun H2 b => hq H2 ((But.of e).trans b), a, v, x, e _ _ hp, h0, h1⟩
theorem Draw.ne {K : PySem.W.Frag} {H : Hp} {p q t : Addr} {ns : List Int} (h : Draw K H p q ns) (ht : H t = none) : t ≠ p := by
  obtain ⟨_, _, _, _, hp, _⟩ := h
  exact (ne_of_none hp ht).symm
/-- a store at an address that was free before -/
theorem Draw.put {K : PySem.W.Frag} {H0 H : Hp} {p q t : Addr} {ns : List Int} {o : HO} (d : Draw K H0 p q ns) (b : But p H0 H) (h : Draw K H p q ns) (ht : H0 t = none) : Draw K (upd H t o) p q ns := by
  have n := d.ne ht
  obtain ⟨hq, _⟩ := d
  obtain ⟨_, a, v, x, hp, h0, h1⟩ := h
  exact ⟨fun H2 b2 => hq H2 ((b.new ht).trans b2), a, v, x, by rw [upd_ne n.symm]; exact hp, h0, h1⟩
theorem Draw.start {K : PySem.W.Frag} {H : Hp} {p q : Addr} {ns : List Int} (hS : SqL K H q (ns.map V.int)) (hp : H p = none) : Draw K (upd H p (.lst [.ref q, .int 0, .int 0, .int 1])) p q ns := by
  refine ⟨fun H' b => ?_, 0, 0, 1, upd_same, by decide, by decide⟩
  have s : ∀ o, H q = some o → H' q = some o := fun o e => by
    have n : q ≠ p := fun z => by rw [z, hp] at e; cases e
    exact b _ _ n (by rw [upd_ne n]; exact e)
  rcases hS with (h | ⟨o, h⟩) | h
  · exact .inl (.inl (s _ h))
  · exact .inl (.inr ⟨o, s _ h⟩)
  · exact .inr h
end Dw
namespace Dw
open PySem PySem.Spec PyProof.Rows L2 SX
/-! deep equality of data -/
theorem eqD_of {K : PySem.W.Frag} {H : Hp} {x y : V} {d : PyData} {Q : VK} (h1 : Dp K H x d) (h2 : Dp K H y d) (s : SeqAt.shaped d = true) (q : Q (.bl true) H) : rEqD K x y H Q := ⟨d, d, h1, h2, s, s, by rw [shaped_refl s]; exact q⟩
theorem neD_of {K : PySem.W.Frag} {H : Hp} {x y : V} {d : PyData} {Q : VK} (h1 : Dp K H x d) (h2 : Dp K H y d) (s : SeqAt.shaped d = true) (q : Q (.bl false) H) : rNeD K x y H Q := ⟨d, d, h1, h2, s, s, by rw [shaped_refl s]; exact q⟩
def natD (n : Nat) : PyData := .int (n : Int)
theorem nats_lay : ∀ ns : List Nat, PyData.canLayAll0 (ns.map natD) = true
  | [] => by simp [PyData.canLayAll0]
  | n :: r => by simp [PyData.canLayAll0, natD, PyData.canLay0, nats_lay r]
theorem nats_depth : ∀ ns : List Nat, PyData.depthAll (ns.map natD) = 0
  | [] => by simp [PyData.depthAll]
  | n :: r => by simp [PyData.depthAll, natD, PyData.depth, nats_depth r]
theorem nats_dp {K : PySem.W.Frag} {H : Hp} : ∀ ns : List Nat, DpAll K H (ns.map nv) (ns.map natD)
  | [] => .nil
  | _ :: r => .cons (.int _) (nats_dp r)
theorem nats_shaped (ns : List Nat) : SeqAt.shaped (.list (ns.map natD)) = true := by
  simp [SeqAt.shaped, PyData.canLay0, PyData.depth, nats_lay ns, nats_depth]
theorem nats_shapedT (ns : List Nat) : SeqAt.shaped (.tuple (ns.map natD)) = true := by
  simp [SeqAt.shaped, PyData.canLay0, PyData.depth, nats_lay ns, nats_depth]
theorem cutV_to {xs : List V} {t : Nat} (h : t ≤ xs.length) : cutV xs none (some (t : Int)) = xs.take t := by
  unfold cutV
  rw [HT.sIx_nat]
  show (xs.drop 0).take (min t xs.length - 0) = _
  rw [List.drop_zero, Nat.sub_zero, Nat.min_eq_left h]
theorem cutV_from {xs : List V} {t : Nat} (h : t ≤ xs.length) : cutV xs (some (t : Int)) none = xs.drop t := by
  unfold cutV
  rw [HT.sIx_nat]
  show (xs.drop (min t xs.length)).take (xs.length - min t xs.length) = _
  rw [Nat.min_eq_left h, List.take_of_length_le (by rw [List.length_drop]; omega)]
end Dw

namespace Dw
open PySem PySem.Spec PyProof.Rows L2 SX
theorem hu1' {A : Around} {k : Nat} (hr : Room k A) : A.units + 1 < cLine := by
  have := hr.units
  omega
/-! fields, read and stored -/
def FldR (K : PySem.W.Frag) (f : Str) : V → Hp → VK → Prop := fun x H Q => ∃ a C dx fs v, x = .ref a ∧ H a = some (.ins C dx fs) ∧ Cls K C ∧ NoAttr K C f ∧ fs.lookup f = some v ∧ Q v H
def tFd (K : PySem.W.Frag) (ta : TE) (f : Str) : TE := fun σ H Q => ta σ H fun x H1 => FldR K f x H1 Q
theorem fld_of {K : PySem.W.Frag} {f : Str} {a C dx : Addr} {fs : List (Str × V)} {v : V} {H : Hp} {Q : VK} (c : Cls K C) (n : NoAttr K C f) (h : H a = some (.ins C dx fs)) (l : fs.lookup f = some v) (q : Q v H) : FldR K f (.ref a) H Q := ⟨a, C, dx, fs, v, rfl, h, c, n, l, q⟩
def FldS (K : PySem.W.Frag) (f : Str) (x y : V) (H : Hp) (R : Hp → Prop) : Prop := ∃ a C dx fs, x = .ref a ∧ H a = some (.ins C dx fs) ∧ Cls K C ∧ NoAttr K C f ∧ fs.length < 1000 ∧ R (upd H a (.ins C dx (putF f y fs)))
def tFs (K : PySem.W.Frag) (ta tv : TE) (f : Str) : TS := fun D σ H => tv σ H fun y H1 => ta σ H1 fun x H2 => FldS K f x y H2 (D.nx σ)
theorem flds_of {K : PySem.W.Frag} {f : Str} {a C dx : Addr} {fs : List (Str × V)} {y : V} {H : Hp} {R : Hp → Prop} (c : Cls K C) (n : NoAttr K C f) (h : H a = some (.ins C dx fs)) (l : fs.length < 1000) (q : R (upd H a (.ins C dx (putF f y fs)))) : FldS K f (.ref a) y H R := ⟨a, C, dx, fs, rfl, h, c, n, l, q⟩
section
variable {X : Cx} (K : PySem.W.Frag)
theorem pe_fd {e : Expr} {ta : TE} {f : Str} {pos : Pos} (he : PE X e ta) (hb : attributeBase e f X.env (eval e X.env) = eval e X.env) (h : X.K = K := by rfl) : PE X (.Attribute e f pos) (tFd K ta f) := h ▸ pe_fld he hb
theorem ps_fldK {o value : Expr} {ta tv : TE} {f : Str} {pos pos' : Pos} (ha : PE X o ta) (hv : PE X value tv) (hs : swapsWith value (some (.Attribute o f pos')) pos.line X.env = pure false) (h : X.K = K := by rfl) : PS X (.Assign [.Attribute o f pos'] value pos) (tFs K ta tv f) := h ▸ ps_fld ha hv hs
theorem allQ (hc : X.calm = true := by rfl) (h : X.K = K := by rfl) : CallR X (.builtin "all") (rAll K) := h ▸ cr_all hc
end
/-! tables -/
structure RowsAt (H : Hp) (rs : List Addr) (T : List (List Int)) : Prop where
  len : rs.length = T.length
  at_ : ∀ (i : Nat) (a : Addr) (r : List Int), rs[i]? = some a → T[i]? = some r → H a = some (.lst (r.map V.int))
theorem RowsAt.same {H H' : Hp} {rs : List Addr} {T : List (List Int)} (h : RowsAt H rs T) (s : Same H H') : RowsAt H' rs T := ⟨h.len, fun i a r h1 h2 => s _ _ (h.at_ i a r h1 h2)⟩
theorem RowsAt.get {H : Hp} {rs : List Addr} {T : List (List Int)} {i : Nat} {r : List Int} (h : RowsAt H rs T) (e : T[i]? = some r) : ∃ a, rs[i]? = some a ∧ H a = some (.lst (r.map V.int)) := by
  have hi : i < rs.length := by
    rw [h.len]
    exact (List.getElem?_eq_some_iff.mp e).1
  exact ⟨rs[i], List.getElem?_eq_getElem hi, h.at_ i _ r (List.getElem?_eq_getElem hi) e⟩
def goodRow (n l : Nat) (r : List Int) : Bool := decide (r.length = l) && r.all fun x => decide (0 ≤ x) && decide (x < (n : Int))
def goodT (T : List (List Int)) (l : Nat) : Bool := T.all (goodRow T.length l)
/-- where state s is led to by a letter -/
def nxt (T : List (List Int)) (s l : Nat) : Nat := ((T.getD s []).getD l 0).toNat
def runT (T : List (List Int)) (s : Nat) (ls : List Nat) : Nat := ls.foldl (nxt T) s
theorem goodT_row {T : List (List Int)} {l s : Nat} (g : goodT T l = true) (h : s < T.length) : ∃ r, T[s]? = some r ∧ r.length = l ∧ ∀ x ∈ r, 0 ≤ x ∧ x < (T.length : Int) := by
  have h1 := List.all_eq_true.mp g T[s] (List.getElem_mem h)
  unfold goodRow at h1
  rw [Bool.and_eq_true, decide_eq_true_eq, List.all_eq_true] at h1
  refine ⟨T[s], List.getElem?_eq_getElem h, h1.1, fun x hx => ?_⟩
  have h2 := h1.2 x hx
  rw [Bool.and_eq_true, decide_eq_true_eq, decide_eq_true_eq] at h2
  exact h2
theorem goodT_at {T : List (List Int)} {l s a : Nat} (g : goodT T l = true) (h : s < T.length) (ha : a < l) : ∃ r, T[s]? = some r ∧ r[a]? = some ((nxt T s a : Nat) : Int) ∧ nxt T s a < T.length := by
  obtain ⟨r, e, hl, hx⟩ := goodT_row g h
  have ha' : a < r.length := by omega
  have e2 : r[a]? = some r[a] := List.getElem?_eq_getElem ha'
  have h3 := hx r[a] (List.getElem_mem ha')
  have e3 : nxt T s a = r[a].toNat := by
    unfold nxt
    have e4 : T.getD s [] = r := by rw [List.getD_eq_getElem?_getD, e, Option.getD_some]
    rw [e4, List.getD_eq_getElem?_getD, e2, Option.getD_some]
  refine ⟨r, e, ?_, by omega⟩
  rw [e2, e3, Int.toNat_of_nonneg h3.1]
theorem runT_lt {T : List (List Int)} {l : Nat} (g : goodT T l = true) : ∀ (ls : List Nat) (s : Nat), (∀ x ∈ ls, x < l) → s < T.length → runT T s ls < T.length
  | [], _, _, h => h
  | x :: r, s, hl, h => by
    obtain ⟨_, _, _, h2⟩ := goodT_at g h (hl x List.mem_cons_self)
    exact runT_lt g r _ (fun y hy => hl y (List.mem_cons_of_mem _ hy)) h2
theorem runT_snoc (T : List (List Int)) (s : Nat) (ls : List Nat) (x : Nat) : runT T s (ls ++ [x]) = nxt T (runT T s ls) x := by
  unfold runT
  rw [List.foldl_append]
  rfl
/-! machines -/
def mflds (w : Nat) (t b : Addr) : List (Str × V) := putF "accepting" (.ref b) (putF "table" (.ref t) (putF "width" (nv w) []))
theorem kwt : ¬ (("width" : Str) = "table") := by decide +kernel
theorem kwa : ¬ (("width" : Str) = "accepting") := by decide +kernel
theorem kta : ¬ (("table" : Str) = "accepting") := by decide +kernel
theorem mf_w (w : Nat) (t b : Addr) : (mflds w t b).lookup ("width" : Str) = some (nv w) := by
  unfold mflds
  rw [lookup_putF, if_neg kwa, lookup_putF, if_neg kwt, lookup_putF, if_pos rfl]
theorem mf_t (w : Nat) (t b : Addr) : (mflds w t b).lookup ("table" : Str) = some (.ref t) := by
  unfold mflds
  rw [lookup_putF, if_neg kta, lookup_putF, if_pos rfl]
theorem mf_a (w : Nat) (t b : Addr) : (mflds w t b).lookup ("accepting" : Str) = some (.ref b) := by
  unfold mflds
  rw [lookup_putF, if_pos rfl]
theorem mf_no (w : Nat) (t b : Addr) {m : Str} (h1 : ¬ m = "width") (h2 : ¬ m = "table") (h3 : ¬ m = "accepting") : (mflds w t b).lookup m = none := by
  unfold mflds
  rw [lookup_putF, if_neg h3, lookup_putF, if_neg h2, lookup_putF, if_neg h1]
  rfl
structure MachAt (C : Addr) (H : Hp) (m : Addr) (w : Nat) (T : List (List Int)) (acc : List Bool) : Prop where
  ex : ∃ dx t b rs, H m = some (.ins C dx (mflds w t b)) ∧ H t = some (.lst (rs.map V.ref)) ∧ RowsAt H rs T ∧ H b = some (.lst (acc.map V.bl))
theorem MachAt.same {C : Addr} {H H' : Hp} {m : Addr} {w : Nat} {T : List (List Int)} {acc : List Bool} (h : MachAt C H m w T acc) (s : Same H H') : MachAt C H' m w T acc := by
  obtain ⟨dx, t, b, rs, h1, h2, h3, h4⟩ := h.ex
  exact ⟨dx, t, b, rs, s _ _ h1, s _ _ h2, h3.same s, s _ _ h4⟩
/-- what a machine must be -/
structure MOk (w : Nat) (T : List (List Int)) (acc : List Bool) : Prop where
  w6 : w ≤ 6
  pos : 0 < T.length
  le : T.length ≤ 400
  good : goodT T (2 ^ w) = true
  al : acc.length = T.length
  set : ∀ i, i < T.length → acc[i]? = acc[nxt T i 0]?
theorem Same.but {H H' : Hp} {p : Addr} {o : HO} (h : H p = none) (s : Same H H') : But p H (upd H' p o) := (But.of s).trans But.upd
/-- all but what is new -/
theorem same_of_but {H H' : Hp} {p : Addr} (h : H p = none) (b : But p H H') : Same H H' := fun a o e => b a o (ne_of_none e h) e
def boolD (b : Bool) : PyData := .bool b
theorem bools_lay : ∀ ns : List Bool, PyData.canLayAll0 (ns.map boolD) = true
  | [] => by simp [PyData.canLayAll0]
  | n :: r => by simp [PyData.canLayAll0, boolD, PyData.canLay0, bools_lay r]
theorem bools_depth : ∀ ns : List Bool, PyData.depthAll (ns.map boolD) = 0
  | [] => by simp [PyData.depthAll]
  | n :: r => by simp [PyData.depthAll, boolD, PyData.depth, bools_depth r]
theorem bools_dp {K : PySem.W.Frag} {H : Hp} : ∀ ns : List Bool, DpAll K H (ns.map V.bl) (ns.map boolD)
  | [] => .nil
  | _ :: r => .cons (.bl _) (bools_dp r)
theorem bools_shaped (ns : List Bool) : SeqAt.shaped (.list (ns.map boolD)) = true := by
  simp [SeqAt.shaped, PyData.canLay0, PyData.depth, bools_lay ns, bools_depth]
def intD (n : Int) : PyData := .int n
theorem ints_lay : ∀ ns : List Int, PyData.canLayAll0 (ns.map intD) = true
  | [] => by simp [PyData.canLayAll0]
  | n :: r => by simp [PyData.canLayAll0, intD, PyData.canLay0, ints_lay r]
theorem ints_depth : ∀ ns : List Int, PyData.depthAll (ns.map intD) = 0
  | [] => by simp [PyData.depthAll]
  | n :: r => by simp [PyData.depthAll, intD, PyData.depth, ints_depth r]
theorem ints_dp {K : PySem.W.Frag} {H : Hp} : ∀ ns : List Int, DpAll K H (ns.map V.int) (ns.map intD)
  | [] => .nil
  | _ :: r => .cons (.int _) (ints_dp r)
theorem ints_shaped (ns : List Int) : SeqAt.shaped (.list (ns.map intD)) = true := by
  simp [SeqAt.shaped, PyData.canLay0, PyData.depth, ints_lay ns, ints_depth]
def rowD (r : List Int) : PyData := .list (r.map intD)
theorem rows_lay : ∀ T : List (List Int), PyData.canLayAll0 (T.map rowD) = true
  | [] => by simp [PyData.canLayAll0]
  | n :: r => by simp [PyData.canLayAll0, rowD, PyData.canLay0, ints_lay n, rows_lay r]
theorem rows_depth : ∀ T : List (List Int), PyData.depthAll (T.map rowD) ≤ 1
  | [] => by simp [PyData.depthAll]
  | n :: r => by
    have := rows_depth r
    simp [PyData.depthAll, rowD, PyData.depth, ints_depth n]
    omega
theorem rows_shaped (T : List (List Int)) : SeqAt.shaped (.list (T.map rowD)) = true := by
  have := rows_depth T
  simp [SeqAt.shaped, PyData.canLay0, PyData.depth, rows_lay T]
  omega
theorem rows_dp {K : PySem.W.Frag} {H : Hp} : ∀ {rs : List Addr} {T : List (List Int)}, RowsAt H rs T → DpAll K H (rs.map V.ref) (T.map rowD)
  | [], [], _ => .nil
  | a :: rs, r :: T, h => .cons (.lst (SqL.of (h.at_ 0 a r rfl rfl)) (ints_dp r)) (rows_dp (rs := rs) (T := T) ⟨Nat.succ.inj h.len, fun i a' r' h1 h2 => h.at_ (i + 1) a' r' h1 h2⟩)
  | [], _ :: _, h => nomatch h.len
  | _ :: _, [], h => nomatch h.len
end Dw
namespace Dw
open PySem PySem.Spec PyProof.Rows L2 SX
/-- a machine at m whose parts are new -/
structure MachNew (C : Addr) (H H' : Hp) (m : Addr) (w : Nat) (T : List (List Int)) (acc : List Bool) : Prop where
  ex : ∃ dx t b rs, H' m = some (.ins C dx (mflds w t b)) ∧ H' t = some (.lst (rs.map V.ref)) ∧ RowsAt H' rs T ∧ H' b = some (.lst (acc.map V.bl)) ∧ H t = none ∧ H b = none ∧ ∀ r ∈ rs, H r = none
theorem MachNew.at_ {C : Addr} {H H' : Hp} {m : Addr} {w : Nat} {T : List (List Int)} {acc : List Bool} (h : MachNew C H H' m w T acc) : MachAt C H' m w T acc := by
  obtain ⟨dx, t, b, rs, h1, h2, h3, h4, _⟩ := h.ex
  exact ⟨dx, t, b, rs, h1, h2, h3, h4⟩
end Dw
namespace Dw
open PySem PySem.Spec PyProof.Rows L2 SX
theorem for_enumN {K : PySem.W.Frag} {a : Addr} {xs : List V} {g : TG} {tb : TS} {D : Ends} {σ : L2.St} {H : Hp} (Pv : Nat → L2.St → Hp → Prop) (h0 : Pv 0 σ H) (hl : ∀ i σ H, i ≤ xs.length → Pv i σ H → SqL K H a xs)
    (hs : ∀ i x T σ H (N : L2.St → Hp → Prop), xs[i]? = some x → Pv i σ H → H T = none → (∀ σ' H', Pv (i + 1) σ' H' → N σ' H') → g (.ref T) σ (upd H T (.tup [.int (i : Nat), x])) fun σ2 H2 => tb { D with nx := N, ct := N, bk := D.nx } σ2 H2) (hd : ∀ σ H, Pv xs.length σ H → D.nx σ H) :
    ForJ (Ite K a) g tb D σ H := for_it (walk_enum (xs := xs)) Pv h0 hl (fun i x σ H H' hi p y => by
      obtain ⟨T, v, z, rfl, hT, rfl, e1, e2⟩ := y
      cases e1
      exact hs i z T σ H (Pv (i + 1)) e2 p hT fun _ _ h => h) hd
theorem RowsAt.snoc {H : Hp} {rs : List Addr} {T : List (List Int)} {a : Addr} {r : List Int} (h : RowsAt H rs T) (e : H a = some (.lst (r.map V.int))) : RowsAt H (rs ++ [a]) (T ++ [r]) := by
  refine ⟨by rw [List.length_append, List.length_append, h.len]; rfl, fun i b q h1 h2 => ?_⟩
  by_cases hi : i < rs.length
  · rw [List.getElem?_append_left hi] at h1
    rw [List.getElem?_append_left (by rw [← h.len]; exact hi)] at h2
    exact h.at_ i b q h1 h2
  · rw [List.getElem?_append_right (by omega)] at h1
    rw [List.getElem?_append_right (by rw [← h.len]; omega), ← h.len] at h2
    cases hk : i - rs.length with
    | zero =>
      rw [hk] at h1 h2
      cases h1
      cases h2
      exact e
    | succ k =>
      rw [hk] at h1
      cases h1
theorem RowsAt.but {H H' : Hp} {rs : List Addr} {T : List (List Int)} {p : Addr} (h : RowsAt H rs T) (b : But p H H') (n : ∀ r ∈ rs, r ≠ p) : RowsAt H' rs T :=
  ⟨h.len, fun i a r h1 h2 => b _ _ (n a (List.mem_of_getElem? h1)) (h.at_ i a r h1 h2)⟩
end Dw
namespace Dw
open PySem PySem.Spec PyProof.Rows L2 SX
/-- a machine at m, its parts at L -/
def MachP (C : Addr) (H : Hp) (L : List Addr) (m : Addr) (w : Nat) (T : List (List Int)) (acc : List Bool) : Prop := ∃ dx t b rs, L = m :: t :: b :: rs ∧ H m = some (.ins C dx (mflds w t b)) ∧ H t = some (.lst (rs.map V.ref)) ∧ RowsAt H rs T ∧ H b = some (.lst (acc.map V.bl))
section
variable {C : Addr} {H H' : Hp} {L : List Addr} {m q : Addr} {w : Nat} {T : List (List Int)} {acc : List Bool}
theorem MachP.at_ (h : MachP C H L m w T acc) : MachAt C H m w T acc := by
  obtain ⟨dx, t, b, rs, _, h1, h2, h3, h4⟩ := h
  exact ⟨dx, t, b, rs, h1, h2, h3, h4⟩
theorem MachP.but (h : MachP C H L m w T acc) (b : But q H H') (n : q ∉ L) : MachP C H' L m w T acc := by
  obtain ⟨dx, t, a, rs, rfl, h1, h2, h3, h4⟩ := h
  simp only [List.mem_cons, not_or] at n
  exact ⟨dx, t, a, rs, rfl, b _ _ (fun e => n.1 e.symm) h1, b _ _ (fun e => n.2.1 e.symm) h2, h3.but b fun r hr e => n.2.2.2 (e ▸ hr), b _ _ (fun e => n.2.2.1 e.symm) h4⟩
theorem MachP.same (h : MachP C H L m w T acc) (s : Same H H') : MachP C H' L m w T acc := by
  obtain ⟨dx, t, a, rs, rfl, h1, h2, h3, h4⟩ := h
  exact ⟨dx, t, a, rs, rfl, s _ _ h1, s _ _ h2, h3.same s, s _ _ h4⟩
theorem RowsAt.some {H : Hp} {rs : List Addr} {T : List (List Int)} {a : Addr} (h : RowsAt H rs T) (ha : a ∈ rs) : ∃ r, r ∈ T ∧ H a = some (.lst (r.map V.int)) := by
  obtain ⟨i, hi, e⟩ := List.mem_iff_getElem.mp ha
  have hi2 : i < T.length := by rw [← h.len]; exact hi
  exact ⟨T[i], List.getElem_mem hi2, h.at_ i a T[i] (by rw [List.getElem?_eq_getElem hi, e]) (List.getElem?_eq_getElem hi2)⟩
theorem MachP.free (h : MachP C H L m w T acc) (hq : H q = none) : q ∉ L := by
  obtain ⟨dx, t, a, rs, rfl, h1, h2, h3, h4⟩ := h
  intro z
  simp only [List.mem_cons] at z
  rcases z with rfl | rfl | rfl | z
  · rw [hq] at h1; cases h1
  · rw [hq] at h2; cases h2
  · rw [hq] at h4; cases h4
  · obtain ⟨r, _, e⟩ := h3.some z
    rw [hq] at e; cases e
theorem MachNew.parts (h : MachNew C H H' m w T acc) : ∃ L, MachP C H' L m w T acc ∧ ∀ a ∈ L, a = m ∨ H a = none := by
  obtain ⟨dx, t, b, rs, h1, h2, h3, h4, n1, n2, n3⟩ := h.ex
  refine ⟨_, ⟨dx, t, b, rs, rfl, h1, h2, h3, h4⟩, fun a ha => ?_⟩
  simp only [List.mem_cons] at ha
  rcases ha with rfl | rfl | rfl | z
  · exact .inl rfl
  · exact .inr n1
  · exact .inr n2
  · exact .inr (n3 a z)
theorem notin_of {o : HO} (h : ∀ a ∈ L, H a = none) (hq : H q = some o) : q ∉ L := fun z => by
  rw [h q z] at hq
  cases hq
end
end Dw

namespace Dw
open PySem PySem.Spec PyProof.Rows L2 SX
/-! a ring that is walked twice -/
def it (f : Nat → Nat) : Nat → Nat → Nat
  | 0, s => s
  | k + 1, s => it f k (f s)
theorem it_add (f : Nat → Nat) : ∀ (a b s : Nat), it f (a + b) s = it f b (it f a s)
  | 0, b, s => by rw [Nat.zero_add]; rfl
  | a + 1, b, s => by
    rw [Nat.add_right_comm]
    exact it_add f a b (f s)
theorem it_succ (f : Nat → Nat) (k s : Nat) : it f (k + 1) s = f (it f k s) := it_add f k 1 s
theorem it_lt {f : Nat → Nat} {n : Nat} (hf : ∀ x, x < n → f x < n) : ∀ (k s : Nat), s < n → it f k s < n
  | 0, _, h => h
  | k + 1, s, h => it_lt hf k (f s) (hf s h)
theorem pigeon : ∀ (n : Nat) (f : Nat → Nat), (∀ i, i ≤ n → f i < n) → ∃ i j, i < j ∧ j ≤ n ∧ f i = f j
  | 0, f, h => absurd (h 0 (Nat.le_refl 0)) (Nat.not_lt_zero _)
  | n + 1, f, h => by
    by_cases hv : ∃ i, i ≤ n ∧ f i = f (n + 1)
    · obtain ⟨i, hi, e⟩ := hv
      exact ⟨i, n + 1, by omega, Nat.le_refl _, e⟩
    · have hne : ∀ i, i ≤ n → f i ≠ f (n + 1) := fun i hi e => hv ⟨i, hi, e⟩
      have hl := h (n + 1) (Nat.le_refl _)
      obtain ⟨i, j, hij, hj, e⟩ := pigeon n (fun i => if f i = n then f (n + 1) else f i) (fun i hi => by
        have h1 := h i (by omega)
        have h2 := hne i hi
        show (if f i = n then f (n + 1) else f i) < n
        split
        · rename_i q
          omega
        · omega)
      refine ⟨i, j, hij, by omega, ?_⟩
      have h1 := hne i (by omega)
      have h2 := hne j hj
      split at e <;> split at e <;> omega
def ringL (f : Nat → Nat) (n s : Nat) : List Nat := (List.range (n + 1)).map fun j => it f (n + j) s
theorem ringL_mem {f : Nat → Nat} {n s x : Nat} : x ∈ ringL f n s ↔ ∃ j, j ≤ n ∧ it f (n + j) s = x := by
  unfold ringL
  rw [List.mem_map]
  constructor
  · rintro ⟨j, hj, e⟩
    exact ⟨j, by have := List.mem_range.mp hj; omega, e⟩
  · rintro ⟨j, hj, e⟩
    exact ⟨j, List.mem_range.mpr (by omega), e⟩
theorem ring_same {f : Nat → Nat} {n s x : Nat} (hf : ∀ x, x < n → f x < n) (hs : s < n) : x ∈ ringL f n s ↔ x ∈ ringL f n (f s) := by
  obtain ⟨a, b, hab, hb, e⟩ := pigeon n (fun i => it f i s) fun i _ => it_lt hf i s hs
  have per : ∀ k, a ≤ k → it f (k + (b - a)) s = it f k s := fun k hk => by
    have e1 : k + (b - a) = b + (k - a) := by omega
    have e2 : k = a + (k - a) := by omega
    rw [e1, it_add, ← (show it f a s = it f b s from e), ← it_add, ← e2]
  have nx : ∀ j, it f (n + j) (f s) = it f (n + 1 + j) s := fun j => by
    have : n + 1 + j = (n + j) + 1 := by omega
    rw [this]
    rfl
  rw [ringL_mem, ringL_mem]
  constructor
  · rintro ⟨j, hj, rfl⟩
    by_cases h0 : j = 0
    · subst h0
      refine ⟨b - a - 1, by omega, ?_⟩
      have e2 : n + 1 + (b - a - 1) = n + (b - a) := by omega
      rw [nx, e2, per n (by omega)]
      rfl
    · refine ⟨j - 1, by omega, ?_⟩
      rw [nx]
      congr 1
      omega
  · rintro ⟨j, hj, rfl⟩
    rw [nx]
    by_cases h0 : j = n
    · subst h0
      refine ⟨j + 1 - (b - a), by omega, ?_⟩
      rw [← per (j + (j + 1 - (b - a))) (by omega)]
      congr 1
      omega
    · exact ⟨j + 1, by omega, by congr 1; omega⟩
def IsMin (m : Nat) (L : List Nat) : Prop := m ∈ L ∧ ∀ y ∈ L, m ≤ y
theorem IsMin.eq {m k : Nat} {L M : List Nat} (h : IsMin m L) (h' : IsMin k M) (e : ∀ x, x ∈ L ↔ x ∈ M) : m = k :=
  Nat.le_antisymm (h.2 _ ((e _).mpr h'.1)) (h'.2 _ ((e _).mp h.1))
/-! told words -/
structure TOk (T : List (List Int)) (outs : List Int) : Prop where
  pos : 0 < T.length
  le : T.length ≤ 40
  al : outs.length = T.length
  rng : ∀ o ∈ outs, 0 ≤ o ∧ o ≤ 9
  good : goodT T 2 = true
  set : ∀ i, i < T.length → outs[i]? = outs[nxt T i 0]?
theorem TOk.nx {T : List (List Int)} {outs : List Int} (h : TOk T outs) {s d : Nat} (hs : s < T.length) (hd : d < 2) : nxt T s d < T.length := by
  obtain ⟨_, _, _, h2⟩ := goodT_at h.good hs hd
  exact h2
theorem TOk.zeros {T : List (List Int)} {outs : List Int} (h : TOk T outs) : ∀ (z s : Nat), s < T.length → outs[runT T s (List.replicate z 0)]? = outs[s]?
  | 0, _, _ => rfl
  | z + 1, s, hs => by
    show outs[runT T (nxt T s 0) (List.replicate z 0)]? = _
    rw [h.zeros z _ (h.nx hs (by decide)), ← h.set s hs]
/-- the digits of a number -/
def dg (n : Nat) : List Nat := bitsL n (blen n)
theorem dg_zero : dg 0 = [] := rfl
theorem blen_half {n : Nat} (h : n ≠ 0) : blen n = blen (n / 2) + 1 := by
  have h1 := lt_blen (n / 2)
  have h2 : n < 2 ^ (blen (n / 2) + 1) := by
    rw [Nat.pow_succ]
    omega
  have h3 := blen_le h2
  obtain ⟨k, e⟩ : ∃ k, blen n = k + 1 := ⟨n.log2, blen_pos h⟩
  have h4 := lt_blen n
  rw [e, Nat.pow_succ] at h4
  have h5 : blen (n / 2) ≤ k := blen_le (by omega)
  omega
theorem dg_pos {n : Nat} (h : n ≠ 0) : dg n = n % 2 :: dg (n / 2) := by
  unfold dg
  rw [blen_half h, bitsL_succ]
theorem dg_bits (n : Nat) : Bits (dg n) := bitsL_bits _ _
theorem bits_pad : ∀ (n k : Nat), bitsL n (blen n + k) = dg n ++ List.replicate k 0 := fun n k => by
  unfold dg
  refine List.ext_getElem (by simp [bitsL_len]) fun i h1 h2 => ?_
  by_cases hi : i < blen n
  · rw [List.getElem_append_left (by rw [bitsL_len]; exact hi)]
    simp only [bitsL, List.getElem_map, List.getElem_range]
  · rw [List.getElem_append_right (by rw [bitsL_len]; omega)]
    simp only [bitsL, List.getElem_map, List.getElem_range, List.getElem_replicate]
    have : n < 2 ^ i := Nat.lt_of_lt_of_le (lt_blen n) (Nat.pow_le_pow_right (by decide) (by omega))
    rw [Nat.div_eq_of_lt this]
theorem runT_app (T : List (List Int)) (s : Nat) (a b : List Nat) : runT T s (a ++ b) = runT T (runT T s a) b := by
  unfold runT
  rw [List.foldl_append]
/-- a copied table -/
theorem lc_copy {K : PySem.W.Frag} {t : Addr} {rs : List Addr} {T : List (List Int)} {g : TG} {te : TE} {vs : List Nat} {σ : L2.St} {H1 : Hp} {D : Addr} {Qd : Hp → Prop} (h1 : H1 t = some (.lst (rs.map V.ref))) (hr : RowsAt H1 rs T) (hn : T.length ≤ 500) (hD : H1 D = none)
    (step : ∀ a (r : List Int) H (N : VK), H a = some (.lst (r.map V.int)) → (∀ L, H L = none → N (.ref L) (upd H L (.lst (r.map V.int)))) → g (.ref a) (wipe σ vs) H fun σ2 H2 => wipe σ2 vs = wipe σ vs ∧ te σ2 H2 N)
    (hd : ∀ H' qs, Same H1 H' → H' D = some (.lst (qs.map V.ref)) → RowsAt H' qs T → (∀ q ∈ qs, H1 q = none ∧ q ≠ D) → Qd H') : LcJ (Itl K t) g tYes te vs D σ H1 Qd := by
  refine lc_listN (xs := rs.map V.ref) (fun i H4 => ∃ qs : List Addr, H4 D = some (.lst (qs.map V.ref)) ∧ RowsAt H4 qs (T.take i) ∧ Same H1 H4 ∧ ∀ q ∈ qs, H1 q = none ∧ q ≠ D) ?_ ?_ ?_ ?_
  · exact ⟨[], upd_same, ⟨rfl, fun i a r h _ => nomatch h⟩, same_upd hD, fun _ h => nomatch h⟩
  · rintro i H4 _ ⟨qs, _, _, s4, _⟩
    exact SqL.of (s4 _ _ h1)
  · rintro i x H4 N2 hx ⟨qs, h4, q4, s4, n4⟩ hN2
    rw [List.getElem?_map] at hx
    obtain ⟨ra, hra, rfl⟩ := Option.map_eq_some_iff.mp hx
    have hi : i < T.length := by rw [← hr.len]; exact (List.getElem?_eq_some_iff.mp hra).1
    have hTi : T[i]? = some T[i] := List.getElem?_eq_getElem hi
    have hrow := s4 _ _ (hr.at_ i ra T[i] hra hTi)
    have hql : qs.length ≤ 500 := by
      have := q4.len
      rw [List.length_take] at this
      omega
    refine step ra T[i] H4 (fun y H5 => ∃ acc, H5 D = some (.lst acc) ∧ acc.length < sizeLine ∧ N2 (upd H5 D (.lst (acc ++ [y])))) hrow fun L hL => ⟨_, (same_upd hL) _ _ h4, smallt (by rw [List.length_map]; omega), hN2 _ ⟨qs ++ [L], ?_, ?_, ?_, ?_⟩⟩
    · rw [upd_same, List.map_append]
      rfl
    · have hLD : L ≠ D := (ne_of_none h4 hL).symm
      rw [List.take_add_one, hTi]
      refine RowsAt.but (RowsAt.snoc (q4.same (same_upd hL)) upd_same) But.upd fun q hq => ?_
      rcases List.mem_append.mp hq with hq | hq
      · exact (n4 q hq).2
      · rw [List.mem_singleton.mp hq]
        exact hLD
    · exact Dw.Same.new (s4.trans (same_upd hL)) hD
    · intro q hq
      rcases List.mem_append.mp hq with hq | hq
      · exact n4 q hq
      · rw [List.mem_singleton.mp hq]
        exact ⟨s4.free hL, (ne_of_none h4 hL).symm⟩
  · rintro H4 ⟨qs, h4, q4, s4, n4⟩
    rw [List.length_map, hr.len, List.take_length] at q4
    exact hd H4 qs s4 h4 q4 n4
section
variable {X : Cx} (K : PySem.W.Frag)
theorem minK (hc : X.calm = true := by rfl) (h : X.K = K := by rfl) : CallR X (.builtin "min") (rMin K) := h ▸ cr_min hc
end
end Dw

namespace Dw
open PySem PySem.Spec PyProof.Rows L2 SX
theorem Same.get {H H' : Hp} {a : Addr} {o : HO} (s : Same H H') (h : H a = some o) : H' a = some o := s _ _ h
theorem But.get {p : Addr} {H H' : Hp} {a : Addr} {o : HO} (b : But p H H') (n : a ≠ p) (h : H a = some o) : H' a = some o := b _ _ n h
theorem Same.none {H H' : Hp} {a : Addr} (s : Same H H') (h : H' a = none) : H a = none := s.free h
theorem But.none {p : Addr} {H H' : Hp} {a : Addr} (b : But p H H') (n : a ≠ p) (h : H' a = none) : H a = none := by
  cases e : H a with
  | none => rfl
  | some o =>
    have := b _ _ n e
    rw [h] at this
    cases this
def tflds (o t : Addr) : List (Str × V) := putF "table" (.ref t) (putF "outputs" (.ref o) [])
theorem kot : ¬ (("outputs" : Str) = "table") := by decide +kernel
theorem tf_o (o t : Addr) : (tflds o t).lookup ("outputs" : Str) = some (.ref o) := by
  unfold tflds
  rw [lookup_putF, if_neg kot, lookup_putF, if_pos rfl]
theorem tf_t (o t : Addr) : (tflds o t).lookup ("table" : Str) = some (.ref t) := by
  unfold tflds
  rw [lookup_putF, if_pos rfl]
theorem tf_no (o t : Addr) {m : Str} (h1 : ¬ m = "outputs") (h2 : ¬ m = "table") : (tflds o t).lookup m = none := by
  unfold tflds
  rw [lookup_putF, if_neg h2, lookup_putF, if_neg h1]
  rfl
/-- a told word at m, its parts at L -/
def ToldP (C : Addr) (H : Hp) (L : List Addr) (m : Addr) (T : List (List Int)) (outs : List Int) : Prop := ∃ dx o t rs, L = m :: o :: t :: rs ∧ H m = some (.ins C dx (tflds o t)) ∧ H o = some (.lst (outs.map V.int)) ∧ H t = some (.lst (rs.map V.ref)) ∧ RowsAt H rs T
section
variable {C : Addr} {H H' : Hp} {L : List Addr} {m q : Addr} {T : List (List Int)} {outs : List Int}
theorem ToldP.but (h : ToldP C H L m T outs) (b : But q H H') (n : q ∉ L) : ToldP C H' L m T outs := by
  obtain ⟨dx, o, t, rs, rfl, h1, h2, h3, h4⟩ := h
  simp only [List.mem_cons, not_or] at n
  exact ⟨dx, o, t, rs, rfl, b _ _ (fun e => n.1 e.symm) h1, b _ _ (fun e => n.2.1 e.symm) h2, b _ _ (fun e => n.2.2.1 e.symm) h3, h4.but b fun r hr e => n.2.2.2 (e ▸ hr)⟩
theorem ToldP.same (h : ToldP C H L m T outs) (s : Same H H') : ToldP C H' L m T outs := by
  obtain ⟨dx, o, t, rs, rfl, h1, h2, h3, h4⟩ := h
  exact ⟨dx, o, t, rs, rfl, s _ _ h1, s _ _ h2, s _ _ h3, h4.same s⟩
theorem ToldP.free (h : ToldP C H L m T outs) (hq : H q = none) : q ∉ L := by
  obtain ⟨dx, o, t, rs, rfl, h1, h2, h3, h4⟩ := h
  intro z
  simp only [List.mem_cons] at z
  rcases z with rfl | rfl | rfl | z
  · rw [hq] at h1; cases h1
  · rw [hq] at h2; cases h2
  · rw [hq] at h3; cases h3
  · obtain ⟨r, _, e⟩ := h4.some z
    rw [hq] at e; cases e
end
/-- a row of a table, changed nowhere else -/
theorem RowsAt.not {H : Hp} {rs : List Addr} {T : List (List Int)} {q : Addr} (h : RowsAt H rs T) (hq : ∀ r : List Int, H q ≠ Option.some (.lst (r.map V.int))) : q ∉ rs := fun z => by
  obtain ⟨r, _, e⟩ := h.some z
  exact hq r e
theorem RowsAt.free {H : Hp} {rs : List Addr} {T : List (List Int)} {q : Addr} (h : RowsAt H rs T) (hq : H q = none) : q ∉ rs := fun z => by
  obtain ⟨r, _, e⟩ := h.some z
  rw [hq] at e
  cases e
/-- the output that a word has at a number -/
def outOf (T : List (List Int)) (outs : List Int) (n : Nat) : Int := outs.getD (runT T 0 (dg n)) 0
theorem TOk.run {T : List (List Int)} {outs : List Int} (h : TOk T outs) {ds : List Nat} (b : Bits ds) : runT T 0 ds < T.length := runT_lt h.good ds 0 b h.pos
theorem TOk.at_ {T : List (List Int)} {outs : List Int} (h : TOk T outs) {s : Nat} (hs : s < T.length) : outs[s]? = some (outs.getD s 0) := by
  rw [List.getD_eq_getElem?_getD, List.getElem?_eq_getElem (by rw [h.al]; exact hs)]
  rfl
theorem TOk.pad {T : List (List Int)} {outs : List Int} (h : TOk T outs) (n k : Nat) : outs[runT T 0 (bitsL n (blen n + k))]? = some (outOf T outs n) := by
  rw [bits_pad, runT_app, h.zeros k _ (h.run (dg_bits n)), h.at_ (h.run (dg_bits n))]
  rfl
theorem bitsL_snoc (n k : Nat) : bitsL n (k + 1) = bitsL n k ++ [n / 2 ^ k % 2] := by
  unfold bitsL
  rw [List.range_succ, List.map_append]
  rfl
theorem wd_dg (n : Nat) : wd [n] = dg n := by
  unfold dg wd bitsL bitAt bls bls
  rw [Nat.max_eq_left (Nat.zero_le _)]
  refine List.map_congr_left fun k _ => ?_
  show n / 2 ^ k % 2 + 2 * 0 = _
  omega
theorem TOk.mach {T : List (List Int)} {outs : List Int} (h : TOk T outs) (o : Int) : MOk 1 T (outs.map fun x => decide (x = o)) := by
  refine ⟨by decide, h.pos, by have := h.le; omega, h.good, by rw [List.length_map, h.al], fun i hi => ?_⟩
  rw [List.getElem?_map, List.getElem?_map, h.set i hi]
theorem TOk.acc {T : List (List Int)} {outs : List Int} (h : TOk T outs) (o : Int) (n : Nat) : (outs.map fun x => decide (x = o)).getD (runT T 0 (wd [n])) false = decide (outOf T outs n = o) := by
  rw [wd_dg, List.getD_eq_getElem?_getD, List.getElem?_map, h.at_ (h.run (dg_bits n))]
  rfl
end Dw
namespace Dw
open PySem PySem.Spec PyProof.Rows L2 SX
theorem ixN_at {n j : Nat} (hj : j < n) : ixN n (j : Int) = some j := by
  unfold ixN
  rw [if_pos (by omega), if_pos (by omega)]
  simp
theorem setL_of {p : Addr} {xs : List V} {j : Nat} {v : V} {H : Hp} {R : Hp → Prop} (h : H p = some (.lst xs)) (hj : j < xs.length) (q : R (upd H p (.lst (xs.set j v)))) : L2.rSetL (.ref p) (.int (j : Nat)) v H R := ⟨p, xs, j, j, rfl, rfl, h, ixN_at hj, q⟩
end Dw

namespace Dw
open PySem PySem.Spec PySem.Calls PyProof.Rows PySem.W
/-! isinstance of a caught error that bears a field -/
section
variable {prog : Program} {w : World} {A : Around} {E : Value → Shared → Prop} {s : Shared} {K : Frag} {b C : Addr} {ob : Obj} {od : Option Obj}
theorem fo_data {n : Str} {a g : Value} (h1 : (clsIn K C).isSome = true) (h2 : findIn K (.ref C) n = some (some a)) (h3 : specialIn K a "__get__" = some (some g)) (h4 : takesIn K a = some true) : findObj K C od n = some (.bind g a) := by
  obtain ⟨cd, h1⟩ := Option.isSome_iff_exists.mp h1
  unfold findObj
  rw [h1, Option.bind_some, h2, Option.bind_some]
  simp [h3, h4]
theorem cls_asked {Q : Option Value → Shared → Prop} (T : L2.ExcC K C) (X : K.In s.heap) (I : InstAt s.heap b ob C od) (h : Q (some (.ref C)) { s with toks := s.toks + 1 }) : wpAny (model prog w) A (getAttr? (.ref b) "__class__") Q E s := by
  have found : findObj K C od "__class__" = some (.bind (.builtin "getset_descriptor.__get__") (.builtin "object.__class__")) :=
    fo_data (by obtain ⟨cd, hc, _⟩ := any_some T.hd; rw [hc]; rfl) T.ha T.hn T.ht
  obtain ⟨h0, gs, dr, tk, os⟩ := s
  have M0 := I.type (M := model prog w)
  have M1 := looks_findIn (M := model prog w) X T.hg
  have M2 := looks_findIn (M := model prog w) X T.hk
  have M3 := looks_find (M := model prog w) X I found
  have isb : Looks (model prog w) h0 (isInstance (.ref b) (.type "BaseException")) true := M0.andThen (looks_subIn X T.hs)
  have e0 : (false && onTheHeap (Value.builtin "BaseException.__getattribute__")) = false := rfl
  have e2 : (Value.builtin "BaseException.__getattribute__" == Value.builtin "object.__getattribute__") = false := by decide +kernel
  have e1 : (onTheHeap (Value.ref C) && Value.builtin "BaseException.__getattribute__" == Value.builtin "object.__getattribute__") = false := by rw [e2]; rfl
  unfold getAttr? getAttrBy? getAttrBy
  refine wpAny_bind (wpAny_mkText (wpAny_bind (wpAny_attempt (wpAny_holding (wpAny_bind (M0.at (wpAny_bind (M1.at ?_))))))))
  show wpAny _ _ (if (onTheHeap (Value.ref C) && Value.builtin "BaseException.__getattribute__" == Value.builtin "object.__getattribute__") = true then _ else _) _ _ _
  rw [e1, if_neg Bool.false_ne_true]
  unfold getAttrByItsOwn hookBefore
  refine wpAny_bind ?_
  rw [if_pos (show onTheHeap (Value.ref C) = true from rfl)]
  refine M2.at ?_
  refine wpAny_bind (wpAny_attempt (wpAny_holding ?_))
  unfold callGetattribute
  rw [e0, if_neg Bool.false_ne_true]
  unfold boundAndCalled
  rw [PySem.F.excAttr_ValueError.ga.bind (.ref b)]
  refine wpAny_bind (wpAny_pure ?_)
  show wpAny _ _ (call (.builtin "BaseException.__getattribute__") [.ref b, .str "__class__" tk]) _ _ _
  refine wpAny_call (codeAny_call_builtin PySem.F.excAttr_ValueError.ga.plain PySem.F.entry_bexc_ga ?_)
  refine @check_slot (model prog w) _ _ ⟨h0, gs, dr, tk + 1, os⟩ "BaseException.__getattribute__" "BaseException" "__getattribute__" (.ref b) [.str "__class__" tk] [] _ (by decide +kernel) (by decide +kernel) isb (PySem.F.args_bexc_ga (.ref b) (.str "__class__" tk)) ?_
  unfold Builtin.«object.__getattribute__»
  refine wpAny_bind (wpAny_of_eq (a := ((Value.ref b : Value), [Value.str "__class__" tk])) (by first | rfl | (simp only [slotArgs]; rfl)) ?_)
  refine wpAny_bind (wpAny_pure (wpAny_bind (M0.at (wpAny_bind (M3.at ?_)))))
  show wpAny _ _ (holding [Value.builtin "object.__class__"] (call (.builtin "getset_descriptor.__get__") [.builtin "object.__class__", .ref b, .ref C]) >>= ret) _ _ _
  refine wpAny_bind (wpAny_holding (wpAny_call (class_get (s := ⟨h0, gs, dr, tk + 1, os⟩) (ox := ob) (od := od) X I T.hm ?_)))
  refine wpAny_pure ?_
  show wpAny _ _ (handedOut (.ref C)) _ _ _
  rw [handedOut_of (v := .ref C) rfl]
  first
    | exact wpAny_pure (wpAny_pure h)
    | exact wpAny_pure h
    | exact wpAny_pure (wpAny_bind (wpAny_pure (wpAny_pure h)))
theorem kitx_of (T : L2.ExcC K C) : KitX K (.ref b) (.ref C) (fun h => InstAt h b ob C od) where
  ty := fun _ _ _ I => I.type
  it := fun _ _ X _ => by
    obtain ⟨cd, hc, _⟩ := any_some T.hd
    unfold clsIn at hc
    split at hc
    · rename_i c1 d1 cd1 sl1 ho
      intro A1 Q1 E1 s1 k q
      unfold isType loadHead
      exact wpAny_bind (wpAny_loadPart (k _ _ (X _ _ ho)) (wpAny_pure q))
    · cases hc
  ne := fun h tp dd its n sl X htp => by
    obtain ⟨cd, hc, _⟩ := any_some T.hd
    refine Bool.eq_false_iff.mpr fun q => ?_
    obtain rfl : C = tp := Value.ref.inj (beq_iff_eq.mp q)
    unfold clsIn at hc
    split at hc
    · rename_i c1 d1 cd1 sl1 ho
      have z := (X _ _ ho).symm.trans htp
      cases z
    · cases hc
  ca := fun X I k => cls_asked T X I k
end
open L2
/-- isinstance(e, c), e the caught error of class C with its own dict at d -/
def rIsF (K : PySem.W.Frag) (C a : Addr) (cls : Value) (d : Option Addr) : List V → Hp → VK → Prop := fun xs H Q => ∃ (c : V) (cv : Value) (b : Bool) (dd : Addr) (fs : List (Str × V)), xs = [.ref a, c] ∧ (∀ u, RelV c u → u = cv) ∧ cls = .ref C ∧ d = some dd ∧ H dd = some (.xd fs) ∧ PySem.W.kitOne K (.ref C) cv = some b ∧ Q (.bl b) H
theorem call_isF {X : Cx} {a C : Addr} {oe : Obj} {cls : Value} {d : Option Addr} {pn : List (Addr × Obj)} (T : ExcC X.K C) (hz : Zc cls d oe) (hf : ∃ vs, oe.data = .fields vs) : CallR (X.suite a ((a, oe) :: pn)) (.builtin "isinstance") (rIsF X.K C a cls d) := by
  intro pins s σ H xs us Q I r h
  obtain ⟨c, cv, b, dd, fs, rfl, hcv, rfl, rfl, hdd, e, q⟩ := h
  obtain ⟨u1, r1, rfl, ra, rr⟩ : ∃ u1 r1, us = u1 :: r1 ∧ RelV (.ref a) u1 ∧ Vals [c] r1 := by
    cases r with
    | cons h1 h2 => exact ⟨_, _, rfl, h1, h2⟩
  obtain ⟨u2, rfl, rc⟩ := vals1 rr
  obtain rfl : u1 = Value.ref a := ra
  obtain rfl := hcv _ rc
  obtain ⟨gt, _⟩ := I.pin (a, oe) (List.mem_append_left _ List.mem_cons_self)
  obtain ⟨vs, hv⟩ := hf
  have ok : ObjOk X.prog X.w H s.heap dd (.xd fs) := I.hok dd _ hdd
  obtain ⟨mA, ns, _⟩ := ok
  obtain ⟨od, ho, _⟩ := lookIn_ns ns
  have J : PySem.W.InstAt s.heap a oe C (some od) := ⟨gt, hz.1, by unfold PySem.W.notCls; rw [hv] <;> rfl, by rw [hz.2]; exact ho⟩
  exact PySem.W.kia_one (kitx_of T) I.kIn J e (fun z => nomatch z) fun tk => ⟨.bl b, H, I.kept (t' := tk) fun _ _ z => z, rfl, q⟩
/-- a call that lets nothing out, of a def that may -/
theorem passF {X : Cx} {P : Program} {w : World} : Passes (L2.CX P w) X C8.E0 := fun _ _ _ _ _ _ _ h => by
  obtain ⟨_, _, _, _, _, _, _, _, _, _, _, _, e⟩ := h
  exact e.elim
end Dw

namespace Dw
open PySem PySem.Spec PyProof.Rows L2 SX
/-! classes whose __init__ may raise, methods that may raise -/
structure MakX (P : Program) (w : World) (K : PySem.W.Frag) (mg : Str → Option Value) (base : Heap) (k : Nat) (x : Str) (C : Addr) (sp : Sp) : Prop where
  ex : ∃ (f : Addr) (fd : FuncData) (ps : List Str), Mk K C f ∧ FnOk P w K mg base (L2.CX P w) k f fd ps sp ∧ mg x = some (.ref C) ∧ Binds K fd ps []
structure MetX (P : Program) (w : World) (K : PySem.W.Frag) (mg : Str → Option Value) (base : Heap) (k : Nat) (C : Addr) (m : Str) (sp : Sp) : Prop where
  ex : ∃ (f : Addr) (fd : FuncData) (ps : List Str), Cls K C ∧ Meth K C m f ∧ FnOk P w K mg base (L2.CX P w) k f fd ps sp ∧ Binds K fd ps []
section
variable {P : Program} {w : World} {K : PySem.W.Frag} {mg : Str → Option Value} {base : Heap}
theorem makX0 {x qual : Str} {C : Addr} {st : Stmt} {f : Addr} {fd : FuncData} {N ps : List Str} {k : Nat} {sp : Sp} (M : Mk K C f) (hm : mg x = some (.ref C)) (F : C8.Fun K "__init__" qual st f fd) (b : Binds K fd ps []) (S : FnScope N ps (C8.fnScope st)) (len : ∀ vs H Q E, sp vs H Q E → vs.length = ps.length)
    (hbody : ∀ (cdv : Value) (A : Around) (outer : List Env) (s : Shared) (H : Hp) (vs : List V) (Q : VK) (E : XK), Room k (A.deeper (envOfC qual (C8.fnScope st) s.heap.objs.size f cdv)) → sp vs H Q E →
      ∃ t, PSs (cxOf (L2.CX P w) P w K mg base N qual (C8.fnScope st) f cdv A outer s H E) (C8.fnBody st) t ∧ t { nx := fun _ H' => Q .non H', rt := Q } (start N vs) H) : MakX P w K mg base (k + 1) x C sp := by
  refine ⟨f, fd, ps, M, ?_, hm, b⟩
  obtain ⟨oc, od, dV, kV, doc, pm, an, cdv, ct, osl, rfl, lk, hcd⟩ := F.ex
  exact fn_of lk hcd S len fun A outer s H vs Q E hr hsp => hbody cdv A outer s H vs Q E hr hsp
theorem metX0 {m qual : Str} {C : Addr} {st : Stmt} {f : Addr} {fd : FuncData} {N ps : List Str} {k : Nat} {sp : Sp} (c : Cls K C) (me : Meth K C m f) (F : C8.Fun K m qual st f fd) (b : Binds K fd ps []) (S : FnScope N ps (C8.fnScope st)) (len : ∀ vs H Q E, sp vs H Q E → vs.length = ps.length)
    (hbody : ∀ (cdv : Value) (A : Around) (outer : List Env) (s : Shared) (H : Hp) (vs : List V) (Q : VK) (E : XK), Room k (A.deeper (envOfC qual (C8.fnScope st) s.heap.objs.size f cdv)) → sp vs H Q E →
      ∃ t, PSs (cxOf (L2.CX P w) P w K mg base N qual (C8.fnScope st) f cdv A outer s H E) (C8.fnBody st) t ∧ t { nx := fun _ H' => Q .non H', rt := Q } (start N vs) H) : MetX P w K mg base (k + 1) C m sp := by
  refine ⟨f, fd, ps, c, me, ?_, b⟩
  obtain ⟨oc, od, dV, kV, doc, pm, an, cdv, ct, osl, rfl, lk, hcd⟩ := F.ex
  exact fn_of lk hcd S len fun A outer s H vs Q E hr hsp => hbody cdv A outer s H vs Q E hr hsp
end
section
variable {X : Cx} {k j : Nat} {f C : Addr} {x m : Str} {sp : Sp} {p pos apos : Pos} {e o : Expr} {es : List Expr} {t : TA} {ta : TE} {CX : CXT} {fd : FuncData} {ps : List Str}
theorem pe_mkx {E : XK} (c : MakX X.prog X.w X.K X.mg X.base k x C sp) (hr : Room j X.A) (hk : k + 1 ≤ j) (hx : Passes (L2.CX X.prog X.w) X E) (hg : Gl X x) (ha : PA X (e :: es) t)
    (hdb : (x == ("__debug__" : Str)) = false := by decide) (he : starEach (e :: es) X.env = (false, eval e X.env) :: starEach es X.env := by rfl) (hpl : (backTo pos (starEach es X.env)).any (·.1) = false := by rfl) :
    PE X (.Call (.Name x p) (e :: es) [] pos) (tMake C sp [] E t) := by
  obtain ⟨f, fd, ps, M, F, hm, b⟩ := c.ex
  exact pe_make M F (hr.mono hk) hg hm b .nil hx ha hdb he hpl
theorem pe_mtx {pl : Sem Bool} {E : XK} (c : MetX X.prog X.w X.K X.mg X.base k C m sp) (hr : Room j X.A) (hk : k ≤ j) (hx : Passes (L2.CX X.prog X.w) X E) (he : PE X o ta) (ha : PA X (e :: es) t)
    (hst : starEach (e :: es) X.env = (false, eval e X.env) :: starEach es X.env := by rfl) (hpl : (backTo pos (starEach es X.env)).any (·.1) = false := by rfl)
    (ht : eval (.Call (.Attribute o m apos) (e :: es) [] pos) X.env = (do
      let ov ← eval o X.env
      standAt apos.atName
      let (f, first) ← holding [ov] (getMethod ov m pl)
      callWith pos f first (backTo pos (starEach (e :: es) X.env)) (backToKw pos (keywordEach [] X.env))) := by rfl) :
    PE X (.Call (.Attribute o m apos) (e :: es) [] pos) (tMeth C m sp [] E ta t) := by
  obtain ⟨f, fd, ps, hc, hm, F, b⟩ := c.ex
  exact pe_meth (pl := pl) he hc hm F (hr.mono hk) b .nil hx ha hst hpl ht
/-! in a try -/
def tMakeS (C : Addr) (sp : Sp) (E : L2.St → XK) (t : TA) : TE := fun σ H Q => t σ H fun vs H1 => ∀ x dx, H1 x = none → H1 dx = none → dx ≠ x →
  sp (.ref x :: vs) (upd (upd H1 dx (.own x)) x (.ins C dx [])) (fun v H2 => v = .non ∧ Q (.ref x) H2) (E σ)
theorem run_makeS {pins : List (Addr × Obj)} {σ : L2.St} {H : Hp} {s : Shared} {Q : VK} {E : L2.St → XK} {us : List Value} {vs : List V} (M : Mk X.K C f) (F : FnOk X.prog X.w X.K X.mg X.base CX k f fd ps sp) (hr : Room (k + 1) X.A) (hb : Binds X.K fd ps [])
    (hx : PassesAt CX X σ (E σ)) (I : Inv X pins σ H s) (r : Vals vs us)
    (h : ∀ x dx, H x = none → H dx = none → dx ≠ x → sp (.ref x :: vs) (upd (upd H dx (.own x)) x (.ins C dx [])) (fun v H2 => v = .non ∧ Q (.ref x) H2) (E σ)) :
    wpAny (model X.prog X.w) X.A (call (.ref C) us) (EP X pins σ Q) X.xe s := by
  have hq := h (s.heap.objs.size + 1) s.heap.objs.size (I.hok.fresh (Nat.le_succ _)) (I.hok.fresh (Nat.le_refl _)) (Nat.ne_of_lt (Nat.lt_succ_self _))
  have I2 := Inv.made (C := C) I
  have r2 : Vals (V.ref (s.heap.objs.size + 1) :: vs) (Value.ref (s.heap.objs.size + 1) :: us) := .cons rfl r
  have hl : (Value.ref (s.heap.objs.size + 1) :: us ++ []).length = ps.length := by
    have e := r2.length
    rw [F.len _ _ _ _ hq] at e
    rw [List.append_nil]
    exact e.symm
  have b := hb _ (Value.ref (s.heap.objs.size + 1) :: us) I2.kIn hl
  rw [List.append_nil] at b
  refine wpAny_call (make_map (f := f) I.kIn M.makes M.init (beq_iff_eq.mp M.fn) (codeAny_mono (F.run _ X.stack _ _ ⟨Value.ref (s.heap.objs.size + 1) :: us, []⟩ (Value.ref (s.heap.objs.size + 1) :: us) _ _ (E σ) (hr.make C us [])
    (I2.env0.make C us []) b r2 hq) fun r s' hq' => ?_))
  cases r with
  | error e => exact hx pins _ _ e s' I2 hq'
  | ok fl =>
    cases fl with
    | ret u =>
      obtain ⟨v, H', I3, rv, ev, q3⟩ := I2.after hq'
      subst ev
      exact ⟨rv, ⟨V.ref (s.heap.objs.size + 1), H', I3, rfl, q3⟩⟩
    | next => exact False.elim hq'
    | brk => exact False.elim hq'
    | cont => exact False.elim hq'
theorem pe_mks {W : WX} (c : MakX X.prog X.w X.K X.mg X.base k x C sp) (hr : Room j X.A) (hk : k + 1 ≤ j) (tk : Takes X W) (hg : Gl X x) (ha : PA X (e :: es) t)
    (hdb : (x == ("__debug__" : Str)) = false := by decide) (he : starEach (e :: es) X.env = (false, eval e X.env) :: starEach es X.env := by rfl) (hpl : (backTo pos (starEach es X.env)).any (·.1) = false := by rfl) :
    PE X (.Call (.Name x p) (e :: es) [] pos) (tMakeS C sp (WE W) t) := by
  obtain ⟨f, fd, ps, M, F, hm, b⟩ := c.ex
  refine ⟨fun pins s σ H Q I h => ?_⟩
  refine wpAny_Call_Name_kw (ld_glob I hg hm ?_ hdb)
  refine PySem.W.callWith_K (h₀ := X.base) I.ok.mod.kin M.kp (thn (ha.run pos pins s σ H _ I h) fun us s1 ⟨vs, H1, I1, r, q⟩ => ⟨I1.kIn, ?_⟩) he hpl
  exact run_makeS M F (hr.mono hk) b (passAt tk σ) I1 r q
def tMethS (C : Addr) (m : Str) (sp : Sp) (E : L2.St → XK) (ta : TE) (t : TA) : TE := fun σ H Q => ta σ H fun x H1 => ∃ a dx fs, x = .ref a ∧ H1 a = some (.ins C dx fs) ∧ fs.lookup m = none ∧
  t σ H1 fun vs H2 => sp (x :: vs) H2 Q (E σ)
theorem pe_mts {pl : Sem Bool} {W : WX} (c : MetX X.prog X.w X.K X.mg X.base k C m sp) (hr : Room j X.A) (hk : k ≤ j) (tk : Takes X W) (he : PE X o ta) (ha : PA X (e :: es) t)
    (hst : starEach (e :: es) X.env = (false, eval e X.env) :: starEach es X.env := by rfl) (hpl : (backTo pos (starEach es X.env)).any (·.1) = false := by rfl)
    (ht : eval (.Call (.Attribute o m apos) (e :: es) [] pos) X.env = (do
      let ov ← eval o X.env
      standAt apos.atName
      let (f, first) ← holding [ov] (getMethod ov m pl)
      callWith pos f first (backTo pos (starEach (e :: es) X.env)) (backToKw pos (keywordEach [] X.env))) := by rfl) :
    PE X (.Call (.Attribute o m apos) (e :: es) [] pos) (tMethS C m sp (WE W) ta t) := by
  obtain ⟨f, fd, ps, hc, hm, F, b⟩ := c.ex
  refine ⟨fun pins s σ H Q I h => ?_⟩
  refine PySem.W.methodCall_KW (pl := pl) (thn (he.run pins s σ H _ I h) fun u s1 ⟨x, H1, I1, rx, a, dx, fs, ex, ea, l, q⟩ => ?_) ht
  subst ex
  obtain rfl : u = Value.ref a := rx
  refine getmeth_ok I1 ea hc hm l ?_
  refine PySem.W.callWith_K (first := [.ref a]) (h₀ := X.base) I.ok.mod.kin hm.kp (thn (ha.run pos pins s1 σ H1 _ I1 q) fun us s2 ⟨vs, H2, I2, r, q2⟩ => ⟨I2.kIn, ?_⟩) hst hpl
  exact run_fnS (us := .ref a :: us) (vs := .ref a :: vs) F (hr.mono hk) b (passAt tk σ) I2 (.cons rfl r) q2
end
end Dw

namespace Dw
/-! marks that are settled: labels brought down along f -/
def rel (f : Nat → Nat) (g : Nat → Nat) (k : Nat) : Nat → Nat := fun x => if x = f k then min (g k) (g (f k)) else if x = k then min (g k) (g (f k)) else g x
def rnd (f : Nat → Nat) (g : Nat → Nat) : Nat → Nat → Nat
  | 0 => g
  | j + 1 => rel f (rnd f g j) j
def trn (f : Nat → Nat) (n : Nat) (g : Nat → Nat) : Nat → Nat → Nat
  | 0 => g
  | t + 1 => rnd f (trn f n g t) n
def cntv (g : Nat → Nat) (v : Nat) : Nat → Nat
  | 0 => 0
  | m + 1 => cntv g v m + if g m ≤ v then 1 else 0
theorem cntv_le (g : Nat → Nat) (v : Nat) : ∀ m, cntv g v m ≤ m
  | 0 => Nat.le_refl 0
  | m + 1 => by
    have := cntv_le g v m
    unfold cntv
    split <;> omega
theorem cntv_mono {g g' : Nat → Nat} {v : Nat} (h : ∀ x, g' x ≤ g x) : ∀ m, cntv g v m ≤ cntv g' v m
  | 0 => Nat.le_refl 0
  | m + 1 => by
    have h1 := cntv_mono (v := v) h m
    have h2 := h m
    unfold cntv
    split <;> split <;> omega
theorem cntv_strict {g g' : Nat → Nat} {v y : Nat} (h : ∀ x, g' x ≤ g x) (h1 : ¬ g y ≤ v) (h2 : g' y ≤ v) : ∀ m, y < m → cntv g v m + 1 ≤ cntv g' v m
  | 0, hm => absurd hm (Nat.not_lt_zero _)
  | m + 1, hm => by
    by_cases e : y = m
    · subst e
      have := cntv_mono (v := v) h y
      unfold cntv
      rw [if_neg h1, if_pos h2]
      omega
    · have h3 := cntv_strict h h1 h2 m (by omega)
      have h4 := h m
      unfold cntv
      split <;> split <;> omega
theorem rel_le (f g : Nat → Nat) (k x : Nat) : rel f g k x ≤ g x := by
  unfold rel
  split
  · rename_i e; rw [e]; exact Nat.min_le_right _ _
  · split
    · rename_i e; rw [e]; exact Nat.min_le_left _ _
    · exact Nat.le_refl _
theorem rnd_le (f g : Nat → Nat) : ∀ (j x : Nat), rnd f g j x ≤ g x
  | 0, _ => Nat.le_refl _
  | j + 1, x => Nat.le_trans (rel_le _ _ _ _) (rnd_le f g j x)
theorem rnd_anti (f g : Nat → Nat) (x j : Nat) : ∀ d, rnd f g (j + d) x ≤ rnd f g j x
  | 0 => Nat.le_refl _
  | d + 1 => Nat.le_trans (rel_le _ _ _ _) (rnd_anti f g x j d)
theorem rnd_low (f g : Nat → Nat) {n k : Nat} (hk : k < n) : rnd f g n k ≤ min (g k) (g (f k)) ∧ rnd f g n (f k) ≤ min (g k) (g (f k)) := by
  have e : n = (k + 1) + (n - (k + 1)) := by omega
  have h1 := rnd_le f g k k
  have h2 := rnd_le f g k (f k)
  have hm : min (rnd f g k k) (rnd f g k (f k)) ≤ min (g k) (g (f k)) := by omega
  have a : rnd f g (k + 1) k ≤ min (rnd f g k k) (rnd f g k (f k)) := by
    show rel f (rnd f g k) k k ≤ _
    unfold rel
    split
    · exact Nat.le_refl _
    · rw [if_pos rfl]; exact Nat.le_refl _
  have b : rnd f g (k + 1) (f k) ≤ min (rnd f g k k) (rnd f g k (f k)) := by
    show rel f (rnd f g k) k (f k) ≤ _
    unfold rel
    rw [if_pos rfl]
    exact Nat.le_refl _
  have c := rnd_anti f g k (k + 1) (n - (k + 1))
  have d := rnd_anti f g (f k) (k + 1) (n - (k + 1))
  rw [← e] at c d
  omega
def closedV (f : Nat → Nat) (n v : Nat) (g : Nat → Nat) : Prop := ∀ k, k < n → (g k ≤ v ↔ g (f k) ≤ v)
theorem rel_closed {f g : Nat → Nat} {n v k : Nat} (hk : k < n) (h : closedV f n v g) (x : Nat) : rel f g k x ≤ v ↔ g x ≤ v := by
  have h1 := h k hk
  unfold rel
  split
  · rename_i e; rw [e]; omega
  · split
    · rename_i e; rw [e]; omega
    · exact Iff.rfl
theorem rnd_closed {f g : Nat → Nat} {n v : Nat} (h : closedV f n v g) : ∀ j, j ≤ n → ∀ x, rnd f g j x ≤ v ↔ g x ≤ v
  | 0, _, _ => Iff.rfl
  | j + 1, hj, x => by
    have ih := rnd_closed h j (by omega)
    have hc : closedV f n v (rnd f g j) := fun k hk => by rw [ih k, ih (f k)]; exact h k hk
    show rel f (rnd f g j) j x ≤ v ↔ _
    rw [rel_closed (n := n) (by omega) hc x, ih x]
theorem trn_prog {f : Nat → Nat} {n v : Nat} (hn : 0 < n) (hf : ∀ x, x < n → f x < n) : ∀ t, closedV f n v (trn f n id t) ∨ t + 1 ≤ cntv (trn f n id t) v n
  | 0 => by
    right
    show 1 ≤ cntv id v n
    have : ∀ m, 0 < m → 1 ≤ cntv id v m := by
      intro m
      induction m with
      | zero => intro h; cases h
      | succ m ih =>
        intro _
        unfold cntv
        by_cases h0 : m = 0
        · subst h0; rw [if_pos (show id 0 ≤ v from Nat.zero_le _)]; omega
        · have := ih (by omega); omega
    exact this n hn
  | t + 1 => by
    by_cases hc : closedV f n v (trn f n id t)
    · left
      intro k hk
      show rnd f (trn f n id t) n k ≤ v ↔ rnd f (trn f n id t) n (f k) ≤ v
      rw [rnd_closed hc n (Nat.le_refl _) k, rnd_closed hc n (Nat.le_refl _) (f k)]
      exact hc k hk
    · rcases trn_prog (v := v) hn hf t with h | h
      · exact absurd h hc
      · right
        have : ∃ k, k < n ∧ ¬ (trn f n id t k ≤ v ↔ trn f n id t (f k) ≤ v) := Classical.byContradiction fun z => hc fun k hk => Classical.byContradiction fun y => z ⟨k, hk, y⟩
        obtain ⟨k, hk, hx⟩ := this
        have hl := rnd_low f (trn f n id t) hk
        have hle := rnd_le f (trn f n id t) n
        show t + 1 + 1 ≤ cntv (rnd f (trn f n id t) n) v n
        by_cases h1 : trn f n id t k ≤ v
        · have h2 : ¬ trn f n id t (f k) ≤ v := fun z => hx ⟨fun _ => z, fun _ => h1⟩
          have := cntv_strict (g' := rnd f (trn f n id t) n) hle h2 (by omega) n (hf k hk)
          omega
        · have h2 : trn f n id t (f k) ≤ v := Classical.byContradiction fun z => hx ⟨fun y => absurd y h1, fun y => absurd y z⟩
          have := cntv_strict (g' := rnd f (trn f n id t) n) hle h1 (by omega) n hk
          omega
theorem trn_settled {f : Nat → Nat} {n : Nat} (hf : ∀ x, x < n → f x < n) {k : Nat} (hk : k < n) : trn f n id n k = trn f n id n (f k) := by
  have hc : ∀ v, closedV f n v (trn f n id n) := fun v => by
    rcases trn_prog (v := v) (by omega) hf n with h | h
    · exact h
    · have := cntv_le (trn f n id n) v n
      omega
  have h1 := (hc (trn f n id n k) k hk).mp (Nat.le_refl _)
  have h2 := (hc (trn f n id n (f k)) k hk).mpr (Nat.le_refl _)
  omega
theorem trn_le (f : Nat → Nat) (n : Nat) : ∀ (t x : Nat), trn f n id t x ≤ x
  | 0, _ => Nat.le_refl _
  | t + 1, x => Nat.le_trans (rnd_le _ _ _ _) (trn_le f n t x)
theorem map_set (n k v : Nat) (g : Nat → Nat) : ((List.range n).map g).set k v = (List.range n).map fun x => if x = k then v else g x := by
  refine List.ext_getElem (by simp) fun i h1 h2 => ?_
  rw [List.getElem_set]
  simp only [List.getElem_map, List.getElem_range]
  by_cases e : k = i
  · rw [if_pos e, if_pos e.symm]
  · rw [if_neg e, if_neg fun z => e z.symm]
end Dw

namespace Dw
open PySem PySem.Spec PyProof.Rows L2 SX
/-- what is drawn from, later -/
def Cell (H : Hp) (p q : Addr) : Prop := ∃ a v x : Int, H p = some (.lst [.ref q, .int a, .int v, .int x]) ∧ 0 ≤ a ∧ 0 ≤ v
theorem Draw.cell {K : PySem.W.Frag} {H : Hp} {p q : Addr} {ns : List Int} (h : Draw K H p q ns) : Cell H p q := h.2
theorem Draw.re {K : PySem.W.Frag} {H H' : Hp} {p q : Addr} {ns : List Int} (d : Draw K H p q ns) (b : But p H H') (c : Cell H' p q) : Draw K H' p q ns := ⟨fun H2 b2 => d.1 H2 (b.trans b2), c⟩
theorem Cell.upd {H : Hp} {p q t : Addr} {o : HO} (h : Cell H p q) (n : t ≠ p) : Cell (upd H t o) p q := by
  obtain ⟨a, v, x, hp, h0, h1⟩ := h
  exact ⟨a, v, x, by rw [upd_ne n.symm]; exact hp, h0, h1⟩
/-- a new object is changed -/
theorem Draw.upd {K : PySem.W.Frag} {H H' : Hp} {p q t : Addr} {ns : List Int} {o : HO} (d : Draw K H p q ns) (b : But p H H') (d' : Draw K H' p q ns) (ht : H t = none) : Draw K (upd H' t o) p q ns := d.re (b.new ht) (d'.cell.upd (d.ne ht))
theorem Draw.free {K : PySem.W.Frag} {H H' : Hp} {p q t : Addr} {ns : List Int} (d : Draw K H p q ns) (b : But p H H') (d' : Draw K H' p q ns) (ht : H' t = none) : H t = none := b.none (d'.ne ht) ht
theorem rgV_zero (n : Nat) : rgV 0 (n : Int) = ((List.range n).map fun x => x).map nv := by
  unfold rgV
  rw [List.map_map, Int.sub_zero, Int.toNat_natCast]
  refine List.map_congr_left fun i _ => ?_
  show V.int (0 + (i : Int)) = V.int (i : Int)
  rw [Int.zero_add]
/-- a row is changed where it stands -/
theorem RowsAt.upd {H : Hp} {rs : List Addr} {T : List (List Int)} {k : Nat} {a : Addr} {r : List Int} (h : RowsAt H rs T) (nd : rs.Nodup) (e : rs[k]? = Option.some a) : RowsAt (L2.upd H a (.lst (r.map V.int))) rs (T.set k r) := by
  refine ⟨by rw [List.length_set, h.len], fun i b q h1 h2 => ?_⟩
  rw [List.getElem?_set] at h2
  by_cases hk : k = i
  · subst hk
    rw [e] at h1
    cases h1
    rw [if_pos rfl] at h2
    split at h2
    · cases h2
      exact upd_same
    · cases h2
  · rw [if_neg hk] at h2
    have hne : b ≠ a := fun z => by
      subst z
      have l1 := (List.getElem?_eq_some_iff.mp e)
      have l2 := (List.getElem?_eq_some_iff.mp h1)
      obtain ⟨i1, x1⟩ := l1
      obtain ⟨i2, x2⟩ := l2
      rcases Nat.lt_or_gt_of_ne hk with hl | hl
      · exact List.pairwise_iff_getElem.mp nd k i i1 i2 hl (by rw [x1, x2])
      · exact List.pairwise_iff_getElem.mp nd i k i2 i1 hl (by rw [x1, x2])
    rw [upd_ne hne]
    exact h.at_ i b q h1 h2
theorem nodup_snoc {α : Type} {l : List α} {a : α} (h : l.Nodup) (n : a ∉ l) : (l ++ [a]).Nodup := by
  rw [List.nodup_append]
  refine ⟨h, by simp, fun x hx y hy e => ?_⟩
  rw [List.mem_singleton] at hy
  exact n (hy ▸ e ▸ hx)
end Dw

namespace Dw
open PySem PySem.Spec PyProof.Rows L2 SX
/-! a tuple times an int, 1 as well -/
theorem tuple_mul1 (l : Addr) (items : Array Value) (n : Nat) (sl : Array (Option Value)) (dd : Option Addr) (u : Tok) :
    Meets (Builtin.«tuple.__mul__» ⟨[.ref l, .int 1 u], []⟩) (fun _ R s => s.heap.get? l = some { cls := .type "tuple", dict := dd, data := .seq items n, slots := sl } ∧ R (.ok (.ret (Value.ref l))) s) :=
  .of_wp fun prog w A R s h => by
    obtain ⟨hp, g, d, tk, os⟩ := s
    obtain ⟨hl, h⟩ := h
    have f1 := AutoSeq1.idx_int
    have c1 : (items.isEmpty || (1 : Int) == 1) = true := by simp
    have c0 : (decide ((1 : Int) < -(2 ^ 63)) || decide ((1 : Int) ≥ 2 ^ 63)) = false := by decide
    wp_walk using wpAny_loadPart' hl
    repeat (first
      | (refine wpAny_ite_false (decide_eq_false (by rw [c0]; exact Bool.false_ne_true)) ?_; wp_walk using wpAny_loadPart' hl)
      | (refine wpAny_ite_true (decide_eq_true c1) ?_; wp_walk using wpAny_loadPart' hl))
    exact ⟨_, rfl, h⟩
def rRepA (K : PySem.W.Frag) : R2 := fun x y H Q => ∃ l k xs, x = .ref l ∧ y = .int k ∧ SqT K H l xs ∧ xs ≠ [] ∧ 1 ≤ k ∧ k ≤ 1000 ∧ xs.length ≤ 1000 ∧ (k = 1 → Q (.ref l) H) ∧ (2 ≤ k → ∀ p, H p = none → Q (.ref p) (upd H p (.tup (List.replicate k.toNat xs).flatten)))
theorem op_repA0 {X : Cx} : OpR X (binaryOp .Mult) (rRepA X.K) := by
  intro pins s σ H x y v u Q I rx ry h
  obtain ⟨l, k, xs, ex, ey, hT, hne, h1, h2, hz, q1, q2⟩ := h
  by_cases hk : k = 1
  · subst hk
    subst ex
    subst ey
    cases rx
    obtain ⟨t, rfl⟩ := ry
    obtain ⟨its, r, ⟨⟨cls, dd, data, sl⟩, ho, hc, n, hd⟩, hs⟩ := I.tuple hT
    simp only at hc hd
    subst hc hd
    refine wpAny_binaryOp_repeat_ref (T := "tuple") (U := "int") (by decide) ⟨_, ho, rfl⟩ (fun s' => typeIs_int s' 1 t) noFill_tuple_mul F.fills_int_mul F.slot_int_rmul repeat_tuple F.slot_int_index.lookup
      (call_meets F.slot_int_rmul (typeIs_int s 1 t) F.entry_int_rmul (F.args_int_rmul_2 _ _) (int_rmul_tuple 1 t l its.toArray n dd sl)
        ⟨ho, rfl, ⟨_, ho, rfl⟩, call_meets F.slot_tuple_mul ⟨_, ho, rfl⟩ F.entry_tuple_mul (F.args_tuple_mul_2 _ _) (tuple_mul1 l its.toArray n sl dd t) ⟨ho, ?_⟩⟩)
    exact ⟨.ref l, H, I, rfl, q1 rfl⟩
  · exact op_repT pins s σ H x y v u Q I rx ry ⟨l, k, xs, ex, ey, hT, hne, by omega, h2, hz, q2 (by omega)⟩
theorem op_repA {X : Cx} (K : PySem.W.Frag) (h : X.K = K := by rfl) : OpR X (binaryOp .Mult) (rRepA K) := h ▸ op_repA0
/-! what is due of a machine's parts -/
def setM (T : List (List Int)) (acc : List Bool) : Bool := (List.range T.length).all fun i => decide (acc[i]? = acc[nxt T i 0]?)
def dueM (w : Int) (T : List (List Int)) (acc : List Bool) : Option (Bool × String) :=
  if ¬ (0 ≤ w ∧ w ≤ 6) then some (true, "width")
  else if 400 < T.length then some (false, "states")
  else if T = [] ∨ acc.length ≠ T.length ∨ goodT T (2 ^ w.toNat) = false then some (true, "table")
  else if setM T acc = false then some (true, "settled")
  else none
section
variable {w : Int} {T : List (List Int)} {acc : List Bool}
theorem dm1 (h : ¬ (0 ≤ w ∧ w ≤ 6)) : dueM w T acc = some (true, "width") := by
  unfold dueM
  rw [if_pos h]
theorem dm2 (h : 0 ≤ w ∧ w ≤ 6) (h2 : 400 < T.length) : dueM w T acc = some (false, "states") := by
  unfold dueM
  rw [if_neg (fun z => z h), if_pos h2]
theorem dm3 (h : 0 ≤ w ∧ w ≤ 6) (h2 : ¬ 400 < T.length) (h3 : T = [] ∨ acc.length ≠ T.length ∨ goodT T (2 ^ w.toNat) = false) : dueM w T acc = some (true, "table") := by
  unfold dueM
  rw [if_neg (fun z => z h), if_neg h2, if_pos h3]
theorem dm4 (h : 0 ≤ w ∧ w ≤ 6) (h2 : ¬ 400 < T.length) (h3 : ¬ (T = [] ∨ acc.length ≠ T.length ∨ goodT T (2 ^ w.toNat) = false)) (h4 : setM T acc = false) : dueM w T acc = some (true, "settled") := by
  unfold dueM
  rw [if_neg (fun z => z h), if_neg h2, if_neg h3, if_pos h4]
theorem dm5 (h : 0 ≤ w ∧ w ≤ 6) (h2 : ¬ 400 < T.length) (h3 : ¬ (T = [] ∨ acc.length ≠ T.length ∨ goodT T (2 ^ w.toNat) = false)) (h4 : setM T acc = true) : dueM w T acc = none := by
  unfold dueM
  rw [if_neg (fun z => z h), if_neg h2, if_neg h3, if_neg (by rw [h4]; decide)]
theorem setM_no {i : Nat} (hi : i < T.length) (h : acc[i]? ≠ acc[nxt T i 0]?) : setM T acc = false := by
  unfold setM
  rw [List.all_eq_false]
  exact ⟨i, List.mem_range.mpr hi, by simpa using h⟩
theorem setM_yes (h : ∀ i, i < T.length → acc[i]? = acc[nxt T i 0]?) : setM T acc = true := by
  unfold setM
  rw [List.all_eq_true]
  exact fun i hi => decide_eq_true (h i (List.mem_range.mp hi))
theorem setM_at (h : setM T acc = true) : ∀ i, i < T.length → acc[i]? = acc[nxt T i 0]? := fun i hi => by
  have := List.all_eq_true.mp h i (List.mem_range.mpr hi)
  exact of_decide_eq_true this
theorem MOk.due {n : Nat} (h : MOk n T acc) : dueM (n : Int) T acc = none := by
  have h6 := h.w6
  have h4 := h.le
  refine dm5 ⟨by omega, by omega⟩ (by omega) ?_ (setM_yes h.set)
  rw [Int.toNat_natCast]
  rintro (z | z | z)
  · have := h.pos
    rw [z] at this
    cases this
  · exact z h.al
  · rw [h.good] at z
    cases z
theorem MOk.of_due (h : dueM w T acc = none) : MOk w.toNat T acc ∧ 0 ≤ w ∧ w ≤ 6 := by
  unfold dueM at h
  split at h
  · cases h
  · rename_i h1
    split at h
    · cases h
    · rename_i h2
      split at h
      · cases h
      · rename_i h3
        split at h
        · cases h
        · rename_i h4
          have h1' : 0 ≤ w ∧ w ≤ 6 := Classical.not_not.mp h1
          simp only [not_or, ne_eq, Decidable.not_not] at h3
          refine ⟨⟨by omega, List.length_pos_iff.mpr h3.1, by omega, by simpa using h3.2.2, h3.2.1, setM_at (by simpa using h4)⟩, h1'⟩
end
/-- what a making ends in -/
def MRes (C CM CO m : Addr) (w : Int) (T : List (List Int)) (acc : List Bool) (H : Hp) (Q : VK) (E : XK) : Option (Bool × String) → Prop
  | none => ∀ H', But m H H' → MachNew C H H' m w.toNat T acc → Q .non H'
  | some (true, s) => Rz CM "why" (.str (Str.ofString s)) H E
  | some (false, s) => Rz CO "limit" (.str (Str.ofString s)) H E
/-! shapes -/
structure TupsAt (H : Hp) (ts : List Addr) (T : List (List Int)) : Prop where
  len : ts.length = T.length
  at_ : ∀ (i : Nat) (a : Addr) (r : List Int), ts[i]? = some a → T[i]? = some r → H a = some (.tup (r.map V.int))
theorem TupsAt.same {H H' : Hp} {ts : List Addr} {T : List (List Int)} (h : TupsAt H ts T) (s : Same H H') : TupsAt H' ts T := ⟨h.len, fun i a r h1 h2 => s _ _ (h.at_ i a r h1 h2)⟩
theorem TupsAt.snoc {H : Hp} {ts : List Addr} {T : List (List Int)} {a : Addr} {r : List Int} (h : TupsAt H ts T) (e : H a = some (.tup (r.map V.int))) : TupsAt H (ts ++ [a]) (T ++ [r]) := by
  refine ⟨by rw [List.length_append, List.length_append, h.len]; rfl, fun i b q h1 h2 => ?_⟩
  by_cases hi : i < ts.length
  · rw [List.getElem?_append_left hi] at h1
    rw [List.getElem?_append_left (by rw [← h.len]; exact hi)] at h2
    exact h.at_ i b q h1 h2
  · rw [List.getElem?_append_right (by omega)] at h1
    rw [List.getElem?_append_right (by rw [← h.len]; omega), ← h.len] at h2
    cases hk : i - ts.length with
    | zero =>
      rw [hk] at h1 h2
      cases h1
      cases h2
      exact e
    | succ k =>
      rw [hk] at h1
      cases h1
def ShapeAt (H : Hp) (s : Addr) (w : Nat) (T : List (List Int)) (acc : List Bool) : Prop := ∃ tt ta ts, H s = some (.tup [nv w, .ref tt, .ref ta]) ∧ H tt = some (.tup (ts.map V.ref)) ∧ TupsAt H ts T ∧ H ta = some (.tup (acc.map V.bl))
theorem ShapeAt.same {H H' : Hp} {s : Addr} {w : Nat} {T : List (List Int)} {acc : List Bool} (h : ShapeAt H s w T acc) (e : Same H H') : ShapeAt H' s w T acc := by
  obtain ⟨tt, ta, ts, h1, h2, h3, h4⟩ := h
  exact ⟨tt, ta, ts, e _ _ h1, e _ _ h2, h3.same e, e _ _ h4⟩
def trowD (r : List Int) : PyData := .tuple (r.map intD)
def shapeD (w : Nat) (T : List (List Int)) (acc : List Bool) : PyData := .tuple [.int (w : Int), .tuple (T.map trowD), .tuple (acc.map boolD)]
theorem tups_dp {K : PySem.W.Frag} {H : Hp} : ∀ {ts : List Addr} {T : List (List Int)}, TupsAt H ts T → DpAll K H (ts.map V.ref) (T.map trowD)
  | [], [], _ => .nil
  | a :: rs, r :: T, h => .cons (.tup (SqT.of (h.at_ 0 a r rfl rfl)) (ints_dp r)) (tups_dp (ts := rs) (T := T) ⟨Nat.succ.inj h.len, fun i a' r' h1 h2 => h.at_ (i + 1) a' r' h1 h2⟩)
  | [], _ :: _, h => nomatch h.len
  | _ :: _, [], h => nomatch h.len
theorem ShapeAt.dp {K : PySem.W.Frag} {H : Hp} {s : Addr} {w : Nat} {T : List (List Int)} {acc : List Bool} (h : ShapeAt H s w T acc) : Dp K H (.ref s) (shapeD w T acc) := by
  obtain ⟨tt, ta, ts, h1, h2, h3, h4⟩ := h
  exact .tup (SqT.of h1) (.cons (.int _) (.cons (.tup (SqT.of h2) (tups_dp h3)) (.cons (.tup (SqT.of h4) (bools_dp acc)) .nil)))
theorem trows_lay : ∀ T : List (List Int), PyData.canLayAll0 (T.map trowD) = true
  | [] => by simp [PyData.canLayAll0]
  | n :: r => by simp [PyData.canLayAll0, trowD, PyData.canLay0, ints_lay n, trows_lay r]
theorem trows_depth : ∀ T : List (List Int), PyData.depthAll (T.map trowD) ≤ 1
  | [] => by simp [PyData.depthAll]
  | n :: r => by
    have := trows_depth r
    simp [PyData.depthAll, trowD, PyData.depth, ints_depth n]
    omega
theorem shape_shaped (w : Nat) (T : List (List Int)) (acc : List Bool) : SeqAt.shaped (shapeD w T acc) = true := by
  have := trows_depth T
  simp [shapeD, SeqAt.shaped, PyData.canLay0, PyData.canLayAll0, PyData.depth, PyData.depthAll, trows_lay, bools_lay, bools_depth]
  omega
/-! a property -/
structure Prp (P : Program) (w : World) (K : PySem.W.Frag) (mg : Str → Option Value) (base : Heap) (k : Nat) (C : Addr) (m : Str) (sp : Sp) : Prop where
  ex : ∃ (p g : Addr) (fd : FuncData) (ps : List Str), Cls K C ∧ PropOf K C m p g ∧ FnOk P w K mg base C8.CX0 k g fd ps sp ∧ Binds K fd ps []
theorem prp0 {P : Program} {w : World} {K : PySem.W.Frag} {mg : Str → Option Value} {base : Heap} {m qual : Str} {C p : Addr} {st : Stmt} {f : Addr} {fd : FuncData} {N ps : List Str} {k : Nat} {sp : Sp} (c : Cls K C) (me : PropOf K C m p f) (F : C8.Fun K m qual st f fd) (b : Binds K fd ps []) (S : FnScope N ps (C8.fnScope st)) (len : ∀ vs H Q E, sp vs H Q E → vs.length = ps.length)
    (hbody : ∀ (cdv : Value) (A : Around) (outer : List Env) (s : Shared) (H : Hp) (vs : List V) (Q : VK) (E : XK), Room k (A.deeper (envOfC qual (C8.fnScope st) s.heap.objs.size f cdv)) → sp vs H Q E →
      ∃ t, PSs (cxOf C8.CX0 P w K mg base N qual (C8.fnScope st) f cdv A outer s H E).nox (C8.fnBody st) t ∧ t { nx := fun _ H' => Q .non H', rt := Q } (start N vs) H) : Prp P w K mg base (k + 1) C m sp :=
  ⟨p, f, fd, ps, c, me, C8.fn0 F S len hbody, b⟩
theorem pe_pr {X : Cx} {k j : Nat} {C : Addr} {m : Str} {sp : Sp} {e : Expr} {ta : TE} {pos : Pos} (c : Prp X.prog X.w X.K X.mg X.base k C m sp) (hr : Room j X.A) (hk : k + 1 ≤ j) (he : PE X e ta) (hab : attributeBase e m X.env (eval e X.env) = eval e X.env) : PE X (.Attribute e m pos) (tProp C sp [] C8.E0 ta) := by
  obtain ⟨p, g, fd, ps, hc, hp, F, b⟩ := c.ex
  exact pe_prop he hc hp F (hr.mono hk) b .nil C8.pass0 hab
/-! numbers that are halved, digits of a word -/
theorem halves_sum : ∀ (ns : List Nat) (k : Nat), (ns.map fun n => ((n / 2 ^ k : Nat) : Int)).sum = 0 ↔ bls ns ≤ k
  | [], k => by simp [bls]
  | n :: r, k => by
    have ih := halves_sum r k
    rw [List.map_cons, List.sum_cons]
    have nn : 0 ≤ (r.map fun n => ((n / 2 ^ k : Nat) : Int)).sum := by
      clear ih
      induction r with
      | nil => simp
      | cons m r ih =>
        rw [List.map_cons, List.sum_cons]
        have := Int.natCast_nonneg (m / 2 ^ k)
        exact Int.add_nonneg this ih
    show _ ↔ max (blen n) (bls r) ≤ k
    rw [Nat.max_le, ← ih]
    have hb : n / 2 ^ k = 0 ↔ blen n ≤ k := by
      constructor
      · intro h
        have h1 := Nat.div_eq_zero_iff.mp h
        rcases h1 with h1 | h1
        · have := Nat.two_pow_pos k
          omega
        · exact blen_le h1
      · intro h
        exact Nat.div_eq_of_lt (Nat.lt_of_lt_of_le (lt_blen n) (Nat.pow_le_pow_right (by decide) h))
    rw [← hb]
    obtain ⟨d, hd⟩ : ∃ d, d = n / 2 ^ k := ⟨_, rfl⟩
    rw [← hd]
    omega
def hvN (ns : List Nat) (k : Nat) : List Nat := ns.map fun n => n / 2 ^ k
theorem bitAt_hv (ns : List Nat) (k : Nat) : bitAt ns k = (hvN ns k).map (· % 2) := by
  unfold bitAt hvN
  rw [List.map_map]
  rfl
theorem hv_succ (ns : List Nat) (k : Nat) : (hvN ns k).map (· / 2) = hvN ns (k + 1) := by
  unfold hvN
  rw [List.map_map]
  refine List.map_congr_left fun n _ => ?_
  show n / 2 ^ k / 2 = n / 2 ^ (k + 1)
  rw [Nat.pow_succ, Nat.div_div_eq_div_mul]
theorem hvN_len (ns : List Nat) (k : Nat) : (hvN ns k).length = ns.length := by simp [hvN]
theorem wd_take (ns : List Nat) : wd ns = (List.range (bls ns)).map fun k => lo (bitAt ns k) := rfl
/-! zeros behind a word -/
theorem MOk.run {w : Nat} {T : List (List Int)} {acc : List Bool} (h : MOk w T acc) {ls : List Nat} (hl : ∀ l ∈ ls, l < 2 ^ w) : runT T 0 ls < T.length := runT_lt h.good ls 0 hl h.pos
theorem MOk.zeros {w : Nat} {T : List (List Int)} {acc : List Bool} (h : MOk w T acc) : ∀ (z s : Nat), s < T.length → acc[runT T s (List.replicate z 0)]? = acc[s]?
  | 0, _, _ => rfl
  | z + 1, s, hs => by
    obtain ⟨_, _, _, h2⟩ := goodT_at h.good hs (a := 0) (Nat.two_pow_pos w)
    show acc[runT T (nxt T s 0) (List.replicate z 0)]? = _
    rw [h.zeros z _ h2, ← h.set s hs]
theorem runT_appM (T : List (List Int)) (s : Nat) (a b : List Nat) : runT T s (a ++ b) = runT T (runT T s a) b := by
  unfold runT
  rw [List.foldl_append]
/-- the machine that takes all or none -/
theorem aon_ok {w : Nat} (hw : w ≤ 6) (v : Bool) : MOk w [List.replicate (2 ^ w) 0] [v] := by
  have hg : goodT [List.replicate (2 ^ w) (0 : Int)] (2 ^ w) = true := by
    unfold goodT goodRow
    simp
  refine ⟨hw, Nat.zero_lt_one, by simp, hg, rfl, fun i hi => ?_⟩
  have : i = 0 := by simpa using hi
  subst this
  obtain ⟨_, _, _, h⟩ := goodT_at hg (s := 0) (a := 0) Nat.zero_lt_one (Nat.two_pow_pos w)
  have : nxt [List.replicate (2 ^ w) (0 : Int)] 0 0 = 0 := by
    have h' : nxt [List.replicate (2 ^ w) (0 : Int)] 0 0 < 1 := h
    omega
  rw [this]
section
variable {X : Cx} (K : PySem.W.Frag)
theorem maxK (hc : X.calm = true := by rfl) (h : X.K = K := by rfl) : CallR X (.builtin "max") (rMax K) := h ▸ cr_max hc
end
theorem RowsAt.app {H : Hp} {a b : List Addr} {A B : List (List Int)} (h : RowsAt H a A) (g : RowsAt H b B) : RowsAt H (a ++ b) (A ++ B) := by
  refine ⟨by rw [List.length_append, List.length_append, h.len, g.len], fun i x r h1 h2 => ?_⟩
  by_cases hi : i < a.length
  · rw [List.getElem?_append_left hi] at h1
    rw [List.getElem?_append_left (by rw [← h.len]; exact hi)] at h2
    exact h.at_ i x r h1 h2
  · rw [List.getElem?_append_right (by omega)] at h1
    rw [List.getElem?_append_right (by rw [← h.len]; omega), ← h.len] at h2
    exact g.at_ _ x r h1 h2
theorem RowsAt.tk {H : Hp} {a : List Addr} {A : List (List Int)} (h : RowsAt H a A) (k : Nat) : RowsAt H (a.take k) (A.take k) := by
  refine ⟨by rw [List.length_take, List.length_take, h.len], fun i x r h1 h2 => ?_⟩
  rw [List.getElem?_take] at h1 h2
  split at h1
  · rename_i hi
    rw [if_pos hi] at h2
    exact h.at_ i x r h1 h2
  · cases h1
theorem RowsAt.dp {H : Hp} {a : List Addr} {A : List (List Int)} (h : RowsAt H a A) (k : Nat) : RowsAt H (a.drop k) (A.drop k) := by
  refine ⟨by rw [List.length_drop, List.length_drop, h.len], fun i x r h1 h2 => ?_⟩
  rw [List.getElem?_drop] at h1 h2
  exact h.at_ _ x r h1 h2
theorem RowsAt.one {H : Hp} {a : Addr} {r : List Int} (h : H a = Option.some (.lst (r.map V.int))) : RowsAt H [a] [r] := ⟨rfl, fun i x r' h1 h2 => match i, h1, h2 with
  | 0, h1, h2 => by cases h1; cases h2; exact h⟩
theorem RowsAt.rep {H : Hp} {a : Addr} {r : List Int} (h : H a = Option.some (.lst (r.map V.int))) (n : Nat) : RowsAt H (List.replicate n a) (List.replicate n r) := by
  refine ⟨by rw [List.length_replicate, List.length_replicate], fun i x r' h1 h2 => ?_⟩
  rw [List.getElem?_replicate] at h1 h2
  split at h1
  · rename_i hi
    rw [if_pos hi] at h2
    cases h1
    cases h2
    exact h
  · cases h1
/-- the row of a table, as a test of what is due -/
theorem goodT_no {T : List (List Int)} {l : Nat} {r : List Int} (h : r ∈ T) (hn : goodRow T.length l r = false) : goodT T l = false := by
  unfold goodT
  rw [List.all_eq_false]
  exact ⟨r, h, by rw [hn]; decide⟩
theorem goodRow_mm {n l : Nat} {r : List Int} (hl : r.length = l) (mn mx : Int) (h1 : mn ∈ r) (h2 : ∀ y ∈ r, mn ≤ y) (h3 : mx ∈ r) (h4 : ∀ y ∈ r, y ≤ mx) : goodRow n l r = (decide (0 ≤ mn) && decide (mx < (n : Int))) := by
  unfold goodRow
  rw [decide_eq_true hl, Bool.true_and, Bool.eq_iff_iff, List.all_eq_true, Bool.and_eq_true, decide_eq_true_eq, decide_eq_true_eq]
  constructor
  · intro h
    have a := h mn h1
    have b := h mx h3
    rw [Bool.and_eq_true, decide_eq_true_eq, decide_eq_true_eq] at a b
    exact ⟨a.1, b.2⟩
  · intro h x hx
    have a := h2 x hx
    have b := h4 x hx
    rw [Bool.and_eq_true, decide_eq_true_eq, decide_eq_true_eq]
    omega
/-- rows as tuples -/
theorem lc_tups {K : PySem.W.Frag} {t : Addr} {rs : List Addr} {T : List (List Int)} {g : TG} {te : TE} {vs : List Nat} {σ : L2.St} {H1 : Hp} {D : Addr} {Qd : Hp → Prop} (h1 : H1 t = some (.lst (rs.map V.ref))) (hr : RowsAt H1 rs T) (hn : T.length ≤ 500) (hD : H1 D = none)
    (step : ∀ a (r : List Int) H (N : VK), H a = some (.lst (r.map V.int)) → (∀ L, H L = none → N (.ref L) (upd H L (.tup (r.map V.int)))) → g (.ref a) (wipe σ vs) H fun σ2 H2 => wipe σ2 vs = wipe σ vs ∧ te σ2 H2 N)
    (hd : ∀ H' qs, Same H1 H' → H' D = some (.lst (qs.map V.ref)) → TupsAt H' qs T → Qd H') : LcJ (Itl K t) g tYes te vs D σ H1 Qd := by
  refine lc_listN (xs := rs.map V.ref) (fun i H4 => ∃ qs : List Addr, H4 D = some (.lst (qs.map V.ref)) ∧ TupsAt H4 qs (T.take i) ∧ Same H1 H4) ?_ ?_ ?_ ?_
  · exact ⟨[], upd_same, ⟨rfl, fun i a r h _ => nomatch h⟩, same_upd hD⟩
  · rintro i H4 _ ⟨qs, _, _, s4⟩
    exact SqL.of (s4 _ _ h1)
  · rintro i x H4 N2 hx ⟨qs, e4, q4, s4⟩ hN2
    rw [List.getElem?_map] at hx
    obtain ⟨ra, hra, rfl⟩ := Option.map_eq_some_iff.mp hx
    have hi : i < T.length := by rw [← hr.len]; exact (List.getElem?_eq_some_iff.mp hra).1
    have hTi : T[i]? = some T[i] := List.getElem?_eq_getElem hi
    have hrow := s4 _ _ (hr.at_ i ra T[i] hra hTi)
    have hql : qs.length ≤ 500 := by
      have := q4.len
      rw [List.length_take] at this
      omega
    refine step ra T[i] H4 (fun y H5 => ∃ acc, H5 D = some (.lst acc) ∧ acc.length < sizeLine ∧ N2 (upd H5 D (.lst (acc ++ [y])))) hrow fun L hL => ⟨_, (same_upd hL) _ _ e4, smallt (by rw [List.length_map]; omega), hN2 _ ⟨qs ++ [L], ?_, ?_, Dw.Same.new (s4.trans (same_upd hL)) hD⟩⟩
    · rw [upd_same, List.map_append]
      rfl
    · rw [List.take_add_one, hTi]
      have q5 := TupsAt.snoc (q4.same (same_upd hL)) (r := T[i]) upd_same
      refine ⟨q5.len, fun j a' r' e1 e2 => ?_⟩
      have h5 := q5.at_ j a' r' e1 e2
      rw [upd_ne]
      · exact h5
      · intro z
        subst z
        rw [(same_upd hL) _ _ e4] at h5
        cases h5
  · rintro H4 ⟨qs, e4, q4, s4⟩
    rw [List.length_map, hr.len, List.take_length] at q4
    exact hd H4 qs s4 e4 q4
/-- a machine and the parts that it was made of -/
structure Bg (K : PySem.W.Frag) (C p q : Addr) (ns : List Int) (t a : Addr) (rs : List Addr) (w : Nat) (T : List (List Int)) (acc : List Bool) (L : List Addr) (m : Addr) (H : Hp) : Prop where
  draw : Draw K H p q ns
  ht : H t = some (.lst (rs.map V.ref))
  rows : RowsAt H rs T
  ha : H a = some (.lst (acc.map V.bl))
  mach : MachP C H L m w T acc
  nt : t ≠ p
  na : a ≠ p
  nr : ∀ y ∈ rs, y ≠ p
  nL : p ∉ L
section
variable {K : PySem.W.Frag} {C p q : Addr} {ns : List Int} {t a : Addr} {rs : List Addr} {w : Nat} {T : List (List Int)} {acc : List Bool} {L : List Addr} {m : Addr} {H H' : Hp}
theorem Bg.same (h : Bg K C p q ns t a rs w T acc L m H) (s : Same H H') : Bg K C p q ns t a rs w T acc L m H' := ⟨h.draw.same s, s _ _ h.ht, h.rows.same s, s _ _ h.ha, h.mach.same s, h.nt, h.na, h.nr, h.nL⟩
theorem Bg.but (h : Bg K C p q ns t a rs w T acc L m H) (b : But p H H') (d : Draw K H' p q ns) : Bg K C p q ns t a rs w T acc L m H' := ⟨d, b _ _ h.nt h.ht, h.rows.but b h.nr, b _ _ h.na h.ha, h.mach.but b h.nL, h.nt, h.na, h.nr, h.nL⟩
end
end Dw

namespace Dw
open PySem PySem.Spec PyProof.Rows L2 SX
/-! a comprehension with a test, a for with an open next state: over any walk -/
theorem lc_sel {J : It} {n : Nat} {G : Hp → Prop} {Y : Nat → Hp → V → Hp → Prop} (w : Walk J n G Y) {g : TG} {tt : TT} {te : TE} {vs : List Nat} {σ : L2.St} {H1 : Hp} {D : Addr} {Qd : Hp → Prop} (keep : Nat → Bool) (out : Nat → V) (hn : n ≤ 10000) (hD : H1 D = none)
    (hG : ∀ H, Same H1 H → G H)
    (hs : ∀ i x H H' (Yv : VK) (Nn : Hp → Prop), i < n → Same H1 H → Y i H x H' → (keep i = true → ∀ H2, Same H H2 → Yv (out i) H2) → (keep i = false → ∀ H2, Same H H2 → Nn H2) → g x (wipe σ vs) H' fun σ2 H2 => wipe σ2 vs = wipe σ vs ∧ tt σ2 H2 fun b H3 => if b = true then te σ2 H3 Yv else Nn H3)
    (hd : ∀ H, Same H1 H → H D = some (.lst (((List.range n).filter keep).map out)) → Qd H) : LcJ J g tt te vs D σ H1 Qd := by
  refine lc_it w (fun i H => Same H1 H ∧ H D = some (.lst (((List.range i).filter keep).map out))) ⟨same_upd hD, upd_same⟩ (fun i H _ p => hG H p.1) (fun i x H H' hi p y => ?_) fun H p => hd H p.1 p.2
  obtain ⟨s1, hDl⟩ := p
  have hle : ((List.range i).filter keep).length ≤ i := Nat.le_trans (List.length_filter_le _ _) (by rw [List.length_range]; exact Nat.le_refl _)
  refine hs i x H H' (fun y H4 => ∃ acc, H4 D = some (.lst acc) ∧ acc.length < sizeLine ∧ (Same H1 (upd H4 D (.lst (acc ++ [y]))) ∧ (upd H4 D (.lst (acc ++ [y]))) D = some (.lst (((List.range (i + 1)).filter keep).map out)))) (fun H3 => Same H1 H3 ∧ H3 D = some (.lst (((List.range (i + 1)).filter keep).map out))) hi s1 y (fun hk H2 s2 => ⟨_, s2 _ _ hDl, by rw [List.length_map]; exact smallt (by omega), Dw.Same.new (s1.trans s2) hD, ?_⟩) (fun hk H2 s2 => ⟨s1.trans s2, ?_⟩)
  · rw [upd_same, List.range_succ, List.filter_append, List.filter_cons_of_pos hk, List.map_append]
    rfl
  · rw [s2 _ _ hDl, List.range_succ, List.filter_append, List.filter_cons_of_neg (by rw [hk]; decide), List.map_append]
    simp
theorem for_itN {J : It} {n : Nat} {G : Hp → Prop} {Y : Nat → Hp → V → Hp → Prop} (w : Walk J n G Y) {g : TG} {tb : TS} {D : Ends} {σ : L2.St} {H : Hp} (Pv : Nat → L2.St → Hp → Prop) (h0 : Pv 0 σ H) (hG : ∀ i σ H, i ≤ n → Pv i σ H → G H)
    (hs : ∀ i x σ H H' (N : L2.St → Hp → Prop), i < n → Pv i σ H → Y i H x H' → (∀ σ' H', Pv (i + 1) σ' H' → N σ' H') → g x σ H' fun σ2 H2 => tb { D with nx := N, ct := N, bk := D.nx } σ2 H2) (hd : ∀ σ H, Pv n σ H → D.nx σ H) : ForJ J g tb D σ H :=
  for_it w Pv h0 hG (fun i x σ H H' hi hp y => hs i x σ H H' (Pv (i + 1)) hi hp y (fun _ _ h => h)) hd
theorem sel_ints (n : Nat) (keep : Nat → Bool) : ((List.range n).filter keep).map nv = (((List.range n).filter keep).map fun x => ((x : Nat) : Int)).map V.int := by rw [List.map_map]; rfl
theorem mem_sel {n : Nat} {keep : Nat → Bool} {x : Int} : x ∈ ((List.range n).filter keep).map (fun x => ((x : Nat) : Int)) ↔ ∃ j : Nat, j < n ∧ keep j = true ∧ x = (j : Int) := by
  rw [List.mem_map]
  constructor
  · rintro ⟨j, h, rfl⟩
    obtain ⟨h1, h2⟩ := List.mem_filter.mp h
    exact ⟨j, List.mem_range.mp h1, h2, rfl⟩
  · rintro ⟨j, h1, h2, rfl⟩
    exact ⟨j, List.mem_filter.mpr ⟨List.mem_range.mpr h1, h2⟩, rfl⟩
end Dw

namespace Dw
/-! ranks: how many free letters lead to an accepting state -/
section
variable (acc : Nat → Bool) (f g : Nat → Nat)
def canK : Nat → Nat → Bool
  | 0, s => acc s
  | k + 1, s => canK k (f s) || canK k (g s)
def IsRank (s : Nat) : Option Nat → Prop
  | some k => canK acc f g k s = true ∧ ∀ j, j < k → canK acc f g j s = false
  | none => ∀ k, canK acc f g k s = false
def rkUp (r s : Nat) : Option Nat := (List.range (r + 1)).find? fun k => canK acc f g k s
end
section
variable {acc : Nat → Bool} {f g : Nat → Nat}
theorem IsRank.uniq {s : Nat} {a b : Option Nat} (h1 : IsRank acc f g s a) (h2 : IsRank acc f g s b) : a = b := by
  match a, b, h1, h2 with
  | none, none, _, _ => rfl
  | none, some k, h1, h2 => have := h2.1; rw [h1 k] at this; cases this
  | some k, none, h1, h2 => have := h1.1; rw [h2 k] at this; cases this
  | some k, some l, h1, h2 =>
    rcases Nat.lt_trichotomy k l with h | h | h
    · have := h1.1; rw [h2.2 k h] at this; cases this
    · rw [h]
    · have := h2.1; rw [h1.2 l h] at this; cases this
theorem rkUp_none {r s : Nat} : rkUp acc f g r s = none ↔ ∀ j, j ≤ r → canK acc f g j s = false := by
  unfold rkUp
  rw [List.find?_eq_none]
  constructor
  · intro h j hj
    have := h j (List.mem_range.mpr (by omega))
    simpa using this
  · intro h j hj
    rw [h j (by have := List.mem_range.mp hj; omega)]
    decide
theorem rkUp_some {r s d : Nat} : rkUp acc f g r s = some d ↔ d ≤ r ∧ canK acc f g d s = true ∧ ∀ j, j < d → canK acc f g j s = false := by
  unfold rkUp
  rw [List.find?_range_eq_some]
  constructor
  · rintro ⟨h1, h2, h3⟩
    refine ⟨by have := List.mem_range.mp h2; omega, h1, fun j hj => ?_⟩
    have := h3 j hj
    simpa using this
  · rintro ⟨h1, h2, h3⟩
    exact ⟨h2, List.mem_range.mpr (by omega), fun j hj => by rw [h3 j hj]; rfl⟩
theorem rkUp_zero (s : Nat) : rkUp acc f g 0 s = if acc s = true then some 0 else none := by
  split
  · rename_i h
    exact rkUp_some.mpr ⟨Nat.le_refl _, h, fun j hj => absurd hj (Nat.not_lt_zero _)⟩
  · rename_i h
    refine rkUp_none.mpr fun j hj => ?_
    have : j = 0 := by omega
    subst this
    show acc s = false
    simpa using h
/-- rank r is not given to a state later -/
theorem rkUp_same {r s : Nat} : rkUp acc f g (r + 1) s = some r ↔ rkUp acc f g r s = some r := by
  rw [rkUp_some, rkUp_some]
  constructor
  · rintro ⟨_, h⟩; exact ⟨Nat.le_refl _, h⟩
  · rintro ⟨_, h⟩; exact ⟨Nat.le_succ _, h⟩
theorem rkUp_keep {r s d : Nat} (h : rkUp acc f g r s = some d) : rkUp acc f g (r + 1) s = some d := by
  rw [rkUp_some] at h ⊢
  exact ⟨by omega, h.2⟩
theorem rkUp_new {r s : Nat} (h : rkUp acc f g r s = none) : rkUp acc f g (r + 1) s = if rkUp acc f g r (f s) = some r ∨ rkUp acc f g r (g s) = some r then some (r + 1) else none := by
  have h0 := rkUp_none.mp h
  have low : ∀ j, j < r → canK acc f g j (f s) = false ∧ canK acc f g j (g s) = false := fun j hj => by
    have := h0 (j + 1) (by omega)
    exact Bool.or_eq_false_iff.mp this
  split
  · rename_i hc
    refine rkUp_some.mpr ⟨Nat.le_refl _, ?_, fun j hj => h0 j (by omega)⟩
    show (canK acc f g r (f s) || canK acc f g r (g s)) = true
    rcases hc with hc | hc
    · rw [(rkUp_some.mp hc).2.1, Bool.true_or]
    · rw [(rkUp_some.mp hc).2.1, Bool.or_true]
  · rename_i hc
    refine rkUp_none.mpr fun j hj => ?_
    by_cases hj' : j ≤ r
    · exact h0 j hj'
    · have : j = r + 1 := by omega
      subst this
      show (canK acc f g r (f s) || canK acc f g r (g s)) = false
      rw [Bool.or_eq_false_iff]
      constructor
      · refine Bool.eq_false_iff.mpr fun z => hc (.inl ?_)
        exact rkUp_some.mpr ⟨Nat.le_refl _, z, fun j hj => (low j hj).1⟩
      · refine Bool.eq_false_iff.mpr fun z => hc (.inr ?_)
        exact rkUp_some.mpr ⟨Nat.le_refl _, z, fun j hj => (low j hj).2⟩
/-- when no state has the rank r, all ranks are found -/
theorem rkUp_done {n r : Nat} (hf : ∀ x, x < n → f x < n) (hg : ∀ x, x < n → g x < n) (h : ∀ s, s < n → rkUp acc f g r s ≠ some r) {s : Nat} (hs : s < n) : IsRank acc f g s (rkUp acc f g r s) := by
  have base : ∀ s, s < n → canK acc f g r s = true → ∃ j, j < r ∧ canK acc f g j s = true := fun s hs hc => by
    refine Classical.byContradiction fun z => h s hs (rkUp_some.mpr ⟨Nat.le_refl _, hc, fun j hj => Bool.eq_false_iff.mpr fun y => z ⟨j, hj, y⟩⟩)
  have all : ∀ d s, s < n → canK acc f g (r + d) s = true → ∃ j, j < r ∧ canK acc f g j s = true := by
    intro d
    induction d with
    | zero => exact base
    | succ d ih =>
      intro s hs hc
      have hc' : (canK acc f g (r + d) (f s) || canK acc f g (r + d) (g s)) = true := hc
      rw [Bool.or_eq_true] at hc'
      have up : ∀ j, j < r → (canK acc f g j (f s) = true ∨ canK acc f g j (g s) = true) → ∃ j, j < r ∧ canK acc f g j s = true := fun j hj hh => by
        have h1 : canK acc f g (j + 1) s = true := by
          show (canK acc f g j (f s) || canK acc f g j (g s)) = true
          rw [Bool.or_eq_true]
          exact hh
        by_cases hjr : j + 1 < r
        · exact ⟨j + 1, hjr, h1⟩
        · have : j + 1 = r := by omega
          rw [this] at h1
          exact base s hs h1
      rcases hc' with hc' | hc'
      · obtain ⟨j, hj, h2⟩ := ih _ (hf s hs) hc'
        exact up j hj (.inl h2)
      · obtain ⟨j, hj, h2⟩ := ih _ (hg s hs) hc'
        exact up j hj (.inr h2)
  cases e : rkUp acc f g r s with
  | some d => exact (rkUp_some.mp e).2
  | none =>
    have h0 := rkUp_none.mp e
    intro k
    by_cases hk : k ≤ r
    · exact h0 k hk
    · refine Bool.eq_false_iff.mpr fun z => ?_
      have ek : k = r + (k - r) := by omega
      rw [ek] at z
      obtain ⟨j, hj, h2⟩ := all _ s hs z
      rw [h0 j (by omega)] at h2
      cases h2
theorem rank_lt {n : Nat} (hf : ∀ x, x < n → f x < n) (hg : ∀ x, x < n → g x < n) {r s : Nat} (hs : s < n) (h : IsRank acc f g s (some r)) : r < n := by
  have down : ∀ d s, s < n → IsRank acc f g s (some d) → ∀ i, i ≤ d → ∃ x, x < n ∧ IsRank acc f g x (some i) := by
    intro d
    induction d with
    | zero =>
      intro s hs h i hi
      have : i = 0 := by omega
      subst this
      exact ⟨s, hs, h⟩
    | succ d ih =>
      intro s hs h i hi
      by_cases e : i = d + 1
      · subst e; exact ⟨s, hs, h⟩
      · have h1 : (canK acc f g d (f s) || canK acc f g d (g s)) = true := h.1
        have h2 : ∀ j, j < d → canK acc f g j (f s) = false ∧ canK acc f g j (g s) = false := fun j hj => Bool.or_eq_false_iff.mp (h.2 (j + 1) (by omega))
        rw [Bool.or_eq_true] at h1
        rcases h1 with h1 | h1
        · exact ih (f s) (hf s hs) ⟨h1, fun j hj => (h2 j hj).1⟩ i (by omega)
        · exact ih (g s) (hg s hs) ⟨h1, fun j hj => (h2 j hj).2⟩ i (by omega)
  refine Nat.lt_of_not_le fun hr => ?_
  have pick : ∀ i, ∃ x, i ≤ n → x < n ∧ IsRank acc f g x (some i) := fun i => by
    by_cases hi : i ≤ n
    · obtain ⟨x, h1, h2⟩ := down r s hs h i (by omega)
      exact ⟨x, fun _ => ⟨h1, h2⟩⟩
    · exact ⟨0, fun z => absurd z hi⟩
  obtain ⟨F, hF⟩ : ∃ F : Nat → Nat, ∀ i, i ≤ n → F i < n ∧ IsRank acc f g (F i) (some i) := ⟨fun i => Classical.choose (pick i), fun i => Classical.choose_spec (pick i)⟩
  obtain ⟨i, j, hij, hj, e⟩ := pigeon n F fun i hi => (hF i hi).1
  have h1 := (hF i (by omega)).2
  have h2 := (hF j hj).2
  rw [e] at h1
  have := Option.some.inj (h1.uniq h2)
  omega
/-! a search from the start -/
def rch (f g : Nat → Nat) (s : Nat) : Nat → Nat → Prop
  | 0, x => x = s
  | k + 1, y => ∃ x, rch f g s k x ∧ (y = f x ∨ y = g x)
theorem rch_cons : ∀ (k s y : Nat), rch f g s (k + 1) y ↔ rch f g (f s) k y ∨ rch f g (g s) k y
  | 0, s, y => by
    constructor
    · rintro ⟨x, rfl, h⟩; exact h
    · intro h; exact ⟨s, rfl, h⟩
  | k + 1, s, y => by
    constructor
    · rintro ⟨x, h, hy⟩
      rcases (rch_cons k s x).mp h with h | h
      · exact .inl ⟨x, h, hy⟩
      · exact .inr ⟨x, h, hy⟩
    · rintro (⟨x, h, hy⟩ | ⟨x, h, hy⟩)
      · exact ⟨x, (rch_cons k s x).mpr (.inl h), hy⟩
      · exact ⟨x, (rch_cons k s x).mpr (.inr h), hy⟩
theorem canK_rch : ∀ (k s : Nat), canK acc f g k s = true ↔ ∃ x, rch f g s k x ∧ acc x = true
  | 0, s => by
    constructor
    · intro h; exact ⟨s, rfl, h⟩
    · rintro ⟨x, rfl, h⟩; exact h
  | k + 1, s => by
    show (canK acc f g k (f s) || canK acc f g k (g s)) = true ↔ _
    rw [Bool.or_eq_true, canK_rch k (f s), canK_rch k (g s)]
    constructor
    · rintro (⟨x, h, ha⟩ | ⟨x, h, ha⟩)
      · exact ⟨x, (rch_cons k s x).mpr (.inl h), ha⟩
      · exact ⟨x, (rch_cons k s x).mpr (.inr h), ha⟩
    · rintro ⟨x, h, ha⟩
      rcases (rch_cons k s x).mp h with h | h
      · exact .inl ⟨x, h, ha⟩
      · exact .inr ⟨x, h, ha⟩
theorem nodup_len {n : Nat} : ∀ {l : List Nat}, l.Nodup → (∀ x ∈ l, x < n) → l.length ≤ n := fun {l} h1 h2 => by
  refine Nat.le_of_not_lt fun hlt => ?_
  obtain ⟨i, j, hij, hj, e⟩ := pigeon n (fun i => l.getD i 0) fun i hi => by
    show l.getD i 0 < n
    rw [List.getD_eq_getElem?_getD, List.getElem?_eq_getElem (by omega)]
    exact h2 _ (List.getElem_mem _)
  have := List.pairwise_iff_getElem.mp h1 i j (by omega) (by omega) hij
  refine this ?_
  have e' : l.getD i 0 = l.getD j 0 := e
  rw [List.getD_eq_getElem?_getD, List.getD_eq_getElem?_getD, List.getElem?_eq_getElem (by omega), List.getElem?_eq_getElem (by omega)] at e'
  exact e'
structure BF (acc : Nat → Bool) (f g : Nat → Nat) (n s : Nat) (k : Nat) (old layer : List Nat) : Prop where
  lt : ∀ x ∈ old ++ layer, x < n
  nd : (old ++ layer).Nodup
  b : ∀ x ∈ layer, rch f g s k x
  c : ∀ j x, j < k → rch f g s j x → x ∈ old
  d : ∀ x ∈ old, f x ∈ old ++ layer ∧ g x ∈ old ++ layer
  e : ∀ x ∈ old, acc x = false
  r : ∀ x, rch f g s k x → x ∈ old ++ layer
  l : layer = [] ∨ k + 1 ≤ (old ++ layer).length
theorem BF.start {n s : Nat} (hs : s < n) : BF acc f g n s 0 [] [s] :=
  ⟨fun x hx => by rw [List.nil_append, List.mem_singleton] at hx; omega, by simp, fun x hx => List.mem_singleton.mp hx, fun j x hj => absurd hj (Nat.not_lt_zero _), (fun _ h => nomatch h), (fun _ h => nomatch h), fun x hx => List.mem_singleton.mpr hx, .inr (by simp)⟩
theorem BF.found {n s k : Nat} {old layer : List Nat} (h : BF acc f g n s k old layer) (hx : ∃ x ∈ layer, acc x = true) : IsRank acc f g s (some k) := by
  obtain ⟨x, h1, h2⟩ := hx
  refine ⟨(canK_rch k s).mpr ⟨x, h.b x h1, h2⟩, fun j hj => Bool.eq_false_iff.mpr fun z => ?_⟩
  obtain ⟨y, h3, h4⟩ := (canK_rch j s).mp z
  rw [h.e y (h.c j y hj h3)] at h4
  cases h4
theorem BF.next {n s k : Nat} {old layer more : List Nat} (h : BF acc f g n s k old layer) (hno : ∀ x ∈ layer, acc x = false) (nd : (old ++ layer ++ more).Nodup) (lt : ∀ x ∈ more, x < n)
    (from_ : ∀ y ∈ more, ∃ x ∈ layer, y = f x ∨ y = g x) (all : ∀ x ∈ layer, f x ∈ old ++ layer ++ more ∧ g x ∈ old ++ layer ++ more) : BF acc f g n s (k + 1) (old ++ layer) more := by
  have sub : ∀ x, x ∈ old ++ layer → x ∈ old ++ layer ++ more := fun x hx => List.mem_append_left _ hx
  have d' : ∀ x ∈ old ++ layer, f x ∈ old ++ layer ++ more ∧ g x ∈ old ++ layer ++ more := fun x hx => by
    rcases List.mem_append.mp hx with hx | hx
    · exact ⟨sub _ (h.d x hx).1, sub _ (h.d x hx).2⟩
    · exact all x hx
  refine ⟨fun x hx => ?_, nd, fun y hy => ?_, fun j x hj hr => ?_, d', fun x hx => ?_, ?_, ?_⟩
  · rcases List.mem_append.mp hx with hx | hx
    · exact h.lt x hx
    · exact lt x hx
  · obtain ⟨x, hx, e⟩ := from_ y hy
    exact ⟨x, h.b x hx, e⟩
  · by_cases hjk : j < k
    · exact List.mem_append_left _ (h.c j x hjk hr)
    · have : j = k := by omega
      subst this
      exact h.r x hr
  · rcases List.mem_append.mp hx with hx | hx
    · exact h.e x hx
    · exact hno x hx
  · rintro y ⟨x, hx, e⟩
    have hx2 := d' x (h.r x hx)
    rcases e with e | e
    · rw [e]; exact hx2.1
    · rw [e]; exact hx2.2
  · cases hm : more with
    | nil => exact .inl rfl
    | cons y m =>
      right
      obtain ⟨x, hx, _⟩ := from_ y (by rw [hm]; exact List.mem_cons_self)
      rcases h.l with hl | hl
      · rw [hl] at hx; cases hx
      · rw [List.length_append, List.length_cons]
        omega
theorem BF.end_ {n s : Nat} {old layer : List Nat} (h : BF acc f g n s (n + 1) old layer) : IsRank acc f g s none := by
  have hl : layer = [] := by
    rcases h.l with hl | hl
    · exact hl
    · have := nodup_len h.nd h.lt
      omega
  subst hl
  have cl : ∀ k x, rch f g s k x → x ∈ old := by
    intro k
    induction k with
    | zero => intro x hx; exact h.c 0 x (Nat.succ_pos _) hx
    | succ k ih =>
      rintro y ⟨x, hx, e⟩
      have := h.d x (ih x hx)
      rw [List.append_nil] at this
      rcases e with e | e
      · rw [e]; exact this.1
      · rw [e]; exact this.2
  intro k
  refine Bool.eq_false_iff.mpr fun z => ?_
  obtain ⟨x, h1, h2⟩ := (canK_rch k s).mp z
  rw [h.e x (cl k x h1)] at h2
  cases h2
end
end Dw

namespace Dw
open PySem PySem.Spec PyProof.Rows L2 SX
def oV : Option Nat → V
  | none => .non
  | some k => nv k
theorem oV_flat (o : Option Nat) : flatV (oV o) = true := by cases o <;> rfl
theorem eqV_o (o : Option Nat) (k : Nat) : eqV (oV o) (nv k) = decide (o = some k) := by
  cases o with
  | none => rfl
  | some j =>
    show ((j : Int) == (k : Int)) = decide (some j = some k)
    rw [Bool.eq_iff_iff, beq_iff_eq, decide_eq_true_eq]
    constructor
    · intro h; rw [show j = k by omega]
    · intro h; rw [Option.some.inj h]
theorem inV_o (k : Nat) : ∀ L : List (Option Nat), inV (nv k) (L.map oV) = decide (some k ∈ L)
  | [] => by simp [inV]
  | o :: L => by
    have ih := inV_o k L
    unfold inV at ih ⊢
    rw [List.map_cons, List.any_cons, ih, eqV_o]
    by_cases h : o = some k
    · simp [h]
    · have : ¬ (some k = o) := fun e => h e.symm
      simp [h, this]
theorem flat_o (L : List (Option Nat)) : (L.map oV).all flatV = true := by
  rw [List.all_eq_true]
  intro v hv
  obtain ⟨o, _, rfl⟩ := List.mem_map.mp hv
  exact oV_flat o
theorem wt0 (t v : Nat) : wt 0 t v = 2 ^ t * v := by simp [wt]
theorem oset (n k : Nat) (o : Option Nat) (h : Nat → Option Nat) : ((List.range n).map fun s => oV (h s)).set k (oV o) = (List.range n).map fun s => oV (if s = k then o else h s) := by
  refine List.ext_getElem (by simp) fun i h1 h2 => ?_
  rw [List.getElem_set]
  simp only [List.getElem_map, List.getElem_range]
  by_cases e : k = i
  · rw [if_pos e, if_pos e.symm]
  · rw [if_neg e, if_neg fun z => e z.symm]
theorem inV_n (k : Nat) : ∀ L : List Nat, inV (nv k) (L.map nv) = decide (k ∈ L)
  | [] => by simp [inV]
  | o :: L => by
    have ih := inV_n k L
    unfold inV at ih ⊢
    rw [List.map_cons, List.any_cons, ih]
    show (((o : Int) == (k : Int)) || _) = _
    by_cases h : o = k
    · subst h; simp
    · have h1 : ((o : Int) == (k : Int)) = false := by
        rw [beq_eq_false_iff_ne]
        omega
      have : ¬ (k = o) := fun e => h e.symm
      simp [h1, this]
theorem flat_n (L : List Nat) : (L.map nv).all flatV = true := by
  rw [List.all_eq_true]
  intro v hv
  obtain ⟨o, _, rfl⟩ := List.mem_map.mp hv
  rfl
def keepA (A : Nat → Bool) : V → Bool
  | .int i => A i.toNat
  | _ => false
theorem keepA_map (A : Nat → Bool) (L : List Nat) : (L.map nv).filter (keepA A) = (L.filter A).map nv := by
  rw [List.filter_map]
  rfl
/-- a comprehension with a test over a list -/
theorem lc_filtN {K : PySem.W.Frag} {a : Addr} {xs : List V} {g : TG} {tt : TT} {te : TE} {vs : List Nat} {σ : L2.St} {H1 : Hp} {D : Addr} {Qd : Hp → Prop} (keep : V → Bool) (hx : SqL K H1 a xs) (hn : xs.length ≤ 10000) (hD : H1 D = none)
    (hs : ∀ (i : Nat) (x : V) (H : Hp) (Y : VK) (Nn : Hp → Prop), xs[i]? = some x → Same H1 H → (keep x = true → ∀ H', Same H H' → Y x H') → (keep x = false → ∀ H', Same H H' → Nn H') → g x (wipe σ vs) H fun σ2 H2 => wipe σ2 vs = wipe σ vs ∧ tt σ2 H2 fun b H3 => if b = true then te σ2 H3 Y else Nn H3)
    (hd : ∀ H, Same H1 H → H D = some (.lst (xs.filter keep)) → Qd H) : LcJ (Itl K a) g tt te vs D σ H1 Qd := by
  refine lc_listN (xs := xs) (fun i H => Same H1 H ∧ H D = some (.lst ((xs.take i).filter keep))) ⟨same_upd hD, upd_same⟩ (fun i H _ p => p.1.seq hx) (fun i x H N hi p hN => ?_) (fun H p => hd H p.1 (by rw [p.2, List.take_length]))
  obtain ⟨s1, hDl⟩ := p
  refine hs i x H (fun y H4 => ∃ acc, H4 D = some (.lst acc) ∧ acc.length < sizeLine ∧ N (upd H4 D (.lst (acc ++ [y])))) N hi s1 (fun hk H2 s2 => ⟨_, s2 _ _ hDl, ?_, hN _ ⟨Dw.Same.new (s1.trans s2) hD, ?_⟩⟩) (fun hk H2 s2 => hN _ ⟨s1.trans s2, ?_⟩)
  · have := List.length_filter_le keep (xs.take i)
    rw [List.length_take] at this
    exact smallt (by omega)
  · rw [upd_same, List.take_add_one, hi, List.filter_append]
    simp [hk]
  · rw [s2 _ _ hDl, List.take_add_one, hi, List.filter_append]
    simp [hk]
def oD : Option Nat → PyData
  | none => .none
  | some k => .int (k : Int)
theorem os_lay : ∀ L : List (Option Nat), PyData.canLayAll0 (L.map oD) = true
  | [] => by simp [PyData.canLayAll0]
  | none :: r => by simp [PyData.canLayAll0, oD, PyData.canLay0, os_lay r]
  | some n :: r => by simp [PyData.canLayAll0, oD, PyData.canLay0, os_lay r]
theorem os_depth : ∀ L : List (Option Nat), PyData.depthAll (L.map oD) = 0
  | [] => by simp [PyData.depthAll]
  | none :: r => by simp [PyData.depthAll, oD, PyData.depth, os_depth r]
  | some n :: r => by simp [PyData.depthAll, oD, PyData.depth, os_depth r]
theorem os_dp {K : PySem.W.Frag} {H : Hp} : ∀ L : List (Option Nat), DpAll K H (L.map oV) (L.map oD)
  | [] => .nil
  | none :: r => .cons .non (os_dp r)
  | some n :: r => .cons (.int _) (os_dp r)
theorem os_shaped (L : List (Option Nat)) : SeqAt.shaped (.list (L.map oD)) = true := by
  simp [SeqAt.shaped, PyData.canLay0, PyData.depth, os_lay L, os_depth]
theorem oV_inj {a b : Option Nat} (h : oV a = oV b) : a = b := by
  cases a <;> cases b
  · rfl
  · cases h
  · cases h
  · have := V.int.inj h
    congr 1
    omega
end Dw

namespace Dw
open PySem PySem.Spec PyProof.Rows L2 SX NdefX LamX
/-! defs of the module that take a function made within another def and call it -/
/-- what the caller shows of the handed function's cells -/
structure CbG (cl : List (Str × Addr)) (fr : List Str) (ws : List (Option V)) (outer : List Env) (h : Heap) (H : Hp) : Prop where
  cells : CellsAt cl fr ws h H
  nf : ∀ y c, cl.lookup y = some c → c ∉ frs outer
/-- a def's promise where G stands at the call -/
structure FnG (P : Program) (w : World) (K : PySem.W.Frag) (mg : Str → Option Value) (base : Heap) (CX : CXT) (k : Nat) (f : Addr) (fd : FuncData) (ps : List Str) (G : List Env → Heap → Hp → Prop) (sp : Sp) : Prop where
  len : ∀ vs H Q E, sp vs H Q E → vs.length = ps.length
  go : ∀ (A : Around) (fs : List Env) (st : Shared) (H : Hp) (as : Args) (us : List Value) (vs : List V) (Q : VK) (E : XK), Room k A → Env0 P w K mg base A fs st H → G fs st.heap H → BindsTo st fd as (ps.zip us) → Vals vs us → sp vs H Q E →
    codeAny (model P w) A (.call (.ref f) as) (CR CX fs P w H st Q E) st
theorem fnG_of {CX : CXT} {P : Program} {w : World} {K : PySem.W.Frag} {mg : Str → Option Value} {base : Heap} {k : Nat} {f : Addr} {nm ql : Str} {pr : Arguments} {bd : List Stmt} {sc : Scope} {d1 d2 d3 d4 cdv d5 d6 : Value} {o1 o2 : Option Addr} {sl : Array (Option Value)} {N ps : List Str} {G : List Env → Heap → Hp → Prop} {sp : Sp}
    (lk : K.lookup f = some ⟨d6, o2, .func (PySem.W.fnOf nm ql pr bd sc d1 d2 d3 d4 o1 cdv d5), sl⟩) (hcd : PySem.W.codeIn K cdv ql = true) (S : FnScope N ps sc) (len : ∀ vs H Q E, sp vs H Q E → vs.length = ps.length)
    (body : ∀ (A : Around) (fs : List Env) (st : Shared) (H : Hp) (vs : List V) (Q : VK) (E : XK), Room k (A.deeper (envOfC ql sc st.heap.objs.size f cdv)) → G fs st.heap H → sp vs H Q E → ∃ t, PSs (cxOf CX P w K mg base N ql sc f cdv A fs st H E) bd t ∧ t { nx := fun _ H' => Q .non H', rt := Q } (start N vs) H) :
    FnG P w K mg base CX (k + 1) f (PySem.W.fnOf nm ql pr bd sc d1 d2 d3 d4 o1 cdv d5) ps G sp := by
  constructor
  · exact len
  intro A fs st H as us vs Q E hr e0 g hb r hsp
  have kin0 := e0.mod.kin.keeps fun b o e => (e0.bs b o e).1
  have nol := e0.mod.nolimit.keeps fun b o e => (e0.bs b o e).1
  have kinds : ∀ y ∈ ps.zip us, sc.names.lookup y.1 = some .local ∨ (sc.names.lookup y.1 = some .cell ∧ ((cellsFrom (st.heap.objs.size + 1) sc.names []).lookup y.1).isSome = true) := by
    rintro ⟨n, v⟩ hy
    exact (S.par n (List.of_mem_zip hy).1).imp id fun q => ⟨q, PySem.W.cellsFrom_some _ _ _ (.inl q)⟩
  refine codeAny_call_function hr.depth (kin0 _ _ lk) rfl S.co S.gen rfl (PySem.W.codeRec_of kin0 hcd) (hb _ _ _ _ (wpAny_newFunctionEnv_cells S.kind kinds fun env he s1 x => ?_))
  subst he
  obtain ⟨t, ht, hq⟩ := body A fs st H vs Q E (hr.deeper _) g hsp
  have I := inv_start (CX := CX) (E := E) (cd := cdv) S hr.hd e0 (len _ _ _ _ hsp) r x
  refine ⟨nol.keeps x.toInCall.keep, codeAny_func (wpAny_mono (ht.run [] s1 (start N vs) H _ I hq) (fun fl s' hs => ?_) fun _ _ z => z)⟩
  match fl, hs with
  | .ret _, ⟨_, _, _, J, rv, q⟩ => exact ⟨_, _, J.os, J.bare, J.base, J.hok, rv, q⟩
  | .next, ⟨_, _, J, q⟩ => exact ⟨V.non, _, J.os, J.bare, J.base, J.hok, rfl, q⟩
  | .brk, ⟨_, _, _, q⟩ => exact False.elim q
  | .cont, ⟨_, _, _, q⟩ => exact False.elim q
/-- such a def under its name -/
structure CalG (P : Program) (w : World) (K : PySem.W.Frag) (mg : Str → Option Value) (base : Heap) (k : Nat) (x : Str) (G : List Env → Heap → Hp → Prop) (sp : Sp) : Prop where
  ex : ∃ (f : Addr) (fd : FuncData) (ps : List Str), FnG P w K mg base (L2.CX P w) k f fd ps G sp ∧ mg x = some (.ref f) ∧ PySem.W.keepIn K (.ref f) = true ∧ Binds K fd ps []
section
variable {P : Program} {w : World} {K : PySem.W.Frag} {mg : Str → Option Value} {base : Heap}
theorem calG0 {x : Str} {st : Stmt} {f : Addr} {fd : FuncData} {N ps : List Str} {k : Nat} {G : List Env → Heap → Hp → Prop} {sp : Sp} (F : C8.Def K mg x st f fd) (b : Binds K fd ps []) (S : FnScope N ps (C8.fnScope st)) (len : ∀ vs H Q E, sp vs H Q E → vs.length = ps.length)
    (body : ∀ (cdv : Value) (A : Around) (outer : List Env) (s : Shared) (H : Hp) (vs : List V) (Q : VK) (E : XK), Room k (A.deeper (envOfC x (C8.fnScope st) s.heap.objs.size f cdv)) → G outer s.heap H → sp vs H Q E →
      ∃ t, PSs (cxOf (L2.CX P w) P w K mg base N x (C8.fnScope st) f cdv A outer s H E) (C8.fnBody st) t ∧ t { nx := fun _ H' => Q .non H', rt := Q } (start N vs) H) : CalG P w K mg base (k + 1) x G sp := by
  obtain ⟨oc, od, dV, kV, doc, pm, an, cdv, ct, osl, rfl, lk, hcd⟩ := F.fn.ex
  exact ⟨_, _, ps, fnG_of lk hcd S len fun A fs s H vs Q E hr g h => body cdv A fs s H vs Q E hr g h, F.mgf, F.kp, b⟩
end
/-- the cells of the def that makes the function are no frames that run -/
theorem cbG_of {X : Cx} {pins : List (Addr × Obj)} {σ : L2.St} {H : Hp} {s : Shared} {cl : List (Str × Addr)} {fr : List Str} {js : List Nat} (I : Inv X pins σ H s) (c : Caps X cl fr js) (hfn : ∀ y, X.fn y = true) : CbG cl fr (js.map (slotAt σ)) X.stack s.heap H := by
  refine ⟨cells_of I c, fun y a e hb => ?_⟩
  have ea := c.sub y a e
  rcases List.mem_cons.mp (I.stkSub a hb) with z | z
  · exact I.cne y a ea z
  · obtain ⟨_, o, ho, _⟩ := I.ok.funs.mem z
    exact absurd (Heap.lt_size ho) (Nat.not_lt.mpr (I.ok.cab y a (hfn y) ea))
/-- its call; js: the slots of the names that the handed function captured -/
def tCallG (js : List Nat) (sp : List (Option V) → Sp) (E : XK) (t : TA) : TE := fun σ H Q => t σ H fun vs H1 => sp (js.map (slotAt σ)) vs H1 Q E
section
variable {X : Cx} {k j : Nat} {x : Str} {p pos : Pos} {e : Expr} {es : List Expr} {t : TA} {E : XK}
theorem pe_cG {cl : List (Str × Addr)} {fr : List Str} {js : List Nat} {sp : List (Option V) → Sp} (c : ∀ ws, CalG X.prog X.w X.K X.mg X.base k x (CbG cl fr ws) (sp ws)) (cp : X.Ok → Caps X cl fr js) (hfn : ∀ y, X.fn y = true) (hr : Room j X.A) (hk : k ≤ j) (hx : Passes (L2.CX X.prog X.w) X E) (hg : Gl X x) (ha : PA X (e :: es) t)
    (hdb : (x == ("__debug__" : Str)) = false := by decide) (he : starEach (e :: es) X.env = (false, eval e X.env) :: starEach es X.env := by rfl) (hpl : (backTo pos (starEach es X.env)).any (·.1) = false := by rfl) :
    PE X (.Call (.Name x p) (e :: es) [] pos) (tCallG js sp E t) := by
  refine ⟨fun pins s σ H Q I h => ?_⟩
  obtain ⟨f, fd, ps, F, hm, kp, b⟩ := (c (js.map (slotAt σ))).ex
  refine wpAny_Call_Name_kw (ld_glob I hg hm (PySem.W.callWith_K (h₀ := X.base) I.ok.mod.kin kp (thn (ha.run pos pins s σ H _ I h) fun us s1 ⟨vs, H1, I1, r, q⟩ => ⟨I1.kIn, ?_⟩) he hpl) hdb)
  have hl : (us ++ []).length = ps.length := by rw [List.append_nil, ← r.length]; exact F.len _ _ _ _ q
  have bt := b s1 us I1.kIn hl
  rw [List.append_nil] at bt
  refine wpAny_call (codeAny_mono (F.go X.A X.stack s1 H1 ⟨us, []⟩ us vs Q E (hr.mono hk) I1.env0 (cbG_of I1 (cp I1.ok) hfn) bt r q) fun rs s' hq => ?_)
  match rs, hq with
  | .error e, hq => exact hx pins σ H1 s1 e s' I1 hq
  | .ok (.ret u), hq => exact I1.after hq
  | .ok .next, hq => exact False.elim hq
  | .ok .brk, hq => exact False.elim hq
  | .ok .cont, hq => exact False.elim hq
/-- in that def: the call of the handed function -/
def tCb (F : NF) (i : Nat) (sp : Sp) (E : XK) (t : TA) : TE := fun σ H Q => ∃ f, σ[i]? = some (some (.ref f)) ∧ H f = some (FnO f F) ∧ t σ H fun vs H1 => H1 f = some (FnO f F) ∧ H1 F.c = some (CodeO F.c F.qual) ∧ sp vs H1 Q E
theorem pe_cb {CX : CXT} {F : NF} {ps fr : List Str} {ws : List (Option V)} {sp : List (Option V) → Sp} {i : Nat} (Fn : ∀ f, NOk X.prog X.w X.K X.mg X.base CX k f F ps fr sp) (g : CbG F.cl fr ws X.outer X.s_0.heap X.H_0) (hex : X.ex = []) (hr : Room j X.A) (hk : k ≤ j) (hx : Passes CX X E) (hN : X.N[i]? = some x) (hv : Vis X.env.scope x) (ha : PA X (e :: es) t)
    (hd : (x == ("__debug__" : Str)) = false := by decide) (hcd : (x == ("__classdict__" : Str)) = false := by decide)
    (he : starEach (e :: es) X.env = (false, eval e X.env) :: starEach es X.env := by rfl) (hpl : (backTo pos (starEach es X.env)).any (·.1) = false := by rfl) : PE X (.Call (.Name x p) (e :: es) [] pos) (tCb F i (sp ws) E t) := by
  refine ⟨fun pins s σ H Q I ⟨f, hs, hf, ht⟩ => wpAny_Call_Name_kw (thn ((pe_var (pos := p) hN hv hd hcd).run pins s σ H (fun v H1 => v = .ref f ∧ H1 = H) I ⟨.ref f, hs, rfl, rfl⟩) fun u s1 ⟨v, H1, I1, r1, ev, eH⟩ => ?_)⟩
  subst ev eH
  obtain rfl : u = Value.ref f := r1
  refine PySem.W.callWith_F (first := []) (fnAt_of I1 hf) (thn (ha.run pos pins s1 σ H1 _ I1 ht) fun us s2 ⟨vs, H2, I2, r, h1, h2, q⟩ => ⟨fnAt_of I2 h1, ?_⟩) he hpl
  have C := g.cells.later g.nf (fun _ _ _ => by rw [hex]; exact List.not_mem_nil) I2
  refine wpAny_call (codeAny_mono ((Fn f).run X.A X.stack s2 H2 us vs ws Q E (hr.mono hk) I2.env0 h1 h2 C r q) fun rs s' hq => ?_)
  match rs, hq with
  | .error e, hq => exact hx pins σ H2 s2 e s' I2 hq
  | .ok (.ret u), hq => exact I2.after hq
  | .ok .next, hq => exact False.elim hq
  | .ok .brk, hq => exact False.elim hq
  | .ok .cont, hq => exact False.elim hq
end
/-- all but tables of code objects stays -/
structure ExtT (H H' : Hp) : Prop where
  keep : ExtN H H'
  free : ∀ b, H' b = none → H b = none
theorem ExtT.of {H H' : Hp} (s : Same H H') : ExtT H H' := ⟨fun b o e _ => s b o e, fun b e => s.free e⟩
theorem ExtT.trans {H H1 H2 : Hp} (a : ExtT H H1) (b : ExtT H1 H2) : ExtT H H2 := ⟨fun x o e n => b.keep x o (a.keep x o e n) n, fun x e => a.free x (b.free x e)⟩
theorem ExtT.lst {H H' : Hp} (s : ExtT H H') {a : Addr} {xs : List V} (e : H a = some (.lst xs)) : H' a = some (.lst xs) := s.keep a _ e (fun _ h => by cases h)
theorem ExtT.tup {H H' : Hp} (s : ExtT H H') {a : Addr} {xs : List V} (e : H a = some (.tup xs)) : H' a = some (.tup xs) := s.keep a _ e (fun _ h => by cases h)
end Dw
namespace Dw
open PySem PySem.Spec PyProof.Rows L2 SX NdefX LamX
section
variable {P : Program} {w : World} {K : PySem.W.Frag} {mg : Str → Option Value} {base : Heap}
/-- a def whose code object's address is known -/
theorem calXK {x : Str} {st : Stmt} {f c : Addr} {oc dV kV doc pm ct : Value} {od an : Option Addr} {osl : Array (Option Value)} {N ps : List Str} {k : Nat} {sp : Sp} (lk : K.lookup f = some ⟨oc, od, .func (PySem.W.fnOf x x (C8.fnArgs st) (C8.fnBody st) (C8.fnScope st) dV kV doc pm an (.ref c) ct), osl⟩) (hcd : PySem.W.codeIn K (.ref c) x = true) (hm : mg x = some (.ref f)) (kp : PySem.W.keepIn K (.ref f) = true)
    (b : Binds K (PySem.W.fnOf x x (C8.fnArgs st) (C8.fnBody st) (C8.fnScope st) dV kV doc pm an (.ref c) ct) ps []) (S : FnScope N ps (C8.fnScope st)) (len : ∀ vs H Q E, sp vs H Q E → vs.length = ps.length)
    (body : ∀ (A : Around) (outer : List Env) (s : Shared) (H : Hp) (vs : List V) (Q : VK) (E : XK), Room k (A.deeper (envOfC x (C8.fnScope st) s.heap.objs.size f (.ref c))) → sp vs H Q E →
      ∃ t, PSs (cxOf (L2.CX P w) P w K mg base N x (C8.fnScope st) f (.ref c) A outer s H E) (C8.fnBody st) t ∧ t { nx := fun _ H' => Q .non H', rt := Q } (start N vs) H) : CalX P w K mg base (k + 1) x sp :=
  ⟨f, _, ps, fn_of lk hcd S len fun A outer s H vs Q E hr h => body A outer s H vs Q E hr h, hm, kp, b⟩
end
/-- whether a text is a key of a written table -/
def KAt (K : PySem.W.Frag) (w : World) (a : Addr) (z : Str) (b : Bool) : Prop := ∃ es n r, K.lookup a = some ⟨.type "dict", none, .dict es n, #[]⟩ ∧ PySem.W.KeysLit w.params es.toList ∧ (a == sysModules) = false ∧ PySem.W.nsIn K a z = some r ∧ r.isSome = b
def rKNo (K : PySem.W.Frag) (w : World) : R2 := fun x y H Q => ∃ (a : Addr) (z : Str) (b : Bool), y = .ref a ∧ x = .str z ∧ KAt K w a z b ∧ Q (.bl (!b)) H
theorem op_kNo {X : Cx} : OpR X (compareOp .NotIn) (rKNo X.K X.w) := by
  intro pins s σ H x y v u Q I rx ry h
  obtain ⟨a, z, b, rfl, rfl, ⟨es, n, r, hl, hk, low, h1, h2⟩, q⟩ := h
  obtain ⟨t, rfl⟩ := (show ∃ t, v = Value.str z t from rx)
  obtain rfl : u = Value.ref a := ry
  refine wpAny_notIn_of (strKind_is X.prog X.w z t) low (PySem.W.mapOf_K (prog := X.prog) (w := X.w) I.kIn hl hk) ?_
  rw [PySem.W.find_K hl h1, h2]
  exact ⟨.bl (!b), H, I.tok _, rfl, q⟩
end Dw

namespace Dw
open PySem PySem.Spec PyProof.Rows L2 SX
/-! a display with one pair, its key a tuple; and dicts that number a list of tuples -/
def tDisp1T (tk tv : TE) : TE := fun σ H Q => ∀ p, H p = none → tk σ (upd H p (.dT [])) fun x H1 => tv σ H1 fun y H2 => H2 p = some (.dT []) ∧ ∃ (b : Addr) (ks : List L2.Key), x = .ref b ∧ H2 b = some (.tup (ks.map kV)) ∧ Q (.ref p) (upd H2 p (.dT [(ks, y)]))
theorem pe_disp1T {X : Cx} {k v : Expr} {pos : Pos} {tk tv : TE} (hu : X.A.units + 1 < cLine) (hk : PE X k tk) (hv : PE X v tv) : PE X (.Dict [some k] [v] pos) (tDisp1T tk tv) := by
  refine ⟨fun pins s σ H Q I q => ?_⟩
  have I1 := I.laid (t' := s.toks) (fun _ _ q => Heap.get?_push_of_some _ q) (Nat.le_refl _) (dt_empty (H := upd H s.heap.objs.size (.dT [])) s.heap I.big)
  rw [arm_eval_Dict, zip_pairTrees [some k] [v] X.env pos rfl rfl, dictDisplay_pairs (pairTrees [some k] [v] X.env pos) (List.cons_ne_nil _ _) (by show (1 : Nat) < 17; decide)]
  refine wpAny_bind (wpAny_standAt (wpAny_bind (wpAny_subDictH (knd := tupleKind (mixKind X.prog X.w)) (Q := fun d s' => wpAny (model X.prog X.w) X.A (pure (Value.ref d)) (EP X pins σ Q) X.xe s') (show X.A.units < cLine by omega) (by show (1 : Nat) ≤ 15; decide) ?_)))
  refine pairTrees_cons_walk (thn (hk.run pins _ σ _ _ I1 (q _ (I.hok.fresh (Nat.le_refl _)))) fun u s1 ⟨x, H1, I2, rx, q1⟩ => thn (hv.run pins s1 σ H1 _ I2 q1) fun w2 s2 ⟨y, H2, I3, ry, e, b, ks, ex, eb, q2⟩ => pairTrees_nil_walk ?_)
  subst ex
  cases (show u = Value.ref b from rx)
  obtain ⟨_, hd, xs, rel, dd⟩ := dt_of I3.hok e
  cases rel
  refine ⟨[(ks, b, w2)], ⟨rfl, rfl, key_of I3.hok eb, trivial⟩, dd, fun h' tk dd' hs => wpAny_pure ⟨.ref s.heap.objs.size, _, ?_, rfl, q2⟩⟩
  obtain ⟨o, es, ep, h1, h2, h3, h4, _, h5⟩ := dd'
  refine d_write I3 (by rw [e]; exact True.intro) hs ⟨o, h1⟩ ⟨by rw [sizeLine_eq]; exact (by decide : (1 : Nat) ≤ 16777216), hd, [(ks, b, w2)], .cons ⟨rfl, ?_, ry⟩ .nil, o, es, ep, h1, h2, h3, h4, h5⟩
  show upd H2 s.heap.objs.size _ b = _
  rw [upd_ne (ne_of eb e (fun z => nomatch z))]
  exact eb
end Dw
namespace Dw
open PySem PySem.Spec PyProof.Rows L2 SX
abbrev kyT (l : List Int) : List L2.Key := l.map Sum.inl
theorem kyT_inj {a b : List Int} (e : kyT a = kyT b) : a = b := by
  exact (List.map_inj_right fun _ _ h => Sum.inl.inj h).mp e
theorem kyT_V (l : List Int) : (kyT l).map kV = l.map V.int := by
  unfold kyT
  rw [List.map_map]
  rfl
/-- the labels, numbered from k on -/
def numT : Nat → List (List Int) → List (List L2.Key × V)
  | _, [] => []
  | k, l :: ls => (kyT l, nv k) :: numT (k + 1) ls
theorem numT_len : ∀ (k : Nat) (ls : List (List Int)), (numT k ls).length = ls.length
  | _, [] => rfl
  | k, l :: ls => by
    unfold numT
    rw [List.length_cons, List.length_cons, numT_len (k + 1) ls]
theorem numT_snoc : ∀ (k : Nat) (ls : List (List Int)) (l : List Int), numT k (ls ++ [l]) = numT k ls ++ [(kyT l, nv (k + ls.length))]
  | k, [], l => rfl
  | k, x :: ls, l => by
    rw [List.cons_append]
    unfold numT
    rw [numT_snoc (k + 1) ls l, List.cons_append, List.length_cons, show k + 1 + ls.length = k + (ls.length + 1) by omega]
theorem numT_no : ∀ (k : Nat) (ls : List (List Int)) (l : List Int), l ∉ ls → valV (numT k ls) (kyT l) = none
  | _, [], _, _ => rfl
  | k, x :: ls, l, h => by
    unfold numT
    rw [valV_neg (fun e => h (by rw [kyT_inj e]; exact List.mem_cons_self))]
    exact numT_no (k + 1) ls l fun z => h (List.mem_cons_of_mem _ z)
theorem numT_at : ∀ (k : Nat) (ls : List (List Int)) (l : List Int), l ∈ ls → ∃ i, ls[i]? = some l ∧ valV (numT k ls) (kyT l) = some (nv (k + i))
  | _, [], _, h => nomatch h
  | k, x :: ls, l, h => by
    unfold numT
    by_cases e : x = l
    · exact ⟨0, by rw [e]; rfl, by rw [valV_pos (by rw [e])]; rfl⟩
    · obtain ⟨i, h1, h2⟩ := numT_at (k + 1) ls l ((List.mem_cons.mp h).resolve_left fun z => e z.symm)
      exact ⟨i + 1, h1, by rw [valV_neg (fun z => e (kyT_inj z)), h2, show k + 1 + i = k + (i + 1) by omega]⟩
theorem numT_in {H : Hp} {d b : Addr} {ls : List (List Int)} {l : List Int} (e : H d = some (.dT (numT 0 ls))) (eb : H b = some (.tup (l.map V.int))) : DGet H d (.ref b) (valV (numT 0 ls) (kyT l)) := DGet.t e (by rw [kyT_V]; exact eb)
theorem numT_put {H : Hp} {d b : Addr} {ls : List (List Int)} {l : List Int} (e : H d = some (.dT (numT 0 ls))) (eb : H b = some (.tup (l.map V.int))) (n : l ∉ ls) (hl : ls.length < 1000) : DPut H d (.ref b) (nv ls.length) (upd H d (.dT (numT 0 (ls ++ [l])))) := by
  have := DPut.t (v := nv ls.length) e (b := b) (k := kyT l) (by rw [kyT_V]; exact eb) (by rw [numT_len, sizeLine_eq]; omega)
  rwa [putK_new _ (numT_no 0 ls l n), show numT 0 ls ++ [(kyT l, nv ls.length)] = numT 0 (ls ++ [l]) by rw [numT_snoc, Nat.zero_add]] at this
end Dw
namespace Dw
open PySem PySem.Spec PyProof.Rows L2 SX
end Dw

namespace Dw
/-! a search breadth first, as relations on the lists that stand: the labels found, the rows of their numbers -/
/-- the numbers of a row in the order in which they are found: c are known ahead of it -/
def scanR : Nat → List Nat → Option Nat
  | c, [] => some c
  | c, x :: r => if x < c then scanR c r else if x = c then scanR (c + 1) r else none
def scanT : Nat → List (List Nat) → Option Nat
  | c, [] => some c
  | c, r :: rs => (scanR c r).bind fun d => scanT d rs
theorem scanR_snoc : ∀ (c : Nat) (r : List Nat) (x : Nat), scanR c (r ++ [x]) = (scanR c r).bind fun d => scanR d [x]
  | _, [], _ => rfl
  | c, y :: r, x => by
    rw [List.cons_append]
    unfold scanR
    split
    · exact scanR_snoc c r x
    · split
      · exact scanR_snoc (c + 1) r x
      · rfl
theorem scanT_snoc : ∀ (c : Nat) (rs : List (List Nat)) (r : List Nat), scanT c (rs ++ [r]) = (scanT c rs).bind fun d => scanR d r
  | c, [], r => by
    show (scanR c r).bind (fun d => scanT d []) = scanR c r
    cases scanR c r <;> rfl
  | c, y :: rs, r => by
    rw [List.cons_append]
    unfold scanT
    cases h : scanR c y with
    | none => rfl
    | some d => exact scanT_snoc d rs r
section
variable {L : Type} [DecidableEq L] {g : L → Nat → L} {U : List L}
/-- the place of a label -/
def ixL1 (y : L) : List L → Nat
  | [] => 0
  | x :: f => if x = y then 0 else ixL1 y f + 1
theorem ix_at {y : L} : ∀ {f : List L} {x : Nat}, f.Nodup → f[x]? = some y → ixL1 y f = x
  | z :: f, 0, _, h => by
    cases h
    exact if_pos rfl
  | z :: f, x + 1, nd, h => by
    have h' : f[x]? = some y := h
    have n : z ≠ y := fun e => (List.nodup_cons.mp nd).1 (e ▸ List.mem_of_getElem? h')
    show (if z = y then 0 else ixL1 y f + 1) = x + 1
    rw [if_neg n, ix_at (List.nodup_cons.mp nd).2 h']
def stepL (y : L) (p : List L × List Nat) : List L × List Nat := if y ∈ p.1 then (p.1, p.2 ++ [ixL1 y p.1]) else (p.1 ++ [y], p.2 ++ [p.1.length])
def rowF (h : Nat → L) (f0 : List L) : Nat → List L × List Nat
  | 0 => (f0, [])
  | j + 1 => stepL (h j) (rowF h f0 j)
def bfsN (g : L → Nat → L) (n : Nat) (l0 : L) : Nat → List L × List (List Nat)
  | 0 => ([l0], [])
  | k + 1 => let p := bfsN g n l0 k
    match p.1[k]? with
    | some l => ((rowF (g l) p.1 n).1, p.2 ++ [(rowF (g l) p.1 n).2])
    | none => p
theorem nodup_le {L : Type} : ∀ {a U : List L}, a.Nodup → (∀ y ∈ a, y ∈ U) → a.length ≤ U.length
  | [], _, _, _ => Nat.zero_le _
  | x :: a, U, nd, h => by
    obtain ⟨s, t, rfl⟩ := List.append_of_mem (h x List.mem_cons_self)
    have ih := nodup_le (a := a) (U := s ++ t) (List.nodup_cons.mp nd).2 fun y hy => by
      rcases List.mem_append.mp (h y (List.mem_cons_of_mem _ hy)) with z | z
      · exact List.mem_append_left _ z
      · rcases List.mem_cons.mp z with z | z
        · exact absurd (z ▸ hy) (List.nodup_cons.mp nd).1
        · exact List.mem_append_right _ z
    rw [List.length_append] at ih
    rw [List.length_cons, List.length_append, List.length_cons]
    omega
theorem snoc_nodup {L : Type} {a : List L} {x : L} (nd : a.Nodup) (h : x ∉ a) : (a ++ [x]).Nodup := by
  rw [List.nodup_append]
  exact ⟨nd, List.pairwise_singleton _ _, fun y hy z hz => by rw [List.mem_singleton.mp hz]; exact fun e => h (e ▸ hy)⟩
/-- within a row: the letters below j are done -/
structure RowI (g : L → Nat → L) (U f0 : List L) (l : L) (j : Nat) (f : List L) (row : List Nat) : Prop where
  nd : f.Nodup
  pre : ∃ m, f = f0 ++ m
  len : row.length = j
  at_ : ∀ i x, row[i]? = some x → f[x]? = some (g l i)
  scan : scanR f0.length row = some f.length
  sub : ∀ y ∈ f, y ∈ U
  fn : rowF (g l) f0 j = (f, row)
theorem RowI.zero {f0 : List L} {l : L} (nd : f0.Nodup) (sub : ∀ y ∈ f0, y ∈ U) : RowI g U f0 l 0 f0 [] :=
  ⟨nd, ⟨[], (List.append_nil _).symm⟩, rfl, (fun _ _ h => nomatch h), rfl, sub, rfl⟩
theorem row_at {L : Type} {row : List Nat} {f : List L} {g : Nat → L} {x j : Nat} (hl : row.length = j) (h : ∀ i y, row[i]? = some y → f[y]? = some (g i)) (hx : f[x]? = some (g j)) : ∀ i y, (row ++ [x])[i]? = some y → f[y]? = some (g i) := by
  intro i y e
  by_cases hi : i < row.length
  · rw [List.getElem?_append_left hi] at e
    exact h i y e
  · rw [List.getElem?_append_right (by omega)] at e
    cases hk : i - row.length with
    | zero =>
      rw [hk] at e
      cases e
      rwa [show i = j by omega]
    | succ k =>
      rw [hk] at e
      cases e
theorem RowI.old {f0 f : List L} {l : L} {j x : Nat} {row : List Nat} (h : RowI g U f0 l j f row) (e : f[x]? = some (g l j)) : RowI g U f0 l (j + 1) f (row ++ [x]) := by
  refine ⟨h.nd, h.pre, by rw [List.length_append, h.len]; rfl, row_at h.len h.at_ e, ?_, h.sub, ?_⟩
  · rw [scanR_snoc, h.scan]
    show (if x < f.length then scanR f.length [] else _) = _
    rw [if_pos (List.getElem?_eq_some_iff.mp e).1]
    rfl
  · show stepL (g l j) (rowF (g l) f0 j) = _
    rw [h.fn]
    unfold stepL
    rw [if_pos (List.mem_of_getElem? e), ix_at h.nd e]
theorem RowI.new {f0 f : List L} {l : L} {j : Nat} {row : List Nat} (h : RowI g U f0 l j f row) (n : g l j ∉ f) (u : g l j ∈ U) : RowI g U f0 l (j + 1) (f ++ [g l j]) (row ++ [f.length]) := by
  obtain ⟨m, hm⟩ := h.pre
  refine ⟨snoc_nodup h.nd n, ⟨m ++ [g l j], by rw [hm, List.append_assoc]⟩, by rw [List.length_append, h.len]; rfl, row_at h.len (fun i y e => ?_) ?_, ?_, fun y hy => ?_, by show stepL (g l j) (rowF (g l) f0 j) = _; rw [h.fn]; exact if_neg n⟩
  · have := h.at_ i y e
    rw [List.getElem?_append_left (List.getElem?_eq_some_iff.mp this).1]
    exact this
  · rw [List.getElem?_append_right (Nat.le_refl _), Nat.sub_self]
    rfl
  · rw [scanR_snoc, h.scan]
    show (if f.length < f.length then _ else if f.length = f.length then scanR (f.length + 1) [] else none) = _
    rw [if_neg (Nat.lt_irrefl _), if_pos rfl, List.length_append]
    rfl
  · rcases List.mem_append.mp hy with z | z
    · exact h.sub y z
    · rw [List.mem_singleton.mp z]; exact u
/-- the whole search -/
structure BfsI (g : L → Nat → L) (U : List L) (n : Nat) (l0 : L) (f : List L) (T : List (List Nat)) : Prop where
  nd : f.Nodup
  hd : f[0]? = some l0
  le : T.length ≤ f.length
  rows : ∀ (i : Nat) (r : List Nat), T[i]? = some r → r.length = n ∧ ∃ l, f[i]? = some l ∧ ∀ j x, r[j]? = some x → f[x]? = some (g l j)
  scan : scanT 1 T = some f.length
  order : ∀ k, k < T.length → ∃ c, scanT 1 (T.take k) = some c ∧ k < c
  sub : ∀ y ∈ f, y ∈ U
  fn : bfsN g n l0 T.length = (f, T)
theorem BfsI.zero {n : Nat} {l0 : L} (u : l0 ∈ U) : BfsI g U n l0 [l0] [] :=
  ⟨List.pairwise_singleton _ _, rfl, Nat.zero_le _, (fun _ _ h => nomatch h), rfl, (fun _ h => nomatch h), (fun y hy => by rw [List.mem_singleton.mp hy]; exact u), rfl⟩
theorem BfsI.step {n : Nat} {l0 l : L} {f f' : List L} {T : List (List Nat)} {row : List Nat} (h : BfsI g U n l0 f T) (hl : f[T.length]? = some l) (r : RowI g U f l n f' row) : BfsI g U n l0 f' (T ++ [row]) := by
  obtain ⟨m, hm⟩ := r.pre
  have up : ∀ {i : Nat} {y : L}, f[i]? = some y → f'[i]? = some y := fun {i y} e => by
    rw [hm, List.getElem?_append_left (List.getElem?_eq_some_iff.mp e).1]
    exact e
  have hlt := (List.getElem?_eq_some_iff.mp hl).1
  have hlen : f.length ≤ f'.length := by rw [hm, List.length_append]; omega
  have tl : (T ++ [row]).length = T.length + 1 := by rw [List.length_append]; rfl
  refine ⟨r.nd, up h.hd, by omega, fun i q e => ?_, by rw [scanT_snoc, h.scan]; exact r.scan, fun k hk => ?_, r.sub, ?_⟩
  rotate_right 1
  · rw [tl]
    show (match (bfsN g n l0 T.length).1[T.length]? with | some l => ((rowF (g l) (bfsN g n l0 T.length).1 n).1, (bfsN g n l0 T.length).2 ++ [(rowF (g l) (bfsN g n l0 T.length).1 n).2]) | none => bfsN g n l0 T.length) = _
    rw [h.fn, hl]
    show ((rowF (g l) f n).1, T ++ [(rowF (g l) f n).2]) = _
    rw [r.fn]
  · by_cases hi : i < T.length
    · rw [List.getElem?_append_left hi] at e
      obtain ⟨e1, l1, e2, e3⟩ := h.rows i q e
      exact ⟨e1, l1, up e2, fun j x ex => up (e3 j x ex)⟩
    · rw [List.getElem?_append_right (by omega)] at e
      cases hk : i - T.length with
      | zero =>
        rw [hk] at e
        cases e
        rw [show i = T.length by omega]
        exact ⟨r.len, l, up hl, r.at_⟩
      | succ k =>
        rw [hk] at e
        cases e
  · by_cases hk2 : k < T.length
    · rw [List.take_append_of_le_length (by omega)]
      exact h.order k hk2
    · rw [show k = T.length by omega, List.take_append_of_le_length (Nat.le_refl _), List.take_length]
      exact ⟨_, h.scan, hlt⟩
theorem bfsN_stop {n : Nat} {l0 : L} {k : Nat} (h : (bfsN g n l0 k).1[k]? = none) : ∀ d, bfsN g n l0 (k + d) = bfsN g n l0 k
  | 0 => rfl
  | d + 1 => by
    have ih := bfsN_stop h d
    show (match (bfsN g n l0 (k + d)).1[k + d]? with | some l => _ | none => bfsN g n l0 (k + d)) = _
    rw [ih]
    have hn : (bfsN g n l0 k).1[k + d]? = none := List.getElem?_eq_none (Nat.le_trans (List.getElem?_eq_none_iff.mp h) (Nat.le_add_right _ _))
    rw [hn]
/-- a search that is over is the one alone -/
theorem BfsI.one {U' : List L} {n : Nat} {l0 : L} {f f' : List L} {T T' : List (List Nat)} (h : BfsI g U n l0 f T) (h' : BfsI g U' n l0 f' T') (e : T.length = f.length) (e' : T'.length = f'.length) : f = f' ∧ T = T' := by
  have main : ∀ {U U' : List L} {f f' : List L} {T T' : List (List Nat)}, BfsI g U n l0 f T → BfsI g U' n l0 f' T' → T.length = f.length → T.length ≤ T'.length → (f, T) = (f', T') := fun {U U' f f' T T'} h h' e le => by
    have s := bfsN_stop (g := g) (n := n) (l0 := l0) (k := T.length) (by rw [h.fn]; exact List.getElem?_eq_none (Nat.le_of_eq e.symm)) (T'.length - T.length)
    rw [show T.length + (T'.length - T.length) = T'.length by omega, h'.fn, h.fn] at s
    exact s.symm
  rcases Nat.le_total T.length T'.length with z | z
  · exact Prod.mk.inj (main h h' e z)
  · have := Prod.mk.inj (main h' h e' z)
    exact ⟨this.1.symm, this.2.symm⟩
theorem BfsI.bound {n : Nat} {l0 : L} {f : List L} {T : List (List Nat)} (h : BfsI g U n l0 f T) : f.length ≤ U.length := nodup_le h.nd h.sub
theorem RowI.bound {f0 f : List L} {l : L} {j : Nat} {row : List Nat} (h : RowI g U f0 l j f row) : f.length ≤ U.length := nodup_le h.nd h.sub
theorem RowI.bound1 {f0 f : List L} {l : L} {j : Nat} {row : List Nat} (h : RowI g U f0 l j f row) (n : g l j ∉ f) (u : g l j ∈ U) : f.length < U.length := by
  have := (h.new n u).bound
  rw [List.length_append] at this
  exact this
end
end Dw

namespace Dw
open PySem PySem.Spec PyProof.Rows L2 SX
/-! a search over tuples of ints, as it stands in the heap -/
theorem TupsAt.upd {H : Hp} {ts : List Addr} {T : List (List Int)} {x : Addr} {o o' : HO} (h : TupsAt H ts T) (e : H x = some o) (n : ∀ xs, HO.tup xs ≠ o) : TupsAt (L2.upd H x o') ts T := ⟨h.len, fun i a r h1 h2 => by
  have ea := h.at_ i a r h1 h2
  rw [upd_ne (ne_of ea e (n _))]
  exact ea⟩
theorem TupsAt.get {H : Hp} {ts : List Addr} {T : List (List Int)} {i : Nat} {r : List Int} (h : TupsAt H ts T) (e : T[i]? = some r) : ∃ a, ts[i]? = some a ∧ H a = some (.tup (r.map V.int)) := by
  have hi : i < ts.length := by rw [h.len]; exact (List.getElem?_eq_some_iff.mp e).1
  exact ⟨ts[i], List.getElem?_eq_getElem hi, h.at_ i _ _ (List.getElem?_eq_getElem hi) e⟩
theorem numT_last {ls : List (List Int)} {l : List Int} (h : l ∉ ls) : valV (numT 0 (ls ++ [l])) (kyT l) = some (nv ls.length) := by
  rw [numT_snoc, valV_snoc _ _ _ _ (numT_no 0 ls l h), if_pos rfl, Nat.zero_add]
def natT (T : List (List Nat)) : List (List Int) := T.map fun r => r.map fun (x : Nat) => (x : Int)
structure RS (H H1 : Hp) (g : List Int → Nat → List Int) (U : List (List Int)) (n : Nat) (l0 : List Int) (pF pN pT : Addr) (fs rs : List Addr) (ls : List (List Int)) (T : List (List Nat)) : Prop where
  same : Same H H1
  hF : H1 pF = some (.lst (fs.map V.ref))
  tF : TupsAt H1 fs ls
  hN : H1 pN = some (.dT (numT 0 ls))
  hT : H1 pT = some (.lst (rs.map V.ref))
  rows : RowsAt H1 rs (natT T)
  nr : ∀ y ∈ rs, H y = none ∧ y ≠ pF ∧ y ≠ pN ∧ y ≠ pT
  bfs : BfsI g U n l0 ls T
def FolOk (g : List Int → Nat → List Int) (U : List (List Int)) (n : Nat) (spF : Sp) (H : Hp) : Prop := ∀ H1 b l j Q1 E1, Same H H1 → H1 b = some (.tup (l.map V.int)) → l ∈ U → j < n → (∀ c H2, Same H1 H2 → H2 c = some (.tup ((g l j).map V.int)) → Q1 (.ref c) H2) → spF [.ref b, nv j] H1 Q1 E1
/-- what reached returns -/
structure RchAt (H H' : Hp) (g : List Int → Nat → List Int) (U : List (List Int)) (n : Nat) (l0 : List Int) (p : Addr) (ls : List (List Int)) (T : List (List Nat)) : Prop where
  ex : ∃ f t fs rs, H' p = some (.tup [.ref f, .ref t]) ∧ H' f = some (.lst (fs.map V.ref)) ∧ TupsAt H' fs ls ∧ H' t = some (.lst (rs.map V.ref)) ∧ RowsAt H' rs (natT T) ∧ H f = none ∧ H t = none ∧ t ≠ f ∧ (∀ y ∈ rs, H y = none ∧ y ≠ f ∧ y ≠ t)
  bfs : BfsI g U n l0 ls T
  all : T.length = ls.length
theorem RowsAt.ext {H H' : Hp} {rs : List Addr} {T : List (List Int)} (h : RowsAt H rs T) (e : ExtT H H') : RowsAt H' rs T := ⟨h.len, fun i a r h1 h2 => e.lst (h.at_ i a r h1 h2)⟩
theorem MachAt.ext {C : Addr} {H H' : Hp} {m : Addr} {w : Nat} {T : List (List Int)} {acc : List Bool} (h : MachAt C H m w T acc) (e : ExtT H H') : MachAt C H' m w T acc := by
  obtain ⟨dx, t, b, rs, h1, h2, h3, h4⟩ := h.ex
  exact ⟨dx, t, b, rs, e.keep _ _ h1 (fun _ z => nomatch z), e.lst h2, h3.ext e, e.lst h4⟩
theorem TupsAt.ext {H H' : Hp} {ts : List Addr} {T : List (List Int)} (h : TupsAt H ts T) (e : ExtT H H') : TupsAt H' ts T := ⟨h.len, fun i a r h1 h2 => e.tup (h.at_ i a r h1 h2)⟩
theorem TabN.same {H H' : Hp} {P : Addr} {nm : Nat → Nat → Str} (h : NdefX.TabN H P nm) (s : Same H H') : NdefX.TabN H' P nm := h.ext s
/-- pairs of states -/
def pairsU (n1 n2 : Nat) : List (List Int) := (List.range n1).flatMap fun a => (List.range n2).map fun b => [((a : Nat) : Int), ((b : Nat) : Int)]
theorem mem_pairsU {n1 n2 : Nat} {l : List Int} : l ∈ pairsU n1 n2 ↔ ∃ x y : Nat, x < n1 ∧ y < n2 ∧ l = [(x : Int), (y : Int)] := by
  unfold pairsU
  rw [List.mem_flatMap]
  constructor
  · rintro ⟨x, hx, h⟩
    obtain ⟨y, hy, rfl⟩ := List.mem_map.mp h
    exact ⟨x, y, List.mem_range.mp hx, List.mem_range.mp hy, rfl⟩
  · rintro ⟨x, y, hx, hy, rfl⟩
    exact ⟨x, List.mem_range.mpr hx, List.mem_map.mpr ⟨y, List.mem_range.mpr hy, rfl⟩⟩
theorem flat_const {α : Type} {f : Nat → List α} {k : Nat} (h : ∀ a, (f a).length = k) : ∀ n : Nat, ((List.range n).flatMap f).length = n * k
  | 0 => by rw [Nat.zero_mul]; rfl
  | n + 1 => by rw [List.range_succ, List.flatMap_append, List.length_append, flat_const h n, List.flatMap_singleton, h n, Nat.succ_mul]
theorem pairsU_len (n1 n2 : Nat) : (pairsU n1 n2).length = n1 * n2 := flat_const (fun a => by rw [List.length_map, List.length_range]) n1
end Dw
namespace Dw
open PySem PySem.Spec PyProof.Rows L2 SX
theorem Draw.ext {K : PySem.W.Frag} {H H' : Hp} {p q : Addr} {ns : List Int} (d : Draw K H p q ns) (x : ExtT H H') : Draw K H' p q ns := by
  refine ⟨fun H2 b2 => ?_, ?_⟩
  · by_cases e : q = p
    · subst e
      rcases d.1 (L2.upd H q (.tup [])) But.upd with (h | ⟨_, h⟩) | h
      · rw [upd_same] at h; cases h
      · rw [upd_same] at h; cases h
      · exact .inr h
    · rcases d.1 H (But.refl _ _) with (h | ⟨o, h⟩) | h
      · exact .inl (.inl (b2 _ _ e (x.lst h)))
      · exact .inl (.inr ⟨o, b2 _ _ e (x.keep _ _ h (fun _ z => nomatch z))⟩)
      · exact .inr h
  · obtain ⟨a, v, y, hp, h0, h1⟩ := d.2
    exact ⟨a, v, y, x.lst hp, h0, h1⟩
theorem MachP.ext {C : Addr} {H H' : Hp} {L : List Addr} {m : Addr} {w : Nat} {T : List (List Int)} {acc : List Bool} (h : MachP C H L m w T acc) (e : ExtT H H') : MachP C H' L m w T acc := by
  obtain ⟨dx, t, b, rs, h0, h1, h2, h3, h4⟩ := h
  exact ⟨dx, t, b, rs, h0, e.keep _ _ h1 (fun _ z => nomatch z), e.lst h2, h3.ext e, e.lst h4⟩
theorem TupsAt.but {H H' : Hp} {ts : List Addr} {T : List (List Int)} {p : Addr} {xs : List V} (h : TupsAt H ts T) (b : But p H H') (hp : H p = some (.lst xs)) : TupsAt H' ts T := ⟨h.len, fun i a r h1 h2 => by
  have ea := h.at_ i a r h1 h2
  exact b _ _ (ne_of ea hp (fun z => nomatch z)) ea⟩
end Dw

namespace Dw
open PySem PySem.Spec PyProof.Rows L2 SX
/-! a search over ints, as it stands in the heap -/
/-- the labels, numbered from k on -/
def numI : Nat → List Int → List (L2.Key × V)
  | _, [] => []
  | k, l :: ls => (.inl l, nv k) :: numI (k + 1) ls
theorem numI_len : ∀ (k : Nat) (ls : List Int), (numI k ls).length = ls.length
  | _, [] => rfl
  | k, l :: ls => by
    unfold numI
    rw [List.length_cons, List.length_cons, numI_len (k + 1) ls]
theorem numI_snoc : ∀ (k : Nat) (ls : List Int) (l : Int), numI k (ls ++ [l]) = numI k ls ++ [(.inl l, nv (k + ls.length))]
  | k, [], l => rfl
  | k, x :: ls, l => by
    rw [List.cons_append]
    unfold numI
    rw [numI_snoc (k + 1) ls l, List.cons_append, List.length_cons, show k + 1 + ls.length = k + (ls.length + 1) by omega]
theorem numI_no : ∀ (k : Nat) (ls : List Int) (l : Int), l ∉ ls → valV (numI k ls) (.inl l) = none
  | _, [], _, _ => rfl
  | k, x :: ls, l, h => by
    unfold numI
    rw [valV_neg (fun e => h (by rw [Sum.inl.inj e]; exact List.mem_cons_self))]
    exact numI_no (k + 1) ls l fun z => h (List.mem_cons_of_mem _ z)
theorem numI_at : ∀ (k : Nat) (ls : List Int) (l : Int), l ∈ ls → ∃ i, ls[i]? = some l ∧ valV (numI k ls) (.inl l) = some (nv (k + i))
  | _, [], _, h => nomatch h
  | k, x :: ls, l, h => by
    unfold numI
    by_cases e : x = l
    · exact ⟨0, by rw [e]; rfl, by rw [valV_pos (by rw [e])]; rfl⟩
    · obtain ⟨i, h1, h2⟩ := numI_at (k + 1) ls l ((List.mem_cons.mp h).resolve_left fun z => e z.symm)
      exact ⟨i + 1, h1, by rw [valV_neg (fun z => e (Sum.inl.inj z)), h2, show k + 1 + i = k + (i + 1) by omega]⟩
theorem numI_in {H : Hp} {d : Addr} {ls : List Int} {l : Int} (e : H d = some (.dK (numI 0 ls))) : DGet H d (.int l) (valV (numI 0 ls) (.inl l)) := DGet.k (k := .inl l) e
theorem numI_put {H : Hp} {d : Addr} {ls : List Int} {l : Int} (e : H d = some (.dK (numI 0 ls))) (n : l ∉ ls) (hl : ls.length < 1000) : DPut H d (.int l) (nv ls.length) (upd H d (.dK (numI 0 (ls ++ [l])))) := by
  have := DPut.k (v := nv ls.length) (k := .inl l) e (by rw [numI_len, sizeLine_eq]; omega)
  rwa [putK_new _ (numI_no 0 ls l n), show numI 0 ls ++ [(.inl l, nv ls.length)] = numI 0 (ls ++ [l]) by rw [numI_snoc, Nat.zero_add]] at this
theorem numI_last {ls : List Int} {l : Int} (h : l ∉ ls) : valV (numI 0 (ls ++ [l])) (.inl l) = some (nv ls.length) := by
  rw [numI_snoc, valV_snoc _ _ _ _ (numI_no 0 ls l h), if_pos rfl, Nat.zero_add]
structure RSI (H H1 : Hp) (g : Int → Nat → Int) (U : List Int) (n : Nat) (l0 : Int) (pF pN pT : Addr) (rs : List Addr) (ls : List Int) (T : List (List Nat)) : Prop where
  same : Same H H1
  hF : H1 pF = some (.lst (ls.map V.int))
  hN : H1 pN = some (.dK (numI 0 ls))
  hT : H1 pT = some (.lst (rs.map V.ref))
  rows : RowsAt H1 rs (natT T)
  nr : ∀ y ∈ rs, H y = none ∧ y ≠ pF ∧ y ≠ pN ∧ y ≠ pT
  bfs : BfsI g U n l0 ls T
def FolOkI (g : Int → Nat → Int) (U : List Int) (n : Nat) (spF : Sp) (H : Hp) : Prop := ∀ H1 l j Q1 E1, Same H H1 → l ∈ U → j < n → (∀ H2, Same H1 H2 → Q1 (.int (g l j)) H2) → spF [.int l, nv j] H1 Q1 E1
/-- what reached returns -/
structure RchAtI (H H' : Hp) (g : Int → Nat → Int) (U : List Int) (n : Nat) (l0 : Int) (p : Addr) (ls : List Int) (T : List (List Nat)) : Prop where
  ex : ∃ f t rs, H' p = some (.tup [.ref f, .ref t]) ∧ H' f = some (.lst (ls.map V.int)) ∧ H' t = some (.lst (rs.map V.ref)) ∧ RowsAt H' rs (natT T) ∧ H f = none ∧ H t = none ∧ t ≠ f ∧ (∀ y ∈ rs, H y = none ∧ y ≠ f ∧ y ≠ t)
  bfs : BfsI g U n l0 ls T
  all : T.length = ls.length
/-- the ints below n -/
def intsU (n : Nat) : List Int := (List.range n).map fun x => ((x : Nat) : Int)
theorem mem_intsU {n : Nat} {l : Int} : l ∈ intsU n ↔ ∃ x : Nat, x < n ∧ l = (x : Int) := by
  unfold intsU
  rw [List.mem_map]
  constructor
  · rintro ⟨x, hx, rfl⟩; exact ⟨x, List.mem_range.mp hx, rfl⟩
  · rintro ⟨x, hx, rfl⟩; exact ⟨x, List.mem_range.mpr hx, rfl⟩
theorem intsU_len (n : Nat) : (intsU n).length = n := by unfold intsU; rw [List.length_map, List.length_range]
/-! a list or a tuple, walked -/
def AnyS (K : PySem.W.Frag) (H : Hp) (a : Addr) (xs : List V) : Prop := SqL K H a xs ∨ SqT K H a xs
theorem AnyS.same {K : PySem.W.Frag} {H H' : Hp} {a : Addr} {xs : List V} (h : AnyS K H a xs) (s : Same H H') : AnyS K H' a xs := h.imp (fun h => s.seq h) (sameT s)
def iAny (K : PySem.W.Frag) (tl : TE) : TI := fun σ H R => tl σ H fun x H1 => ∃ a, x = .ref a ∧ (((∃ xs, SqL K H1 a xs) ∧ R (Itl K a) H1) ∨ ((∃ xs, SqT K H1 a xs) ∧ R (Itt K a) H1))
theorem piA {X : Cx} (K : PySem.W.Frag) {tg l : Expr} {tl : TE} (hl : PE X l tl) (h : X.K = K := by rfl) : PI X tg l (iAny K tl) := by
  subst h
  refine ⟨fun pins s σ H R I h => ?_⟩
  refine thn (hl.run pins s σ H _ I h) fun v s1 ⟨x, H1, I1, r1, q1⟩ => ?_
  obtain ⟨a, e, q⟩ := q1
  subst e
  cases r1
  rcases q with ⟨⟨xs, hq⟩, q⟩ | ⟨⟨xs, hq⟩, q⟩
  · obtain ⟨its, rv, p, hz⟩ := I1.list hq
    refine wpAny_pyIter_list p.isList ?_
    refine ⟨s1.heap.objs.size, [s1.heap.objs.size], _, _, H1, rfl, I1.kept (t' := s1.toks) fun b o e => Heap.get?_push_of_some _ e, turn_list a _, ⟨_, Heap.get?_push_size _ rfl, rfl, rfl⟩, fun b hb => ?_, q⟩
    have e : b = s1.heap.objs.size := by simpa using hb
    subst e
    exact I1.fpOk (Nat.le_refl _) (I1.hok.fresh (Nat.le_refl _))
  · obtain ⟨its, rv, p, hz⟩ := I1.tuple hq
    refine wpAny_pyIter_tuple (show s1.heap.IsTuple a its.toArray from p) ?_
    refine ⟨s1.heap.objs.size, [s1.heap.objs.size], _, _, H1, rfl, I1.kept (t' := s1.toks) fun b o e => Heap.get?_push_of_some _ e, turn_tuple a _, ⟨_, Heap.get?_push_size _ rfl, rfl, rfl⟩, fun b hb => ?_, q⟩
    have e : b = s1.heap.objs.size := by simpa using hb
    subst e
    exact I1.fpOk (Nat.le_refl _) (I1.hok.fresh (Nat.le_refl _))
/-- a comprehension over either, without a test: a new list of what each turn gives -/
theorem lc_any {K : PySem.W.Frag} {tl : TE} {a : Addr} {xs : List V} {g : TG} {te : TE} {vs : List Nat} {σ : L2.St} {H1 : Hp} {Qd : Addr → Hp → Prop} (ha : AnyS K H1 a xs) (htl : ∀ Q : VK, Q (.ref a) H1 → tl σ H1 Q) (out : Nat → V) (hn : xs.length ≤ 10000)
    (hs : ∀ D i x H (N : VK), H1 D = none → i < xs.length → Same H1 H → xs[i]? = some x → (∀ H2, Same H H2 → N (out i) H2) → g x (wipe σ vs) H fun σ2 H2 => wipe σ2 vs = wipe σ vs ∧ te σ2 H2 N)
    (hd : ∀ D H, H1 D = none → Same H1 H → H D = some (.lst ((List.range xs.length).map out)) → Qd D H) :
    iAny K tl σ H1 fun J H2 => ∀ D, H2 D = none → LcJ J g tYes te vs D σ H2 (Qd D) := by
  refine htl _ ⟨a, rfl, ?_⟩
  rcases ha with h | h
  · exact .inl ⟨⟨_, h⟩, fun D hD => lc_map walk_list out hn hD (fun H s => s.seq h) (fun i x H H' N hi s ⟨e, z⟩ ok => by subst e; exact hs D i x _ N hD hi s z ok) (hd D · hD)⟩
  · exact .inr ⟨⟨_, h⟩, fun D hD => lc_map walk_tup out hn hD (fun H s => sameT s h) (fun i x H H' N hi s ⟨e, z⟩ ok => by subst e; exact hs D i x _ N hD hi s z ok) (hd D · hD)⟩
theorem getD_at {a : List Bool} {x : Nat} (h : x < a.length) : a[x]? = some (a.getD x false) := by
  rw [List.getD_eq_getElem?_getD, List.getElem?_eq_getElem h]
  rfl
theorem natT_at {T : List (List Nat)} {i : Nat} {r : List Nat} (h : T[i]? = some r) : (natT T)[i]? = some (r.map fun (x : Nat) => (x : Int)) := by
  unfold natT
  rw [List.getElem?_map, h]
  rfl
theorem natT_nxt {T : List (List Nat)} {i j x : Nat} {r : List Nat} (h : T[i]? = some r) (hx : r[j]? = some x) : nxt (natT T) i j = x := by
  have e : (natT T).getD i [] = r.map fun (x : Nat) => (x : Int) := by
    rw [List.getD_eq_getElem?_getD, natT_at h]
    rfl
  unfold nxt
  rw [e, List.getD_eq_getElem?_getD, List.getElem?_map, hx]
  rfl
/-- a search that is over makes a machine -/
theorem mok_bfs {L : Type} [DecidableEq L] {g : L → Nat → L} {U : List L} {w : Nat} {l0 : L} {ls : List L} {T : List (List Nat)} {f : L → Bool} (hw : w ≤ 6) (bf : BfsI g U (2 ^ w) l0 ls T) (al : T.length = ls.length) (h4 : ls.length ≤ 400) (hf : ∀ l ∈ U, f l = f (g l 0)) : MOk w (natT T) (ls.map f) := by
  have h0 := (List.getElem?_eq_some_iff.mp bf.hd).1
  have ln : (natT T).length = T.length := by unfold natT; rw [List.length_map]
  refine ⟨hw, by omega, by omega, ?_, by rw [List.length_map]; omega, fun i hi => ?_⟩
  · unfold goodT
    rw [List.all_eq_true]
    intro r' hr'
    unfold natT at hr'
    obtain ⟨r, hr, rfl⟩ := List.mem_map.mp hr'
    obtain ⟨i, hi⟩ := List.mem_iff_getElem?.mp hr
    obtain ⟨h1, l, h2, h3⟩ := bf.rows i r hi
    unfold goodRow
    rw [Bool.and_eq_true, List.all_eq_true]
    refine ⟨decide_eq_true (by rw [List.length_map]; exact h1), fun x hx => ?_⟩
    obtain ⟨y, hy, rfl⟩ := List.mem_map.mp hx
    obtain ⟨j, hj⟩ := List.mem_iff_getElem?.mp hy
    have := (List.getElem?_eq_some_iff.mp (h3 j y hj)).1
    rw [Bool.and_eq_true]
    exact ⟨decide_eq_true (by omega), decide_eq_true (by omega)⟩
  · have hiT : T[i]? = some T[i] := List.getElem?_eq_getElem (by omega)
    obtain ⟨h1, l, h2, h3⟩ := bf.rows i _ hiT
    have hp : 0 < (T[i]'(by omega)).length := by rw [h1]; exact Nat.two_pow_pos w
    have hx0 : (T[i]'(by omega))[0]? = some (T[i]'(by omega))[0] := List.getElem?_eq_getElem hp
    rw [natT_nxt hiT hx0, List.getElem?_map, List.getElem?_map, h2, h3 0 _ hx0]
    show some (f l) = some (f (g l 0))
    rw [hf l (bf.sub l (List.mem_of_getElem? h2))]
/-- the row of a state of such a search -/
theorem bfs_row {L : Type} [DecidableEq L] {g : L → Nat → L} {U : List L} {n : Nat} {l0 : L} {ls : List L} {T : List (List Nat)} (bf : BfsI g U n l0 ls T) (al : T.length = ls.length) {i j : Nat} {l : L} (hl : ls[i]? = some l) (hj : j < n) : ∃ r x, T[i]? = some r ∧ r.length = n ∧ r[j]? = some x ∧ ls[x]? = some (g l j) ∧ nxt (natT T) i j = x := by
  have hi := (List.getElem?_eq_some_iff.mp hl).1
  have hiT : T[i]? = some (T[i]'(by omega)) := List.getElem?_eq_getElem (by omega)
  obtain ⟨h1, l', h2, h3⟩ := bf.rows i _ hiT
  rw [hl] at h2
  cases h2
  have hx : (T[i]'(by omega))[j]? = some ((T[i]'(by omega))[j]'(by omega)) := List.getElem?_eq_getElem (by omega)
  exact ⟨_, _, hiT, h1, hx, h3 j _ hx, natT_nxt hiT hx⟩
/-- the state behind a word has the label behind it -/
theorem bfs_run {L : Type} [DecidableEq L] {g : L → Nat → L} {U : List L} {n : Nat} {l0 : L} {ls : List L} {T : List (List Nat)} (bf : BfsI g U n l0 ls T) (al : T.length = ls.length) : ∀ (word : List Nat), (∀ l ∈ word, l < n) → ∀ (s : Nat) (l : L), ls[s]? = some l → ls[runT (natT T) s word]? = some (word.foldl g l)
  | [], _, _, _, h => h
  | x :: r, hw, s, l, h => by
    obtain ⟨_, y, _, _, _, h2, e⟩ := bfs_row bf al h (hw x List.mem_cons_self)
    show ls[runT (natT T) (nxt (natT T) s x) r]? = some (r.foldl g (g l x))
    rw [e]
    exact bfs_run bf al r (fun m hm => hw m (List.mem_cons_of_mem _ hm)) _ _ h2
theorem nc_K {CX : CXT} {P : Program} {w : World} {K : PySem.W.Frag} {mg : Str → Option Value} {base : Heap} {N : List Str} {F : NdefX.NF} {f : Addr} {A : Around} {outer : List Env} {s : Shared} {H : Hp} {E : XK} : (NdefX.ncx CX P w K mg base N F f A outer s H E).K = K := rfl
theorem nc_w {CX : CXT} {P : Program} {w : World} {K : PySem.W.Frag} {mg : Str → Option Value} {base : Heap} {N : List Str} {F : NdefX.NF} {f : Addr} {A : Around} {outer : List Env} {s : Shared} {H : Hp} {E : XK} : (NdefX.ncx CX P w K mg base N F f A outer s H E).w = w := rfl
theorem nc_prog {CX : CXT} {P : Program} {w : World} {K : PySem.W.Frag} {mg : Str → Option Value} {base : Heap} {N : List Str} {F : NdefX.NF} {f : Addr} {A : Around} {outer : List Env} {s : Shared} {H : Hp} {E : XK} : (NdefX.ncx CX P w K mg base N F f A outer s H E).prog = P := rfl
theorem same2 {H4 : Hp} {x dx : Addr} {o1 o2 : HO} (hx : H4 x = none) (hdx : H4 dx = none) : Same H4 (upd (upd H4 dx o1) x o2) := Dw.Same.new (same_upd hdx) hx
theorem same_mk {H H4 H' : Hp} {x dx : Addr} {o1 o2 : HO} (s : Same H H4) (hx : H4 x = none) (hdx : H4 dx = none) (b : But x (upd (upd H4 dx o1) x o2) H') : Same H H' := fun y o e => b y o (ne_of_none (s _ _ e) hx) (same2 hx hdx y o (s _ _ e))
theorem slL {X : Cx} (K : PySem.W.Frag) (h : X.K = K := by rfl) : SlR X (rSlL K) := h ▸ sl_list
end Dw

namespace Dw
open PySem PySem.Spec PyProof.Rows L2 SX
theorem Pool.upd {H H' : Hp} {p q t : Addr} {ns : List Int} {o : HO} (d : Pool H p q ns) (b : But p H H') (d' : Pool H' p q ns) (ht : H t = none) : Pool (L2.upd H' t o) p q ns := d'.set (d.ne ht) (d.neq ht)
theorem Pool.free {H H' : Hp} {p q t : Addr} {ns : List Int} (d : Pool H p q ns) (b : But p H H') (d' : Pool H' p q ns) (ht : H' t = none) : H t = none := b.free d' ht
/-- the settled marks of drawn bits -/
def ringM (f : Nat → Nat) (n : Nat) (bits : List Bool) (acc : List Bool) : Prop := acc.length = n ∧ ∀ s, s < n → ∃ m, IsMin m (ringL f n s) ∧ acc[s]? = some (bits.getD m false)
theorem ringM_set {f : Nat → Nat} {n : Nat} {bits acc : List Bool} (h : ringM f n bits acc) (hf : ∀ x, x < n → f x < n) {i : Nat} (hi : i < n) : acc[i]? = acc[f i]? := by
  obtain ⟨m, h1, h2⟩ := h.2 i hi
  obtain ⟨k, h3, h4⟩ := h.2 (f i) (hf i hi)
  rw [h2, h4, h1.eq h3 fun x => ring_same hf hi]
/-! words that are accepted, counted -/
def cw (T : List (List Int)) (acc : List Bool) : Nat → Nat → Int
  | 0, s => if acc.getD s false = true then 1 else 0
  | d + 1, s => ((T.getD s []).map fun x => cw T acc d x.toNat).sum
def rowN (T : List (List Int)) (s : Nat) : List Nat := (T.getD s []).map Int.toNat
def stL (T : List (List Int)) : Nat → List Nat
  | 0 => [0]
  | d + 1 => (stL T d).flatMap (rowN T)
theorem sum_append (a b : List Int) : (a ++ b).sum = a.sum + b.sum := by
  induction a with
  | nil => simp
  | cons x r ih => simp [ih, Int.add_assoc]
theorem cw_rows (T : List (List Int)) (acc : List Bool) (d : Nat) : ∀ L : List Nat, (L.map (cw T acc (d + 1))).sum = ((L.flatMap (rowN T)).map (cw T acc d)).sum
  | [] => rfl
  | s :: L => by
    rw [List.map_cons, List.sum_cons, cw_rows T acc d L, List.flatMap_cons, List.map_append, sum_append]
    congr 1
    unfold rowN
    rw [List.map_map]
    rfl
theorem cw_st (T : List (List Int)) (acc : List Bool) : ∀ k d, ((stL T k).map (cw T acc d)).sum = cw T acc (k + d) 0
  | 0, d => by
    rw [Nat.zero_add]
    show cw T acc d 0 + 0 = _
    rw [Int.add_zero]
  | k + 1, d => by
    show (((stL T k).flatMap (rowN T)).map (cw T acc d)).sum = _
    rw [← cw_rows, cw_st T acc k (d + 1), show k + (d + 1) = k + 1 + d by omega]
theorem cw_count (T : List (List Int)) (acc : List Bool) : ∀ L : List Nat, (L.map (cw T acc 0)).sum = ((L.filter fun s => acc.getD s false).length : Int)
  | [] => rfl
  | s :: L => by
    rw [List.map_cons, List.sum_cons, cw_count T acc L]
    show (if acc.getD s false = true then (1 : Int) else 0) + _ = _
    by_cases h : acc.getD s false = true
    · rw [if_pos h, List.filter_cons, if_pos h, List.length_cons]; omega
    · rw [if_neg h, List.filter_cons, if_neg h]; omega
theorem st_lt {w : Nat} {T : List (List Int)} {acc : List Bool} (k : MOk w T acc) : ∀ d, ∀ s ∈ stL T d, s < T.length
  | 0, s, h => by rw [List.mem_singleton.mp h]; exact k.pos
  | d + 1, s, h => by
    obtain ⟨x, hx, hs⟩ := List.mem_flatMap.mp h
    obtain ⟨r, er, hrl, hrx⟩ := goodT_row k.good (st_lt k d x hx)
    unfold rowN at hs
    rw [List.getD_eq_getElem?_getD, er] at hs
    obtain ⟨y, hy, rfl⟩ := List.mem_map.mp hs
    have := hrx y hy
    omega
theorem st_len {w : Nat} {T : List (List Int)} {acc : List Bool} (k : MOk w T acc) : ∀ d, (stL T d).length = (2 ^ w) ^ d
  | 0 => rfl
  | d + 1 => by
    have : ∀ L : List Nat, (∀ s ∈ L, s < T.length) → (L.flatMap (rowN T)).length = L.length * 2 ^ w := fun L => by
      induction L with
      | nil => intro _; simp
      | cons s L ih =>
        intro h
        obtain ⟨r, er, hrl, _⟩ := goodT_row k.good (h s List.mem_cons_self)
        rw [List.flatMap_cons, List.length_append, ih fun x hx => h x (List.mem_cons_of_mem _ hx), List.length_cons, Nat.succ_mul]
        unfold rowN
        rw [List.length_map, List.getD_eq_getElem?_getD, er]
        show r.length + _ = _
        omega
    show ((stL T d).flatMap (rowN T)).length = _
    rw [this _ (st_lt k d), st_len k d, Nat.pow_succ]
end Dw

namespace Dw
open PySem PySem.Spec PyProof.Rows L2 SX
section
variable {w : Nat} {T : List (List Int)} {acc : List Bool}
theorem rowN_at (k : MOk w T acc) {s l : Nat} (hs : s < T.length) (hl : l < 2 ^ w) : (rowN T s)[l]? = some (nxt T s l) := by
  obtain ⟨r, er, e2, _⟩ := goodT_at k.good hs hl
  unfold rowN
  rw [List.getD_eq_getElem?_getD, er, List.getElem?_map, Option.getD_some, e2]
  show some (Int.toNat ((nxt T s l : Nat) : Int)) = _
  rw [Int.toNat_natCast]
theorem rowN_len (k : MOk w T acc) {s : Nat} (hs : s < T.length) : (rowN T s).length = 2 ^ w := by
  obtain ⟨r, er, hrl, _⟩ := goodT_row k.good hs
  unfold rowN
  rw [List.length_map, List.getD_eq_getElem?_getD, er]
  exact hrl
theorem mem_rowN (k : MOk w T acc) {s x : Nat} (hs : s < T.length) : x ∈ rowN T s ↔ ∃ l, l < 2 ^ w ∧ nxt T s l = x := by
  constructor
  · intro h
    obtain ⟨l, hl, e⟩ := List.mem_iff_getElem.mp h
    have hl2 := hl
    rw [rowN_len k hs] at hl2
    have h2 := rowN_at k hs hl2
    rw [List.getElem?_eq_getElem hl, e] at h2
    exact ⟨l, hl2, (Option.some.inj h2).symm⟩
  · rintro ⟨l, hl, rfl⟩
    exact List.mem_of_getElem? (rowN_at k hs hl)
theorem mem_stL (k : MOk w T acc) : ∀ (d s : Nat), s ∈ stL T d ↔ ∃ ls : List Nat, ls.length = d ∧ (∀ l ∈ ls, l < 2 ^ w) ∧ runT T 0 ls = s
  | 0, s => by
    constructor
    · intro h
      rw [List.mem_singleton.mp h]
      exact ⟨[], rfl, (fun _ h => nomatch h), rfl⟩
    · rintro ⟨ls, h1, _, h3⟩
      rw [List.length_eq_zero_iff.mp h1] at h3
      exact List.mem_singleton.mpr h3.symm
  | d + 1, s => by
    constructor
    · intro h
      obtain ⟨x, hx, hs⟩ := List.mem_flatMap.mp h
      obtain ⟨l, hl, e⟩ := (mem_rowN k (st_lt k d x hx)).mp hs
      obtain ⟨ls, h1, h2, h3⟩ := (mem_stL k d x).mp hx
      refine ⟨ls ++ [l], by rw [List.length_append, h1]; rfl, fun y hy => ?_, by rw [runT_snoc, h3, e]⟩
      rcases List.mem_append.mp hy with hy | hy
      · exact h2 y hy
      · rw [List.mem_singleton.mp hy]; exact hl
    · rintro ⟨ls, h1, h2, h3⟩
      obtain ⟨a, l, rfl⟩ := snoc_of (l := ls) (fun e => by rw [e] at h1; cases h1)
      rw [runT_snoc] at h3
      have ha : ∀ y ∈ a, y < 2 ^ w := fun y hy => h2 y (List.mem_append_left _ hy)
      have hx : runT T 0 a ∈ stL T d := (mem_stL k d _).mpr ⟨a, by rw [List.length_append] at h1; exact Nat.succ.inj h1, ha, rfl⟩
      exact List.mem_flatMap.mpr ⟨_, hx, (mem_rowN k (st_lt k d _ hx)).mpr ⟨l, h2 l (List.mem_append_right _ List.mem_cons_self), h3⟩⟩
/-- a letter that is not 0 leads on to an accepting state -/
def endB (T : List (List Int)) (acc : List Bool) (s : Nat) : Bool := ((rowN T s).drop 1).any fun x => acc.getD x false
def endC (T : List (List Int)) (acc : List Bool) (s : Nat) : Nat := (((rowN T s).drop 1).filter fun x => acc.getD x false).length
theorem cw_one (k : MOk w T acc) {s : Nat} (hs : s < T.length) : cw T acc 1 s = cw T acc 0 s + (endC T acc s : Nat) := by
  have e : cw T acc 1 s = ((rowN T s).map (cw T acc 0)).sum := by
    show ((T.getD s []).map fun x => cw T acc 0 x.toNat).sum = _
    unfold rowN
    rw [List.map_map]
    rfl
  have h0 := rowN_at k hs (Nat.two_pow_pos w)
  have hsp : rowN T s = nxt T s 0 :: (rowN T s).drop 1 := by
    cases hr : rowN T s with
    | nil => rw [hr] at h0; cases h0
    | cons x r => rw [hr] at h0; cases h0; rfl
  rw [e, cw_count]
  unfold endC
  rw [hsp]
  show ((List.filter _ (nxt T s 0 :: ((rowN T s).drop 1))).length : Int) = _
  have hset : acc.getD (nxt T s 0) false = acc.getD s false := by
    rw [List.getD_eq_getElem?_getD, List.getD_eq_getElem?_getD, k.set s hs]
  rw [List.drop_succ_cons, List.drop_zero, List.filter_cons, hset]
  show _ = (if acc.getD s false = true then (1 : Int) else 0) + _
  by_cases h : acc.getD s false = true
  · rw [if_pos h, if_pos h, List.length_cons]; omega
  · rw [if_neg h, if_neg h]; omega
theorem endB_iff {s : Nat} : endB T acc s = true ↔ 0 < endC T acc s := by
  unfold endB endC
  rw [List.any_eq_true, List.length_pos_iff_exists_mem]
  constructor
  · rintro ⟨x, hx, h⟩; exact ⟨x, List.mem_filter.mpr ⟨hx, h⟩⟩
  · rintro ⟨x, hx⟩; exact ⟨x, (List.mem_filter.mp hx).1, (List.mem_filter.mp hx).2⟩
def endE (T : List (List Int)) (acc : List Bool) (d : Nat) : Bool := (stL T d).any (endB T acc)
theorem cw_step (k : MOk w T acc) (d : Nat) : ∃ c : Nat, cw T acc (d + 1) 0 = cw T acc d 0 + c ∧ (endE T acc d = true ↔ 0 < c) := by
  have h1 := cw_st T acc d 1
  have h0 := cw_st T acc d 0
  rw [Nat.add_zero] at h0
  have gen : ∀ L : List Nat, (∀ s ∈ L, s < T.length) → ∃ c : Nat, (L.map (cw T acc 1)).sum = (L.map (cw T acc 0)).sum + c ∧ (L.any (endB T acc) = true ↔ 0 < c) := fun L => by
    induction L with
    | nil => intro _; exact ⟨0, rfl, by simp⟩
    | cons s L ih =>
      intro hL
      obtain ⟨c, e1, e2⟩ := ih fun x hx => hL x (List.mem_cons_of_mem _ hx)
      refine ⟨endC T acc s + c, ?_, ?_⟩
      · rw [List.map_cons, List.sum_cons, List.map_cons, List.sum_cons, cw_one k (hL s List.mem_cons_self), e1]
        omega
      · rw [List.any_cons, Bool.or_eq_true, endB_iff, e2]
        omega
  obtain ⟨c, e1, e2⟩ := gen _ (st_lt k d)
  exact ⟨c, by rw [← h1, ← h0]; exact e1, e2⟩
theorem cw_eq (k : MOk w T acc) (a : Nat) : ∀ m, cw T acc a 0 ≤ cw T acc (a + m) 0 ∧ (cw T acc a 0 = cw T acc (a + m) 0 ↔ ∀ i, i < m → endE T acc (a + i) = false)
  | 0 => ⟨Int.le_refl _, ⟨fun _ i h => absurd h (Nat.not_lt_zero i), fun _ => rfl⟩⟩
  | m + 1 => by
    obtain ⟨h1, h2⟩ := cw_eq k a m
    obtain ⟨c, e1, e2⟩ := cw_step k (a + m)
    have e3 : cw T acc (a + (m + 1)) 0 = cw T acc (a + m) 0 + c := e1
    rw [e3]
    refine ⟨by omega, ?_⟩
    constructor
    · intro h i hi
      by_cases him : i < m
      · exact h2.mp (by omega) i him
      · have : i = m := by omega
        subst this
        cases he : endE T acc (a + i) with
        | false => rfl
        | true => have := e2.mp he; omega
    · intro h
      have e4 := h2.mpr fun i hi => h i (by omega)
      have e5 : c = 0 := by
        rcases Nat.eq_zero_or_pos c with z | z
        · exact z
        · have := e2.mpr z
          rw [h m (by omega)] at this
          cases this
      omega
/-- a long tuple has a shorter one beside it -/
theorem pump (k : MOk w T acc) : ∀ d, T.length - 1 ≤ d → endE T acc d = true → ∃ i, i < T.length ∧ endE T acc (T.length - 1 + i) = true := by
  intro d
  induction d using Nat.strongRecOn with
  | ind d ih =>
    intro hd he
    have hp := k.pos
    by_cases hs : d ≤ 2 * T.length - 2
    · exact ⟨d - (T.length - 1), by omega, by rw [show T.length - 1 + (d - (T.length - 1)) = d by omega]; exact he⟩
    · obtain ⟨s, hsm, hse⟩ := List.any_eq_true.mp he
      obtain ⟨ls, h1, h2, h3⟩ := (mem_stL k d s).mp hsm
      obtain ⟨i, j, hij, hj, e⟩ := pigeon T.length (fun i => runT T 0 (ls.take i)) fun i _ => runT_lt k.good _ _ (fun x hx => h2 x (List.mem_of_mem_take hx)) hp
      have e : runT T 0 (ls.take i) = runT T 0 (ls.take j) := e
      have h4 : runT T 0 (ls.take i ++ ls.drop j) = s := by rw [runT_app, e, ← runT_app, List.take_append_drop, h3]
      have hl : (ls.take i ++ ls.drop j).length = d - (j - i) := by rw [List.length_append, List.length_take, List.length_drop]; omega
      refine ih (d - (j - i)) (by omega) (by omega) (List.any_eq_true.mpr ⟨s, (mem_stL k _ s).mpr ⟨_, hl, fun x hx => ?_, h4⟩, hse⟩)
      rcases List.mem_append.mp hx with hx | hx
      · exact h2 x (List.mem_of_mem_take hx)
      · exact h2 x (List.mem_of_mem_drop hx)
/-- finitely many, as it is found -/
def finB (T : List (List Int)) (acc : List Bool) : Bool := (List.range T.length).all fun i => !endE T acc (T.length - 1 + i)
theorem finB_iff (k : MOk w T acc) : finB T acc = true ↔ cw T acc (T.length - 1) 0 = cw T acc (3 * T.length) 0 := by
  have hp := k.pos
  have h := (cw_eq k (T.length - 1) (2 * T.length + 1)).2
  rw [show T.length - 1 + (2 * T.length + 1) = 3 * T.length by omega] at h
  rw [h]
  unfold finB
  rw [List.all_eq_true]
  constructor
  · intro h1 i hi
    cases he : endE T acc (T.length - 1 + i) with
    | false => rfl
    | true =>
      obtain ⟨q, hq, e⟩ := pump k _ (by omega) he
      have := h1 q (List.mem_range.mpr hq)
      rw [e] at this
      cases this
  · intro h1 i hi
    have := List.mem_range.mp hi
    rw [h1 i (by omega)]
    rfl
/-- the marks of the states behind so many letters -/
def mkL (T : List (List Int)) (d : Nat) : List Bool := (List.range T.length).map fun s => decide (s ∈ stL T d)
def mbL (T : List (List Int)) (ms : List Bool) : List Bool := (List.range T.length).map fun x => (List.range T.length).any fun s => ms.getD s false && decide (x ∈ rowN T s)
theorem mkL_at {d s : Nat} (hs : s < T.length) : (mkL T d)[s]? = some (decide (s ∈ stL T d)) := by
  unfold mkL
  rw [List.getElem?_map, List.getElem?_range hs]
  rfl
theorem mkL_len (d : Nat) : (mkL T d).length = T.length := by unfold mkL; rw [List.length_map, List.length_range]
theorem mbL_len (ms : List Bool) : (mbL T ms).length = T.length := by unfold mbL; rw [List.length_map, List.length_range]
theorem mbL_mkL (k : MOk w T acc) (d : Nat) : mbL T (mkL T d) = mkL T (d + 1) := by
  unfold mbL
  show _ = (List.range T.length).map fun s => decide (s ∈ stL T (d + 1))
  refine List.map_congr_left fun x hx => ?_
  have e : ((List.range T.length).any fun s => (mkL T d).getD s false && decide (x ∈ rowN T s)) = true ↔ x ∈ stL T (d + 1) := by
    rw [List.any_eq_true]
    show _ ↔ x ∈ (stL T d).flatMap (rowN T)
    rw [List.mem_flatMap]
    constructor
    · rintro ⟨s, hs, h⟩
      rw [Bool.and_eq_true, List.getD_eq_getElem?_getD, mkL_at (List.mem_range.mp hs)] at h
      exact ⟨s, of_decide_eq_true h.1, of_decide_eq_true h.2⟩
    · rintro ⟨s, hs, h⟩
      have hsT := st_lt k d s hs
      refine ⟨s, List.mem_range.mpr hsT, ?_⟩
      rw [Bool.and_eq_true, List.getD_eq_getElem?_getD, mkL_at hsT]
      exact ⟨decide_eq_true hs, decide_eq_true h⟩
  by_cases hx2 : x ∈ stL T (d + 1)
  · rw [decide_eq_true hx2]; exact e.mpr hx2
  · rw [decide_eq_false hx2]
    cases hb : ((List.range T.length).any fun s => (mkL T d).getD s false && decide (x ∈ rowN T s)) with
    | false => rfl
    | true => exact absurd (e.mp hb) hx2
theorem mkL_zero (k : MOk w T acc) : mkL T 0 = (List.range T.length).map fun s => decide (s = 0) := by
  unfold mkL
  refine List.map_congr_left fun s _ => ?_
  have : (s ∈ stL T 0) ↔ s = 0 := List.mem_singleton
  by_cases h : s = 0
  · rw [decide_eq_true h, decide_eq_true (this.mpr h)]
  · rw [decide_eq_false h, decide_eq_false (fun z => h (this.mp z))]
theorem endE_any (k : MOk w T acc) (d : Nat) : ((List.range T.length).any fun s => (mkL T d).getD s false && endB T acc s) = endE T acc d := by
  have e : ((List.range T.length).any fun s => (mkL T d).getD s false && endB T acc s) = true ↔ endE T acc d = true := by
    unfold endE
    rw [List.any_eq_true, List.any_eq_true]
    constructor
    · rintro ⟨s, hs, h⟩
      rw [Bool.and_eq_true, List.getD_eq_getElem?_getD, mkL_at (List.mem_range.mp hs)] at h
      exact ⟨s, of_decide_eq_true h.1, h.2⟩
    · rintro ⟨s, hs, h⟩
      have hsT := st_lt k d s hs
      refine ⟨s, List.mem_range.mpr hsT, ?_⟩
      rw [Bool.and_eq_true, List.getD_eq_getElem?_getD, mkL_at hsT]
      exact ⟨decide_eq_true hs, h⟩
  cases h1 : endE T acc d with
  | true => exact e.mpr h1
  | false =>
    cases h2 : ((List.range T.length).any fun s => (mkL T d).getD s false && endB T acc s) with
    | false => rfl
    | true => rw [e.mp h2] at h1; cases h1
end
theorem inV_tr : ∀ L : List Bool, inV (.bl true) (L.map V.bl) = L.any id
  | [] => rfl
  | a :: L => by
    have ih := inV_tr L
    unfold inV at ih ⊢
    rw [List.map_cons, List.any_cons, ih, List.any_cons]
    cases a <;> rfl
theorem flat_b (L : List Bool) : (L.map V.bl).all flatV = true := List.all_eq_true.mpr fun z hz => by
  obtain ⟨_, _, rfl⟩ := List.mem_map.mp hz
  rfl
theorem piZ {X : Cx} (K : PySem.W.Frag) {e e2 : Expr} {ta : TA} {p pos tpos : Pos} {elts : List Expr} {kk : Nat} (hg : Gl X "zip") (hm : X.mg "zip" = none) (ha : PA X [e, e2] ta)
    (hs : starEach [e, e2] X.env = (false, eval e X.env) :: starEach [e2] X.env := by rfl) (hpl : (backTo pos (starEach [e2] X.env)).any (·.1) = false := by rfl) (h : X.K = K := by rfl) :
    PI X (.Tuple elts kk tpos) (.Call (.Name "zip" p) [e, e2] [] pos) (iZip K ta) := h ▸ pi_zip hg hm ha hs hpl
end Dw

namespace Dw
open PySem PySem.Spec PyProof.Rows L2 SX
section
variable {w : Nat} {T : List (List Int)} {acc : List Bool}
/-- a machine of width 1 takes a number -/
def accN (T : List (List Int)) (acc : List Bool) (m : Nat) : Bool := acc.getD (runT T 0 (bitsL m (blen m))) false
theorem bitsL_lt1 (n k : Nat) : ∀ l ∈ bitsL n k, l < 2 ^ 1 := fun l hl => bitsL_bits n k l hl
theorem bitsL_pad {m k z : Nat} (h : m < 2 ^ k) : bitsL m (k + z) = bitsL m k ++ List.replicate z 0 := by
  refine List.ext_getElem (by simp [bitsL]) fun i p q => ?_
  by_cases hi : i < k
  · rw [List.getElem_append_left (by rw [bitsL_len]; exact hi)]
    simp [bitsL]
  · rw [List.getElem_append_right (by rw [bitsL_len]; omega), List.getElem_replicate]
    have : m / 2 ^ i = 0 := Nat.div_eq_of_lt (Nat.lt_of_lt_of_le h (Nat.pow_le_pow_right (by decide) (by omega)))
    simp [bitsL, this]
theorem accN_pad (k : MOk 1 T acc) {m n : Nat} (h : m < 2 ^ n) : acc.getD (runT T 0 (bitsL m n)) false = accN T acc m := by
  have hb := blen_le h
  have e : bitsL m n = bitsL m (blen m) ++ List.replicate (n - blen m) 0 := by
    rw [← bitsL_pad (lt_blen m), show blen m + (n - blen m) = n by omega]
  unfold accN
  rw [e, runT_app, List.getD_eq_getElem?_getD, List.getD_eq_getElem?_getD, k.zeros]
  exact runT_lt k.good _ _ (bitsL_lt1 m _) k.pos
/-- an accepting state behind so many letters -/
def accE (T : List (List Int)) (acc : List Bool) (d : Nat) : Bool := (stL T d).any fun s => acc.getD s false
theorem accE_any (k : MOk w T acc) (d : Nat) : ((List.range T.length).any fun s => (mkL T d).getD s false && acc.getD s false) = accE T acc d := by
  have e : ((List.range T.length).any fun s => (mkL T d).getD s false && acc.getD s false) = true ↔ accE T acc d = true := by
    unfold accE
    rw [List.any_eq_true, List.any_eq_true]
    constructor
    · rintro ⟨s, hs, h⟩
      rw [Bool.and_eq_true, List.getD_eq_getElem?_getD, mkL_at (List.mem_range.mp hs)] at h
      exact ⟨s, of_decide_eq_true h.1, h.2⟩
    · rintro ⟨s, hs, h⟩
      have hsT := st_lt k d s hs
      refine ⟨s, List.mem_range.mpr hsT, ?_⟩
      rw [Bool.and_eq_true, List.getD_eq_getElem?_getD, mkL_at hsT]
      exact ⟨decide_eq_true hs, h⟩
  cases h1 : accE T acc d with
  | true => exact e.mpr h1
  | false =>
    cases h2 : ((List.range T.length).any fun s => (mkL T d).getD s false && acc.getD s false) with
    | false => rfl
    | true => rw [e.mp h2] at h1; cases h1
/-- no short word is accepted, so none is -/
theorem none_acc (k : MOk w T acc) (h : ∀ d, d < T.length → accE T acc d = false) : ∀ (n : Nat) (ls : List Nat), ls.length = n → (∀ l ∈ ls, l < 2 ^ w) → acc.getD (runT T 0 ls) false = false := by
  intro n
  induction n using Nat.strongRecOn with
  | ind n ih =>
    intro ls hl hw
    by_cases hn : n < T.length
    · cases hb : acc.getD (runT T 0 ls) false with
      | false => rfl
      | true =>
        have : accE T acc n = true := List.any_eq_true.mpr ⟨_, (mem_stL k n _).mpr ⟨ls, hl, hw, rfl⟩, hb⟩
        rw [h n hn] at this
        cases this
    · obtain ⟨i, j, hij, hj, e⟩ := pigeon T.length (fun i => runT T 0 (ls.take i)) fun i _ => runT_lt k.good _ _ (fun x hx => hw x (List.mem_of_mem_take hx)) k.pos
      have e : runT T 0 (ls.take i) = runT T 0 (ls.take j) := e
      have h4 : runT T 0 (ls.take i ++ ls.drop j) = runT T 0 ls := by
        rw [runT_app, e, ← runT_app, List.take_append_drop]
      have hlen : (ls.take i ++ ls.drop j).length = n - (j - i) := by rw [List.length_append, List.length_take, List.length_drop]; omega
      rw [← h4]
      refine ih (n - (j - i)) (by omega) _ hlen fun x hx => ?_
      rcases List.mem_append.mp hx with hx | hx
      · exact hw x (List.mem_of_mem_take hx)
      · exact hw x (List.mem_of_mem_drop hx)
/-- the marked states that a digit leads to a wanted one -/
def stepW (T : List (List Int)) (ms W : List Bool) (c : Nat) : List Bool := (List.range T.length).map fun s => ms.getD s false && W.getD (nxt T s c) false
theorem stepW_at {ms W : List Bool} {c s : Nat} (hs : s < T.length) : (stepW T ms W c).getD s false = (ms.getD s false && W.getD (nxt T s c) false) := by
  unfold stepW
  rw [List.getD_eq_getElem?_getD, List.getElem?_map, List.getElem?_range hs]
  rfl
theorem stepW_len {ms W : List Bool} {c : Nat} : (stepW T ms W c).length = T.length := by unfold stepW; rw [List.length_map, List.length_range]
def anyW (W : List Bool) : Bool := W.any id
theorem stepW_any {ms W : List Bool} {c : Nat} : (stepW T ms W c).any id = true ↔ ∃ s, s < T.length ∧ ms.getD s false = true ∧ W.getD (nxt T s c) false = true := by
  unfold stepW
  rw [List.any_map, List.any_eq_true]
  constructor
  · rintro ⟨s, hs, h⟩
    have h : (ms.getD s false && W.getD (nxt T s c) false) = true := h
    rw [Bool.and_eq_true] at h
    exact ⟨s, List.mem_range.mp hs, h.1, h.2⟩
  · rintro ⟨s, hs, h1, h2⟩
    refine ⟨s, List.mem_range.mpr hs, ?_⟩
    show (ms.getD s false && W.getD (nxt T s c) false) = true
    rw [h1, h2]; rfl
/-- how far the digits are chosen: d letters in all, k of them left -/
structure Grd (T : List (List Int)) (acc : List Bool) (d k num : Nat) (W : List Bool) : Prop where
  le : k ≤ d
  len : W.length = T.length
  lt : num < 2 ^ (d - k)
  ex : ∃ s, s ∈ stL T k ∧ W.getD s false = true
  run : ∀ s, s ∈ stL T k → W.getD s false = acc.getD (runT T s (bitsL num (d - k))) false
  min : ∀ v, v < 2 ^ d → acc.getD (runT T 0 (bitsL v d)) false = true → num ≤ v / 2 ^ k
theorem Grd.start (k : MOk 1 T acc) {d : Nat} (h : accE T acc d = true) : Grd T acc d d 0 acc := by
  obtain ⟨s, hs, ha⟩ := List.any_eq_true.mp h
  refine ⟨Nat.le_refl _, k.al, Nat.two_pow_pos _, ⟨s, hs, ha⟩, fun s _ => ?_, fun v hv _ => Nat.zero_le _⟩
  rw [Nat.sub_self]
  rfl
theorem Grd.zero (k : MOk 1 T acc) {d i num : Nat} {W : List Bool} (g : Grd T acc d (i + 1) num W) (h : (stepW T (mkL T i) W 0).any id = true) : Grd T acc d i (2 * num) (stepW T (mkL T i) W 0) := by
  obtain ⟨s0, hs0, hm0, hW0⟩ := stepW_any.mp h
  rw [List.getD_eq_getElem?_getD, mkL_at hs0] at hm0
  have hle := g.le
  refine ⟨by omega, stepW_len, ?_, ⟨s0, of_decide_eq_true hm0, ?_⟩, fun s hs => ?_, fun v hv ha => ?_⟩
  · have := g.lt
    rw [show d - i = (d - (i + 1)) + 1 by omega, Nat.pow_succ]
    omega
  · rw [stepW_at hs0, List.getD_eq_getElem?_getD, mkL_at hs0]
    show (decide (s0 ∈ stL T i) && _) = true
    rw [hm0 |> fun (z : decide (s0 ∈ stL T i) = true) => z, hW0]
    rfl
  · have hsT := st_lt k i s hs
    have hn : nxt T s 0 ∈ stL T (i + 1) := List.mem_flatMap.mpr ⟨s, hs, (mem_rowN k hsT).mpr ⟨0, by decide, rfl⟩⟩
    rw [stepW_at hsT, List.getD_eq_getElem?_getD, mkL_at hsT]
    show (decide (s ∈ stL T i) && _) = _
    rw [decide_eq_true hs, Bool.true_and, g.run _ hn, show d - i = (d - (i + 1)) + 1 by omega, bitsL_succ]
    have e1 : 2 * num % 2 = 0 := by omega
    have e2 : 2 * num / 2 = num := by omega
    rw [e1, e2]
    rfl
  · have := g.min v hv ha
    rw [Nat.pow_succ, ← Nat.div_div_eq_div_mul] at this
    omega
theorem bitsL_app (v a b : Nat) : bitsL v (a + b) = bitsL v a ++ bitsL (v / 2 ^ a) b := by
  refine List.ext_getElem (by simp [bitsL]) fun i p q => ?_
  by_cases hi : i < a
  · rw [List.getElem_append_left (by rw [bitsL_len]; exact hi)]
    simp [bitsL]
  · rw [List.getElem_append_right (by rw [bitsL_len]; omega)]
    simp only [bitsL, List.getElem_map, List.getElem_range, List.length_map, List.length_range]
    rw [Nat.div_div_eq_div_mul, ← Nat.pow_add, show a + (i - a) = i by omega]
theorem Grd.one (k : MOk 1 T acc) {d i num : Nat} {W : List Bool} (g : Grd T acc d (i + 1) num W) (h : ¬ (stepW T (mkL T i) W 0).any id = true) : Grd T acc d i (2 * num + 1) (stepW T (mkL T i) W 1) := by
  have hle := g.le
  have no : ∀ s, s ∈ stL T i → W.getD (nxt T s 0) false = false := fun s hs => by
    cases hb : W.getD (nxt T s 0) false with
    | false => rfl
    | true =>
      have hsT := st_lt k i s hs
      refine absurd (stepW_any.mpr ⟨s, hsT, ?_, hb⟩) h
      rw [List.getD_eq_getElem?_getD, mkL_at hsT]
      exact decide_eq_true hs
  obtain ⟨s1, hs1, hW1⟩ := g.ex
  obtain ⟨s0, hs0, hs01⟩ := List.mem_flatMap.mp hs1
  have hs0T := st_lt k i s0 hs0
  obtain ⟨l, hl, e⟩ := (mem_rowN k hs0T).mp hs01
  have hl1 : l = 1 := by
    have : l ≠ 0 := fun z => by
      rw [z] at e
      have := no s0 hs0
      rw [e, hW1] at this
      cases this
    have : l < 2 := hl
    omega
  subst hl1
  refine ⟨by omega, stepW_len, ?_, ⟨s0, hs0, ?_⟩, fun s hs => ?_, fun v hv ha => ?_⟩
  · have := g.lt
    rw [show d - i = (d - (i + 1)) + 1 by omega, Nat.pow_succ]
    omega
  · rw [stepW_at hs0T, List.getD_eq_getElem?_getD, mkL_at hs0T]
    show (decide (s0 ∈ stL T i) && _) = true
    rw [decide_eq_true hs0, e, hW1]
    rfl
  · have hsT := st_lt k i s hs
    have hn : nxt T s 1 ∈ stL T (i + 1) := List.mem_flatMap.mpr ⟨s, hs, (mem_rowN k hsT).mpr ⟨1, by decide, rfl⟩⟩
    rw [stepW_at hsT, List.getD_eq_getElem?_getD, mkL_at hsT]
    show (decide (s ∈ stL T i) && _) = _
    rw [decide_eq_true hs, Bool.true_and, g.run _ hn, show d - i = (d - (i + 1)) + 1 by omega, bitsL_succ]
    have e1 : (2 * num + 1) % 2 = 1 := by omega
    have e2 : (2 * num + 1) / 2 = num := by omega
    rw [e1, e2]
    rfl
  · have hmin := g.min v hv ha
    rw [Nat.pow_succ, ← Nat.div_div_eq_div_mul] at hmin
    rcases Nat.lt_or_ge (2 * num) (v / 2 ^ i) with z | z
    · exact z
    · have hd : v / 2 ^ i = 2 * num := by omega
      have hsi : runT T 0 (bitsL v i) ∈ stL T i := (mem_stL k i _).mpr ⟨bitsL v i, bitsL_len v i, bitsL_lt1 v i, rfl⟩
      have hsT := st_lt k i _ hsi
      have hn : nxt T (runT T 0 (bitsL v i)) 0 ∈ stL T (i + 1) := List.mem_flatMap.mpr ⟨_, hsi, (mem_rowN k hsT).mpr ⟨0, by decide, rfl⟩⟩
      have h1 := g.run _ hn
      rw [no _ hsi] at h1
      have e3 : bitsL v d = bitsL v i ++ bitsL (v / 2 ^ i) ((d - (i + 1)) + 1) := by
        rw [← bitsL_app, show i + ((d - (i + 1)) + 1) = d by omega]
      rw [e3, hd, bitsL_succ, runT_app] at ha
      have e1 : 2 * num % 2 = 0 := by omega
      have e2 : 2 * num / 2 = num := by omega
      rw [e1, e2] at ha
      have ha : acc.getD (runT T (nxt T (runT T 0 (bitsL v i)) 0) (bitsL num (d - (i + 1)))) false = true := ha
      rw [← h1] at ha
      cases ha
/-- the least number that is taken, if there is one -/
def LeastN (T : List (List Int)) (acc : List Bool) : Option Nat → Prop
  | none => ∀ m, accN T acc m = false
  | some n => accN T acc n = true ∧ ∀ m, m < n → accN T acc m = false
theorem Grd.least (k : MOk 1 T acc) {d num : Nat} {W : List Bool} (g : Grd T acc d 0 num W) : LeastN T acc (some num) := by
  have hlt := g.lt
  rw [Nat.sub_zero] at hlt
  obtain ⟨s, hs, hW⟩ := g.ex
  have h0 : s = 0 := List.mem_singleton.mp hs
  subst h0
  have hr := g.run 0 hs
  rw [Nat.sub_zero, hW] at hr
  refine ⟨by rw [← accN_pad k hlt, ← hr], fun m hm => ?_⟩
  cases hb : accN T acc m with
  | false => rfl
  | true =>
    have hmd : m < 2 ^ d := Nat.lt_trans hm hlt
    rw [← accN_pad k hmd] at hb
    have := g.min m hmd hb
    rw [Nat.pow_zero, Nat.div_one] at this
    omega
theorem least_none (k : MOk 1 T acc) (h : ∀ d, d < T.length → accE T acc d = false) : LeastN T acc none := fun m => none_acc k h _ _ rfl (bitsL_lt1 m _)
theorem LeastN.uniq {a b : Option Nat} (ha : LeastN T acc a) (hb : LeastN T acc b) : a = b := by
  match a, b, ha, hb with
  | none, none, _, _ => rfl
  | none, some n, ha, hb => have := ha n; rw [hb.1] at this; cases this
  | some n, none, ha, hb => have := hb n; rw [ha.1] at this; cases this
  | some n, some m, ha, hb =>
    rcases Nat.lt_trichotomy n m with h | h | h
    · have := hb.2 n h; rw [ha.1] at this; cases this
    · rw [h]
    · have := ha.2 m h; rw [hb.1] at this; cases this
end
theorem piRev {X : Cx} (K : PySem.W.Frag) {tg : Expr} {e : Expr} {ta : TA} {p pos : Pos} (hg : Gl X "reversed") (hm : X.mg "reversed" = none) (ha : PA X [e] ta) (hs : starEach [e] X.env = [(false, eval e X.env)] := by rfl) (h : X.K = K := by rfl) : PI X tg (.Call (.Name "reversed" p) [e] [] pos) (iRev K ta) := h ▸ pi_reversed hg hm ha hs
theorem cutV_drop1 (xs : List V) (v : V) : cutV (xs ++ [v]) none (some (-1)) = xs := by
  unfold cutV HT.sIx
  simp
  rw [show (-1 + ((xs.length : Int) + 1)).toNat = xs.length by omega, List.take_append_of_le_length (Nat.le_refl _), List.take_length]
theorem accE_some {T : List (List Int)} {acc : List Bool} (k : MOk 1 T acc) {d : Nat} (h : accE T acc d = true) : ∃ v, v < 2 ^ d ∧ accN T acc v = true := by
  obtain ⟨s, hs, ha⟩ := List.any_eq_true.mp h
  obtain ⟨ls, h1, h2, h3⟩ := (mem_stL k d s).mp hs
  have hb : Bits ls := h2
  have hv := lo_lt hb
  rw [h1] at hv
  have e := bitsL_lo hb
  rw [h1] at e
  exact ⟨lo ls, hv, by rw [← accN_pad k hv, e, h3]; exact ha⟩
end Dw

namespace Dw
open PySem PySem.Spec PyProof.Rows L2 SX
/-! values that may be no formulas -/
inductive NoTup (H : Hp) : V → Prop
  | non : NoTup H .non
  | int (i : Int) : NoTup H (.int i)
  | bl (b : Bool) : NoTup H (.bl b)
  | str (z : Str) : NoTup H (.str z)
  | lst {a : Addr} {xs : List V} (h : H a = some (.lst xs)) : NoTup H (.ref a)
theorem NoTup.same {H H' : Hp} {x : V} (s : Same H H') : NoTup H x → NoTup H' x
  | .non => .non
  | .int i => .int i
  | .bl b => .bl b
  | .str z => .str z
  | .lst h => .lst (s _ _ h)
theorem NoTup.isi {K : PySem.W.Frag} {H : Hp} {x : V} {Q : VK} (h : NoTup H x) (q : Q (.bl false) H) : rIsi K [x, .ty "tuple"] H Q := by
  cases h with
  | non => exact isi_of (b := false) (.base .non) (kit_ty (by decide +kernel)) q
  | int i => exact isi_of (b := false) (.base (.int _)) (kit_ty (by decide +kernel)) q
  | bl b => exact isi_of (b := false) (.base (.bl _)) (kit_ty (by decide +kernel)) q
  | str z => exact isi_of (b := false) (.base (.str _)) (kit_ty (by decide +kernel)) q
  | lst h => exact isi_of (b := false) (.base (.lst h)) (kit_ty (by decide +kernel)) q
theorem NoStr.same {H H' : Hp} {x : V} (s : Same H H') (h : NoStr H x) : NoStr H' x := by
  cases h with
  | non => exact .non
  | int i => exact .int i
  | bl b => exact .bl b
  | tup h => exact .tup (s _ _ h)
theorem NoStr.isi {K : PySem.W.Frag} {H : Hp} {x : V} {Q : VK} (h : NoStr H x) (q : Q (.bl false) H) : rIsi K [x, .ty "str"] H Q := by
  cases h with
  | non => exact isi_of (b := false) (.base .non) (kit_ty (by decide +kernel)) q
  | int i => exact isi_of (b := false) (.base (.int _)) (kit_ty (by decide +kernel)) q
  | bl b => exact isi_of (b := false) (.base (.bl _)) (kit_ty (by decide +kernel)) q
  | tup h => exact isi_of (b := false) (.base (.tup h)) (kit_ty (by decide +kernel)) q
/-- a value that is no name: told by a test of signs -/
def nameB (l : List Nat) : Bool := run LOW l && !decide (l ∈ RES)
inductive BadName (H : Hp) : V → Prop
  | str {l : List Nat} (h : l.length ≤ 1000) (b : nameB l = false) : BadName H (.str (S l))
  | no {x : V} (h : NoStr H x) : BadName H x
theorem BadName.same {H H' : Hp} {x : V} (s : Same H H') : BadName H x → BadName H' x
  | .str h b => .str h b
  | .no h => .no (h.same s)
inductive BadWord (H : Hp) : V → Prop
  | str {l : List Nat} (h : l.length ≤ 1000) (b : run UPP l = false) : BadWord H (.str (S l))
  | no {x : V} (h : NoStr H x) : BadWord H x
theorem BadWord.same {H H' : Hp} {x : V} (s : Same H H') : BadWord H x → BadWord H' x
  | .str h b => .str h b
  | .no h => .no (h.same s)
theorem gword_run {l : List Nat} (h : GWord l) : run UPP l = true := by
  unfold run
  obtain ⟨⟨c, r, rfl, hc⟩, h2, h3⟩ := h
  simp only [Bool.and_eq_true, decide_eq_true_eq, List.all_eq_true]
  exact ⟨⟨⟨by simp, h3⟩, decide_eq_true hc⟩, h2⟩
/-- a pair of a term, or none -/
inductive PairAt (H : Hp) : V → Bool → Prop
  | good {a : Addr} {l : List Nat} {i : Int} (h : H a = some (.tup [.str (S l), .int i])) (g : GName l) (o : okC i = true) (z : i ≠ 0) : PairAt H (.ref a) true
  | no {x : V} (h : NoTup H x) : PairAt H x false
  | len {a : Addr} {xs : List V} (h : H a = some (.tup xs)) (l : xs.length ≠ 2) : PairAt H (.ref a) false
  | name {a : Addr} {x y : V} (h : H a = some (.tup [x, y])) (b : BadName H x) : PairAt H (.ref a) false
  | coef {a : Addr} {l : List Nat} {i : Int} (h : H a = some (.tup [.str (S l), .int i])) (g : GName l) (o : okC i = false ∨ i = 0) : PairAt H (.ref a) false
  | flag {a : Addr} {l : List Nat} {b : Bool} (h : H a = some (.tup [.str (S l), .bl b])) (g : GName l) : PairAt H (.ref a) false
theorem PairAt.same {H H' : Hp} {x : V} {b : Bool} (s : Same H H') (h : PairAt H x b) : PairAt H' x b := by
  cases h with
  | good h g o z => exact .good (s _ _ h) g o z
  | no h => exact .no (h.same s)
  | len h l => exact .len (s _ _ h) l
  | name h b => exact .name (s _ _ h) (b.same s)
  | coef h g o => exact .coef (s _ _ h) g o
  | flag h g => exact .flag (s _ _ h) g
def PairsAt (H : Hp) : List V → List Bool → Prop
  | [], [] => True
  | x :: xs, b :: bs => PairAt H x b ∧ PairsAt H xs bs
  | _, _ => False
theorem PairsAt.same {H H' : Hp} (s : Same H H') : ∀ {xs : List V} {bs : List Bool}, PairsAt H xs bs → PairsAt H' xs bs
  | [], [], _ => trivial
  | _ :: _, _ :: _, ⟨h1, h2⟩ => ⟨h1.same s, PairsAt.same s h2⟩
  | [], _ :: _, h => h.elim
  | _ :: _, [], h => h.elim
theorem PairsAt.len {H : Hp} : ∀ {xs : List V} {bs : List Bool}, PairsAt H xs bs → xs.length = bs.length
  | [], [], _ => rfl
  | _ :: xs, _ :: bs, ⟨_, h2⟩ => congrArg (· + 1) (PairsAt.len (xs := xs) (bs := bs) h2)
  | [], _ :: _, h => h.elim
  | _ :: _, [], h => h.elim
theorem PairsAt.at_ {H : Hp} : ∀ {xs : List V} {bs : List Bool} {i : Nat} {x : V}, PairsAt H xs bs → xs[i]? = some x → ∃ b, bs[i]? = some b ∧ PairAt H x b
  | x :: xs, b :: bs, 0, _, ⟨h1, _⟩, e => by cases e; exact ⟨b, rfl, h1⟩
  | x :: xs, b :: bs, i + 1, _, ⟨_, h2⟩, e => PairsAt.at_ (xs := xs) (bs := bs) (i := i) h2 e
  | [], [], _, _, _, e => by cases e
  | [], _ :: _, _, _, h, _ => h.elim
  | _ :: _, [], _, _, h, _ => h.elim
/-- a term that has a bad pair -/
def BadTerm (H : Hp) (u : Addr) : Prop := ∃ q c pa bs, H u = some (.tup [.ref q, c]) ∧ H q = some (.tup pa) ∧ PairsAt H pa bs ∧ pa.length ≤ 40 ∧ false ∈ bs
theorem BadTerm.same {H H' : Hp} {u : Addr} (s : Same H H') (h : BadTerm H u) : BadTerm H' u := by
  obtain ⟨q, c, pa, bs, h1, h2, h3, h4⟩ := h
  exact ⟨q, c, pa, bs, s _ _ h1, s _ _ h2, h3.same s, h4⟩
/-- names that are none: no tuple, an empty one, or one with a bad name -/
inductive NameAt (H : Hp) : V → Bool → Prop
  | good {l : List Nat} (g : GName l) : NameAt H (.str (S l)) true
  | bad {x : V} (b : BadName H x) : NameAt H x false
theorem NameAt.same {H H' : Hp} {x : V} {b : Bool} (s : Same H H') : NameAt H x b → NameAt H' x b
  | .good g => .good g
  | .bad b => .bad (b.same s)
def NamesAt (H : Hp) : List V → List Bool → Prop
  | [], [] => True
  | x :: xs, b :: bs => NameAt H x b ∧ NamesAt H xs bs
  | _, _ => False
theorem NamesAt.same {H H' : Hp} (s : Same H H') : ∀ {xs : List V} {bs : List Bool}, NamesAt H xs bs → NamesAt H' xs bs
  | [], [], _ => trivial
  | _ :: _, _ :: _, ⟨h1, h2⟩ => ⟨h1.same s, NamesAt.same s h2⟩
  | [], _ :: _, h => h.elim
  | _ :: _, [], h => h.elim
theorem NamesAt.at_ {H : Hp} : ∀ {xs : List V} {bs : List Bool} {i : Nat} {x : V}, NamesAt H xs bs → xs[i]? = some x → ∃ b, bs[i]? = some b ∧ NameAt H x b
  | x :: xs, b :: bs, 0, _, ⟨h1, _⟩, e => by cases e; exact ⟨b, rfl, h1⟩
  | x :: xs, b :: bs, i + 1, _, ⟨_, h2⟩, e => NamesAt.at_ (xs := xs) (bs := bs) (i := i) h2 e
  | [], [], _, _, _, e => by cases e
  | [], _ :: _, _, _, h, _ => h.elim
  | _ :: _, [], _, _, h, _ => h.elim
theorem NamesAt.len {H : Hp} : ∀ {xs : List V} {bs : List Bool}, NamesAt H xs bs → xs.length = bs.length
  | [], [], _ => rfl
  | _ :: xs, _ :: bs, ⟨_, h2⟩ => congrArg (· + 1) (NamesAt.len (xs := xs) (bs := bs) h2)
  | [], _ :: _, h => h.elim
  | _ :: _, [], h => h.elim
theorem names_good {H : Hp} : ∀ zs : List (List Nat), (∀ z ∈ zs, GName z) → NamesAt H (zs.map vS) (zs.map fun _ => true)
  | [], _ => trivial
  | z :: zs, h => ⟨.good (h z List.mem_cons_self), names_good zs fun y hy => h y (List.mem_cons_of_mem _ hy)⟩
inductive NmsAt (H : Hp) : V → Bool → Prop
  | no {x : V} (h : NoTup H x) : NmsAt H x false
  | tup {a : Addr} {xs : List V} {bs : List Bool} (h : H a = some (.tup xs)) (n : NamesAt H xs bs) (l : xs.length ≤ 40) : NmsAt H (.ref a) (!xs.isEmpty && bs.all id)
theorem NmsAt.same {H H' : Hp} {x : V} {b : Bool} (s : Same H H') : NmsAt H x b → NmsAt H' x b
  | .no h => .no (h.same s)
  | .tup h n l => .tup (s _ _ h) (n.same s) l
/-- how many parts a node of a kind has -/
def lenK (l : List Nat) : Option Nat :=
  if l ∈ [cs "eq", cs "le", cs "pow", cs "not"] then some 2 else if l = cs "word" then some 4 else if l ∈ [cs "and", cs "or", cs "imp", cs "iff", cs "some", cs "all", cs "call"] then some 3 else none
/-- what is no node -/
inductive BadNode (H : Hp) : V → Prop
  | no {x : V} (h : NoTup H x) : BadNode H x
  | nil {a : Addr} (h : H a = some (.tup [])) : BadNode H (.ref a)
  | head {a : Addr} {x : V} {xs : List V} (h : H a = some (.tup (x :: xs))) (n : NoStr H x) : BadNode H (.ref a)
  | kind {a : Addr} {l : List Nat} {xs : List V} (h : H a = some (.tup (.str (S l) :: xs))) (n : lenK l = none) : BadNode H (.ref a)
  | len {a : Addr} {l : List Nat} {xs : List V} {n : Nat} (h : H a = some (.tup (.str (S l) :: xs))) (k : lenK l = some n) (ne : xs.length + 1 ≠ n) : BadNode H (.ref a)
  | cmp {a u : Addr} (k : Bool) (h : H a = some (.tup [.str (S (kCmp k)), .ref u])) (b : BadTerm H u) : BadNode H (.ref a)
  | pow {a : Addr} {x : V} (h : H a = some (.tup [.str (S (cs "pow")), x])) (b : BadName H x) : BadNode H (.ref a)
  | qf {a : Addr} {x y : V} (k : Bool) (h : H a = some (.tup [.str (S (kQf k)), x, y])) (b : BadName H x) : BadNode H (.ref a)
  | word {a : Addr} {x y z : V} (h : H a = some (.tup [.str (S (cs "word")), x, y, z])) (b : BadWord H x) : BadNode H (.ref a)
  | call {a : Addr} {f : List Nat} {x : V} (h : H a = some (.tup [.str (S (cs "call")), .str (S f), x])) (g : GName f) (b : NmsAt H x false) : BadNode H (.ref a)
theorem BadNode.same {H H' : Hp} {x : V} (s : Same H H') (h : BadNode H x) : BadNode H' x := by
  cases h with
  | no h => exact .no (h.same s)
  | nil h => exact .nil (s _ _ h)
  | head h n => exact .head (s _ _ h) (n.same s)
  | kind h n => exact .kind (s _ _ h) n
  | len h k n => exact .len (s _ _ h) k n
  | cmp k h b => exact .cmp k (s _ _ h) (b.same s)
  | pow h b => exact .pow (s _ _ h) (b.same s)
  | qf k h b => exact .qf k (s _ _ h) (b.same s)
  | word h b => exact .word (s _ _ h) (b.same s)
  | call h g b => exact .call (s _ _ h) g (b.same s)
def leafF : Fm → Prop
  | .not _ => False
  | .bin _ _ _ => False
  | .qf _ _ _ => False
  | _ => True
/-- a node, good or not -/
inductive NodeAt (H : Hp) : V → Bool → Prop
  | leaf {t : Addr} {f : Fm} (h : FmAt H t f) (g : f.Good) (s : leafF f) : NodeAt H (.ref t) true
  | not {t : Addr} {x : V} (h : H t = some (.tup [.str (S (cs "not")), x])) : NodeAt H (.ref t) true
  | bin {t : Addr} {x y : V} (k : Fin 4) (h : H t = some (.tup [.str (S (kBin k)), x, y])) : NodeAt H (.ref t) true
  | qf {t : Addr} {x : V} {z : List Nat} (k : Bool) (h : H t = some (.tup [.str (S (kQf k)), .str (S z), x])) (g : GName z) : NodeAt H (.ref t) true
  | bad {x : V} (b : BadNode H x) : NodeAt H x false
/-- a tree of nodes, good or not -/
inductive Tr
  | mk (good : Bool) (ps : List Tr)
inductive FxAt (H : Hp) : V → Tr → Prop
  | leaf {t : Addr} {f : Fm} (h : FmAt H t f) (g : f.Good) (s : leafF f) : FxAt H (.ref t) (.mk true [])
  | bad {x : V} (b : BadNode H x) : FxAt H x (.mk false [])
  | not {t : Addr} {x : V} {a : Tr} (h : H t = some (.tup [.str (S (cs "not")), x])) (p : FxAt H x a) : FxAt H (.ref t) (.mk true [a])
  | bin {t : Addr} {x y : V} {a b : Tr} (k : Fin 4) (h : H t = some (.tup [.str (S (kBin k)), x, y])) (p : FxAt H x a) (q : FxAt H y b) : FxAt H (.ref t) (.mk true [a, b])
  | qf {t : Addr} {x : V} {z : List Nat} {a : Tr} (k : Bool) (h : H t = some (.tup [.str (S (kQf k)), .str (S z), x])) (g : GName z) (p : FxAt H x a) : FxAt H (.ref t) (.mk true [a])
theorem FxAt.same {H H' : Hp} {x : V} {t : Tr} (s : Same H H') (h : FxAt H x t) : FxAt H' x t := by
  induction h with
  | leaf h g s' => exact .leaf (h.tups (Tups.same s)) g s'
  | bad b => exact .bad (b.same s)
  | not h p ih => exact .not (s _ _ h) ih
  | bin k h p q i1 i2 => exact .bin k (s _ _ h) i1 i2
  | qf k h g p ih => exact .qf k (s _ _ h) g ih
def trF : Fm → Tr
  | .not a => .mk true [trF a]
  | .bin _ a b => .mk true [trF a, trF b]
  | .qf _ _ a => .mk true [trF a]
  | _ => .mk true []
theorem fx_of {H : Hp} : ∀ {f : Fm} {t : Addr}, FmAt H t f → f.Good → FxAt H (.ref t) (trF f)
  | .pow _, _, h, g => .leaf h g trivial
  | .word _ _ _, _, h, g => .leaf h g trivial
  | .cmp _ _ _, _, h, g => .leaf h g trivial
  | .call _ _, _, h, g => .leaf h g trivial
  | .not a, _, ⟨_, h1, h2⟩, g => .not h1 (fx_of (f := a) h2 g)
  | .bin k a b, _, ⟨_, _, h1, h2, h3⟩, g => .bin k h1 (fx_of (f := a) h2 g.1) (fx_of (f := b) h3 g.2)
  | .qf k z a, _, ⟨_, h1, h2⟩, g => .qf k h1 g.1 (fx_of (f := a) h2 g.2)
mutual
def szT : Tr → Nat
  | .mk _ ps => szL ps + 1
def szL : List Tr → Nat
  | [] => 0
  | t :: ts => szT t + szL ts
end
mutual
def okT : Tr → Int → Bool
  | .mk g ps, l => g && decide (l ≤ 30) && okL ps (l + 1)
def okL : List Tr → Int → Bool
  | [], _ => true
  | t :: ts, l => okT t l && okL ts l
end
def FxsAt (H : Hp) : List V → List Tr → Prop
  | [], [] => True
  | x :: xs, t :: ts => FxAt H x t ∧ FxsAt H xs ts
  | _, _ => False
theorem FxsAt.same {H H' : Hp} (s : Same H H') : ∀ {xs : List V} {ts : List Tr}, FxsAt H xs ts → FxsAt H' xs ts
  | [], [], _ => trivial
  | _ :: _, _ :: _, ⟨h1, h2⟩ => ⟨h1.same s, FxsAt.same s h2⟩
  | [], _ :: _, h => h.elim
  | _ :: _, [], h => h.elim
theorem FxsAt.len {H : Hp} : ∀ {xs : List V} {ts : List Tr}, FxsAt H xs ts → xs.length = ts.length
  | [], [], _ => rfl
  | _ :: xs, _ :: ts, ⟨_, h2⟩ => congrArg (· + 1) (FxsAt.len (xs := xs) (ts := ts) h2)
  | [], _ :: _, h => h.elim
  | _ :: _, [], h => h.elim
theorem FxsAt.at_ {H : Hp} : ∀ {xs : List V} {ts : List Tr} {i : Nat} {x : V}, FxsAt H xs ts → xs[i]? = some x → ∃ t, ts[i]? = some t ∧ FxAt H x t
  | x :: xs, t :: ts, 0, _, ⟨h1, _⟩, e => by cases e; exact ⟨t, rfl, h1⟩
  | x :: xs, t :: ts, i + 1, _, ⟨_, h2⟩, e => FxsAt.at_ (xs := xs) (ts := ts) (i := i) h2 e
  | [], [], _, _, _, e => by cases e
  | [], _ :: _, _, _, h, _ => h.elim
  | _ :: _, [], _, _, h, _ => h.elim
theorem FxAt.node {H : Hp} {x : V} {g : Bool} {ps : List Tr} (h : FxAt H x (.mk g ps)) : NodeAt H x g := by
  cases h with
  | leaf h g s => exact .leaf h g s
  | bad b => exact .bad b
  | not h p => exact .not h
  | bin k h p q => exact .bin k h
  | qf k h g p => exact .qf k h g
theorem FxAt.few {H : Hp} {x : V} {g : Bool} {ps : List Tr} (h : FxAt H x (.mk g ps)) : ps.length ≤ 2 := by
  cases h <;> simp
theorem tups_lst {H : Hp} {q : Addr} {xs : List V} {o : HO} (h : H q = some (.lst xs)) : Tups H (upd H q o) := fun a ys e => by
  rw [upd_ne (ne_of e h (fun z => nomatch z))]
  exact e
/-! a stack of values with levels -/
def szS (xs : List (Tr × Int)) : Nat := (xs.map fun x => szT x.1).sum
def okS (xs : List (Tr × Int)) : Bool := xs.all fun x => okT x.1 x.2
theorem szT_pos : ∀ t : Tr, 0 < szT t
  | .mk _ _ => Nat.succ_pos _
theorem szL_sum : ∀ (ps : List Tr) (l : Int), szS (ps.map fun t => (t, l)) = szL ps
  | [], _ => rfl
  | t :: ts, l => by
    have := szL_sum ts l
    unfold szS at this ⊢
    simp only [List.map_cons, List.sum_cons, szL]
    rw [this]
theorem okL_all : ∀ (ps : List Tr) (l : Int), okS (ps.map fun t => (t, l)) = okL ps l
  | [], _ => rfl
  | t :: ts, l => by
    have := okL_all ts l
    unfold okS at this ⊢
    simp only [List.map_cons, List.all_cons, okL]
    rw [this]
theorem szS_app (a b : List (Tr × Int)) : szS (a ++ b) = szS a + szS b := by unfold szS; rw [List.map_append, List.sum_append]
theorem okS_app (a b : List (Tr × Int)) : okS (a ++ b) = (okS a && okS b) := by unfold okS; rw [List.all_append]
theorem szS_len (a : List (Tr × Int)) : a.length ≤ szS a := by
  induction a with
  | nil => exact Nat.le_refl _
  | cons x a ih =>
    have := szT_pos x.1
    unfold szS at ih ⊢
    rw [List.map_cons, List.sum_cons, List.length_cons]
    omega
/-- the stack as it stands; the values stand in H -/
def StAt (H H2 : Hp) : List Addr → List (Tr × Int) → Prop
  | [], [] => True
  | e :: es, x :: xs => (∃ v, H2 e = some (.tup [v, .int x.2]) ∧ FxAt H v x.1) ∧ StAt H H2 es xs
  | _, _ => False
theorem StAt.tups {H H2 H3 : Hp} (t : Tups H2 H3) : ∀ {es : List Addr} {xs : List (Tr × Int)}, StAt H H2 es xs → StAt H H3 es xs
  | [], [], _ => trivial
  | _ :: es, _ :: xs, ⟨⟨v, h1, h2⟩, h3⟩ => ⟨⟨v, t _ _ h1, h2⟩, StAt.tups t (es := es) (xs := xs) h3⟩
  | [], _ :: _, h => h.elim
  | _ :: _, [], h => h.elim
theorem StAt.len {H H2 : Hp} : ∀ {es : List Addr} {xs : List (Tr × Int)}, StAt H H2 es xs → es.length = xs.length
  | [], [], _ => rfl
  | _ :: es, _ :: xs, ⟨_, h2⟩ => congrArg (· + 1) (StAt.len (es := es) (xs := xs) h2)
  | [], _ :: _, h => h.elim
  | _ :: _, [], h => h.elim
theorem StAt.append {H H2 : Hp} : ∀ {as bs : List Addr} {xs ys : List (Tr × Int)}, StAt H H2 as xs → StAt H H2 bs ys → StAt H H2 (as ++ bs) (xs ++ ys)
  | [], _, [], _, _, h => h
  | _ :: _, _, _ :: _, _, ⟨h1, h2⟩, h => ⟨h1, StAt.append h2 h⟩
  | [], _, _ :: _, _, h, _ => h.elim
  | _ :: _, _, [], _, h, _ => h.elim
theorem StAt.split {H H2 : Hp} : ∀ {as : List Addr} {a : Addr} {xs : List (Tr × Int)}, StAt H H2 (as ++ [a]) xs → ∃ ys x, xs = ys ++ [x] ∧ StAt H H2 as ys ∧ ∃ v, H2 a = some (.tup [v, .int x.2]) ∧ FxAt H v x.1
  | [], a, [x], h => ⟨[], x, rfl, trivial, h.1⟩
  | [], a, x :: y :: r, h => h.2.elim
  | [], a, [], h => h.elim
  | b :: as, a, [], h => h.elim
  | b :: as, a, x :: xs, ⟨h1, h2⟩ => by
    obtain ⟨ys, y, e, h3, h4⟩ := StAt.split (as := as) (a := a) (xs := xs) h2
    exact ⟨x :: ys, y, by rw [e]; rfl, ⟨h1, h3⟩, h4⟩
/-- what a test of the whole tree says -/
def isFT (t : Tr) : Bool := okT t 1 && decide (szT t ≤ 200)
end Dw

namespace Dw
open PySem PySem.Spec PyProof.Rows L2 SX
mutual
def dpT : Tr → Nat
  | .mk _ ps => dpL ps + 1
def dpL : List Tr → Nat
  | [] => 0
  | t :: ts => max (dpT t) (dpL ts)
end
theorem dpL_le : ∀ {ps : List Tr} {t : Tr}, t ∈ ps → dpT t ≤ dpL ps
  | p :: ps, t, h => by
    rcases List.mem_cons.mp h with rfl | h
    · exact Nat.le_max_left _ _
    · exact Nat.le_trans (dpL_le h) (Nat.le_max_right _ _)
theorem dpL_at : ∀ {ps : List Tr}, ps ≠ [] → ∃ t ∈ ps, dpT t = dpL ps
  | [t], _ => ⟨t, List.mem_cons_self, by simp [dpL]⟩
  | t :: u :: ps, _ => by
    obtain ⟨v, h1, h2⟩ := dpL_at (ps := u :: ps) (by simp)
    by_cases h : dpT t ≤ dpL (u :: ps)
    · exact ⟨v, List.mem_cons_of_mem _ h1, by rw [h2]; show _ = max _ _; omega⟩
    · exact ⟨t, List.mem_cons_self, by show _ = max _ _; omega⟩
mutual
def gdT : Tr → Bool
  | .mk g ps => g && gdL ps
def gdL : List Tr → Bool
  | [] => true
  | t :: ts => gdT t && gdL ts
end
theorem gdL_at : ∀ {ps : List Tr} {t : Tr}, gdL ps = true → t ∈ ps → gdT t = true
  | p :: ps, t, h, hm => by
    have h2 : gdT p = true ∧ gdL ps = true := by simpa [gdL] using h
    rcases List.mem_cons.mp hm with rfl | hm
    · exact h2.1
    · exact gdL_at h2.2 hm
/-- pairs whose second is a level -/
def LvsAt (H2 : Hp) : List Addr → List Int → Prop
  | [], [] => True
  | e :: es, l :: ls => (∃ v, H2 e = some (.tup [v, .int l])) ∧ LvsAt H2 es ls
  | _, _ => False
theorem LvsAt.tups {H2 H3 : Hp} (t : Tups H2 H3) : ∀ {es : List Addr} {xs : List Int}, LvsAt H2 es xs → LvsAt H3 es xs
  | [], [], _ => trivial
  | _ :: es, _ :: xs, ⟨⟨v, h1⟩, h3⟩ => ⟨⟨v, t _ _ h1⟩, LvsAt.tups t (es := es) (xs := xs) h3⟩
  | [], _ :: _, h => h.elim
  | _ :: _, [], h => h.elim
theorem LvsAt.len {H2 : Hp} : ∀ {es : List Addr} {xs : List Int}, LvsAt H2 es xs → es.length = xs.length
  | [], [], _ => rfl
  | _ :: es, _ :: xs, ⟨_, h2⟩ => congrArg (· + 1) (LvsAt.len (es := es) (xs := xs) h2)
  | [], _ :: _, h => h.elim
  | _ :: _, [], h => h.elim
theorem LvsAt.snoc {H2 : Hp} {a : Addr} {l : Int} : ∀ {es : List Addr} {xs : List Int}, LvsAt H2 es xs → (∃ v, H2 a = some (.tup [v, .int l])) → LvsAt H2 (es ++ [a]) (xs ++ [l])
  | [], [], _, h => ⟨h, trivial⟩
  | _ :: es, _ :: xs, ⟨h1, h2⟩, h => ⟨h1, LvsAt.snoc (es := es) (xs := xs) h2 h⟩
  | [], _ :: _, h, _ => h.elim
  | _ :: _, [], h, _ => h.elim
theorem LvsAt.at_ {H2 : Hp} : ∀ {es : List Addr} {xs : List Int} {i : Nat} {e : Addr}, LvsAt H2 es xs → es[i]? = some e → ∃ l v, xs[i]? = some l ∧ H2 e = some (.tup [v, .int l])
  | e :: es, l :: xs, 0, _, ⟨⟨v, h1⟩, _⟩, h => by cases h; exact ⟨l, v, rfl, h1⟩
  | e :: es, l :: xs, i + 1, _, ⟨_, h2⟩, h => LvsAt.at_ (es := es) (xs := xs) (i := i) h2 h
  | [], [], _, _, _, h => by cases h
  | [], _ :: _, _, _, h, _ => h.elim
  | _ :: _, [], _, _, h, _ => h.elim
theorem lc_itN {J : It} {n : Nat} {G : Hp → Prop} {Y : Nat → Hp → V → Hp → Prop} (w : Walk J n G Y) {g : TG} {tt : TT} {te : TE} {vs : List Nat} {σ : L2.St} {H1 : Hp} {D : Addr} {Qd : Hp → Prop} (Pv : Nat → Hp → Prop) (h0 : Pv 0 (upd H1 D (.lst []))) (hG : ∀ i H, i ≤ n → Pv i H → G H)
    (hs : ∀ i x H H' (N : Hp → Prop), i < n → Pv i H → Y i H x H' → (∀ H', Pv (i + 1) H' → N H') → g x (wipe σ vs) H' fun σ2 H2 => wipe σ2 vs = wipe σ vs ∧ tt σ2 H2 fun b H3 =>
      if b = true then te σ2 H3 fun y H4 => ∃ acc, H4 D = some (.lst acc) ∧ acc.length < sizeLine ∧ N (upd H4 D (.lst (acc ++ [y]))) else N H3) (hd : ∀ H, Pv n H → Qd H) : LcJ J g tt te vs D σ H1 Qd :=
  lc_it w Pv h0 hG (fun i x H H' hi hp y => hs i x H H' (Pv (i + 1)) hi hp y (fun _ h => h)) hd
theorem szS_rev (ps : List Tr) (l : Int) : szS (ps.reverse.map fun t => (t, l)) = szL ps := by
  rw [← szL_sum ps l]
  unfold szS
  rw [List.map_map, List.map_map, List.map_reverse, List.sum_reverse]
theorem cutV_in {xs : List V} {a b : Nat} (h1 : a ≤ b) (h2 : b ≤ xs.length) : cutV xs (some (a : Int)) (some (b : Int)) = (xs.drop a).take (b - a) := by
  unfold cutV
  rw [HT.sIx_nat, HT.sIx_nat, Nat.min_eq_left h2, Nat.min_eq_left (Nat.le_trans h1 h2)]
theorem FxAt.tupsG {H H' : Hp} {x : V} {t : Tr} (e : Tups H H') (h : FxAt H x t) (g : gdT t = true) : FxAt H' x t := by
  induction h with
  | leaf h g' s' => exact .leaf (h.tups e) g' s'
  | bad b => cases g
  | not h p ih => exact .not (e _ _ h) (ih (by simpa [gdT, gdL] using g))
  | @bin t0 x1 y1 a c k h p q i1 i2 =>
    have g2 : gdT a = true ∧ gdT c = true := by simpa [gdT, gdL] using g
    exact .bin k (e _ _ h) (i1 g2.1) (i2 g2.2)
  | qf k h g' p ih => exact .qf k (e _ _ h) g' (ih (by simpa [gdT, gdL] using g))
theorem FxsAt.tupsG {H H' : Hp} (e : Tups H H') : ∀ {as : List V} {xs : List Tr}, FxsAt H as xs → (∀ t ∈ xs, gdT t = true) → FxsAt H' as xs
  | [], [], _, _ => trivial
  | _ :: _, _ :: _, ⟨h1, h2⟩, g => ⟨h1.tupsG e (g _ List.mem_cons_self), FxsAt.tupsG e h2 fun t h => g t (List.mem_cons_of_mem _ h)⟩
  | [], _ :: _, h, _ => h.elim
  | _ :: _, [], h, _ => h.elim
theorem FxsAt.two {H : Hp} : ∀ (n : Nat) {as : List V} {xs : List Tr}, FxsAt H as xs → n + 2 ≤ xs.length →
    ∃ x y t u, (as.drop n).take 2 = [x, y] ∧ FxAt H x t ∧ FxAt H y u ∧ xs.take (n + 2) = xs.take n ++ [t, u] ∧ t ∈ xs ∧ u ∈ xs
  | 0, x :: y :: as, t :: u :: xs, ⟨h1, h2, _⟩, _ => ⟨x, y, t, u, rfl, h1, h2, rfl, by simp, by simp⟩
  | n + 1, x :: as, t :: xs, ⟨h1, h2⟩, l => by
    obtain ⟨a, b, c, d, e1, e2, e3, e4, e5, e6⟩ := FxsAt.two n h2 (by simp only [List.length_cons] at l; omega)
    refine ⟨a, b, c, d, e1, e2, e3, ?_, List.mem_cons_of_mem _ e5, List.mem_cons_of_mem _ e6⟩
    show t :: xs.take (n + 2) = t :: (xs.take n ++ [c, d])
    rw [e4]
  | _, [], [], _, l => by simp at l
  | 0, [_], [_], _, l => by simp at l
  | _, [], _ :: _, h, _ => h.elim
  | _, _ :: _, [], h, _ => h.elim
  | 0, [_], _ :: _ :: _, h, _ => h.2.elim
  | 0, _ :: _ :: _, [_], h, _ => h.2.elim
/-- what the whole test says: by the deepest level -/
theorem okT_dp : ∀ (t : Tr) (l : Int), okT t l = (gdT t && decide (l + (dpT t : Int) - 1 ≤ 30))
  | .mk g ps, l => by
    have := okL_dp ps (l + 1)
    have h0 : ∀ n : Nat, (l + ((n + 1 : Nat) : Int) - 1 ≤ 30) = (l + n ≤ 30) := fun n => by
      rw [eq_iff_iff]; omega
    simp only [okT, gdT, dpT, h0]
    rw [this]
    cases g with
    | false => rfl
    | true =>
      cases gdL ps with
      | false => simp
      | true =>
        simp only [Bool.true_and]
        cases ps with
        | nil => simp [dpL]
        | cons t ts =>
          have h1 : 1 ≤ dpL (t :: ts) := by
            have : 1 ≤ dpT t := by cases t with | mk g ps => exact Nat.succ_pos _
            exact Nat.le_trans this (Nat.le_max_left _ _)
          rw [Bool.eq_iff_iff]
          simp only [Bool.and_eq_true, Bool.or_eq_true, decide_eq_true_eq, List.isEmpty_cons, Bool.false_eq_true, false_or]
          omega
where okL_dp : ∀ (ps : List Tr) (l : Int), okL ps l = (gdL ps && (ps.isEmpty || decide (l + (dpL ps : Int) - 1 ≤ 30)))
  | [], l => rfl
  | t :: ts, l => by
    simp only [okL, gdL]
    rw [okT_dp t l, okL_dp ts l]
    cases gdT t with
    | false => rfl
    | true =>
      cases gdL ts with
      | false => simp
      | true =>
        simp only [Bool.true_and, List.isEmpty_cons, Bool.false_or]
        cases ts with
        | nil => simp [dpL]
        | cons u us =>
          have e : dpL (t :: u :: us) = max (dpT t) (dpL (u :: us)) := rfl
          rw [e, Bool.eq_iff_iff]
          simp only [Bool.and_eq_true, Bool.or_eq_true, decide_eq_true_eq, List.isEmpty_cons, Bool.false_eq_true, false_or]
          omega
theorem isFT_of {t : Tr} : isFT t = (gdT t && decide (dpT t ≤ 30) && decide (szT t ≤ 200)) := by
  unfold isFT
  rw [okT_dp]
  congr 2
  rw [decide_eq_decide]
  omega
mutual
theorem szF_le : ∀ f : Fm, gdT (trF f) = true ∧ dpT (trF f) ≤ f.dep + 1 ∧ szT (trF f) + 1 ≤ 2 ^ (f.dep + 1)
  | .not a => by
    obtain ⟨h1, h2, h3⟩ := szF_le a
    refine ⟨by simpa [trF, gdT, gdL] using h1, by simp [trF, dpT, dpL, Fm.dep]; exact h2, ?_⟩
    simp only [trF, szT, szL, Fm.dep]
    rw [Nat.pow_succ]
    omega
  | .qf _ _ a => by
    obtain ⟨h1, h2, h3⟩ := szF_le a
    refine ⟨by simpa [trF, gdT, gdL] using h1, by simp [trF, dpT, dpL, Fm.dep]; exact h2, ?_⟩
    simp only [trF, szT, szL, Fm.dep]
    rw [Nat.pow_succ]
    omega
  | .bin _ a b => by
    obtain ⟨h1, h2, h3⟩ := szF_le a
    obtain ⟨h4, h5, h6⟩ := szF_le b
    refine ⟨by simpa [trF, gdT, gdL] using ⟨h1, h4⟩, by simp only [trF, dpT, dpL, Fm.dep]; omega, ?_⟩
    simp only [trF, szT, szL, Fm.dep]
    have h7 : 2 ^ (a.dep + 1) ≤ 2 ^ (max a.dep b.dep + 1) := Nat.pow_le_pow_right (by decide) (by omega)
    have h8 : 2 ^ (b.dep + 1) ≤ 2 ^ (max a.dep b.dep + 1) := Nat.pow_le_pow_right (by decide) (by omega)
    rw [Nat.pow_succ 2 (max a.dep b.dep + 1)]
    omega
  | .pow _ => by simp [trF, gdT, gdL, dpT, dpL, szT, szL, Fm.dep]
  | .word _ _ _ => by simp [trF, gdT, gdL, dpT, dpL, szT, szL, Fm.dep]
  | .cmp _ _ _ => by simp [trF, gdT, gdL, dpT, dpL, szT, szL, Fm.dep]
  | .call _ _ => by simp [trF, gdT, gdL, dpT, dpL, szT, szL, Fm.dep]
end
theorem FxsAt.append {H : Hp} : ∀ {as bs : List V} {xs ys : List Tr}, FxsAt H as xs → FxsAt H bs ys → FxsAt H (as ++ bs) (xs ++ ys)
  | [], _, [], _, _, h => h
  | _ :: _, _, _ :: _, _, ⟨h1, h2⟩, h => ⟨h1, FxsAt.append h2 h⟩
  | [], _, _ :: _, _, h, _ => h.elim
  | _ :: _, _, [], _, h, _ => h.elim
theorem FxsAt.drop {H : Hp} : ∀ (n : Nat) {as : List V} {xs : List Tr}, FxsAt H as xs → FxsAt H (as.drop n) (xs.drop n)
  | 0, _, _, h => h
  | n + 1, [], [], h => h
  | n + 1, _ :: _, _ :: _, ⟨_, h2⟩ => FxsAt.drop n h2
  | n + 1, [], _ :: _, h => h.elim
  | n + 1, _ :: _, [], h => h.elim
theorem FxsAt.rep {H : Hp} {x : V} {t : Tr} (h : FxAt H x t) : ∀ n : Nat, FxsAt H (List.replicate n x) (List.replicate n t)
  | 0 => trivial
  | n + 1 => ⟨h, FxsAt.rep h n⟩
end Dw

namespace Dw
open PySem PySem.Spec PyProof.Rows L2 SX
/-- tuples stay, lists stay lists -/
structure Kp (H H' : Hp) : Prop where
  tup : Tups H H'
  lst : ∀ a xs, H a = some (.lst xs) → ∃ ys, H' a = some (.lst ys)
theorem Kp.same {H H' : Hp} (s : Same H H') : Kp H H' := ⟨Tups.same s, fun a xs h => ⟨xs, s _ _ h⟩⟩
theorem Kp.refl (H : Hp) : Kp H H := ⟨fun _ _ h => h, fun a xs h => ⟨xs, h⟩⟩
theorem Kp.trans {H H1 H2 : Hp} (a : Kp H H1) (b : Kp H1 H2) : Kp H H2 := ⟨a.1.trans b.1, fun x xs h => by
  obtain ⟨ys, h1⟩ := a.2 x xs h
  exact b.2 x ys h1⟩
theorem Kp.pool {H H' : Hp} {p q : Addr} {ns ms : List Int} (hP : Pool H p q ns) (e : But p H H') (hP' : Pool H' p q ms) : Kp H H' := ⟨Tups.pool hP e, fun a xs h => by
  by_cases z : a = p
  · obtain ⟨_, _, x, k, hp, _⟩ := hP'
    exact ⟨_, by rw [z]; exact hp⟩
  · exact ⟨xs, e a _ z h⟩⟩
theorem Kp.lset {H : Hp} {l : Addr} {xs ys : List V} (h : H l = some (.lst xs)) : Kp H (upd H l (.lst ys)) := ⟨tups_lst h, fun a zs e => by
  by_cases z : a = l
  · exact ⟨ys, by rw [z]; exact upd_same⟩
  · exact ⟨zs, by rw [upd_ne z]; exact e⟩⟩
theorem NoTup.kp {H H' : Hp} {x : V} (s : Kp H H') : NoTup H x → NoTup H' x
  | .non => .non
  | .int i => .int i
  | .bl b => .bl b
  | .str z => .str z
  | .lst h => by
    obtain ⟨ys, h2⟩ := s.2 _ _ h
    exact .lst h2
theorem NoStr.kp {H H' : Hp} {x : V} (s : Kp H H') (h : NoStr H x) : NoStr H' x := by
  cases h with
  | non => exact .non
  | int i => exact .int i
  | bl b => exact .bl b
  | tup h => exact .tup (s.1 _ _ h)
theorem BadName.kp {H H' : Hp} {x : V} (s : Kp H H') : BadName H x → BadName H' x
  | .str h b => .str h b
  | .no h => .no (h.kp s)
theorem BadWord.kp {H H' : Hp} {x : V} (s : Kp H H') : BadWord H x → BadWord H' x
  | .str h b => .str h b
  | .no h => .no (h.kp s)
theorem PairAt.kp {H H' : Hp} {x : V} {b : Bool} (s : Kp H H') (h : PairAt H x b) : PairAt H' x b := by
  cases h with
  | good h g o z => exact .good (s.1 _ _ h) g o z
  | no h => exact .no (h.kp s)
  | len h l => exact .len (s.1 _ _ h) l
  | name h b => exact .name (s.1 _ _ h) (b.kp s)
  | coef h g o => exact .coef (s.1 _ _ h) g o
  | flag h g => exact .flag (s.1 _ _ h) g
theorem PairsAt.kp {H H' : Hp} (s : Kp H H') : ∀ {xs : List V} {bs : List Bool}, PairsAt H xs bs → PairsAt H' xs bs
  | [], [], _ => trivial
  | _ :: _, _ :: _, ⟨h1, h2⟩ => ⟨h1.kp s, PairsAt.kp s h2⟩
  | [], _ :: _, h => h.elim
  | _ :: _, [], h => h.elim
theorem BadTerm.kp {H H' : Hp} {u : Addr} (s : Kp H H') (h : BadTerm H u) : BadTerm H' u := by
  obtain ⟨q, c, pa, bs, h1, h2, h3, h4⟩ := h
  exact ⟨q, c, pa, bs, s.1 _ _ h1, s.1 _ _ h2, h3.kp s, h4⟩
theorem NameAt.kp {H H' : Hp} {x : V} {b : Bool} (s : Kp H H') : NameAt H x b → NameAt H' x b
  | .good g => .good g
  | .bad b => .bad (b.kp s)
theorem NamesAt.kp {H H' : Hp} (s : Kp H H') : ∀ {xs : List V} {bs : List Bool}, NamesAt H xs bs → NamesAt H' xs bs
  | [], [], _ => trivial
  | _ :: _, _ :: _, ⟨h1, h2⟩ => ⟨h1.kp s, NamesAt.kp s h2⟩
  | [], _ :: _, h => h.elim
  | _ :: _, [], h => h.elim
theorem NmsAt.kp {H H' : Hp} {x : V} {b : Bool} (s : Kp H H') : NmsAt H x b → NmsAt H' x b
  | .no h => .no (h.kp s)
  | .tup h n l => .tup (s.1 _ _ h) (n.kp s) l
theorem BadNode.kp {H H' : Hp} {x : V} (s : Kp H H') (h : BadNode H x) : BadNode H' x := by
  cases h with
  | no h => exact .no (h.kp s)
  | nil h => exact .nil (s.1 _ _ h)
  | head h n => exact .head (s.1 _ _ h) (n.kp s)
  | kind h n => exact .kind (s.1 _ _ h) n
  | len h k n => exact .len (s.1 _ _ h) k n
  | cmp k h b => exact .cmp k (s.1 _ _ h) (b.kp s)
  | pow h b => exact .pow (s.1 _ _ h) (b.kp s)
  | qf k h b => exact .qf k (s.1 _ _ h) (b.kp s)
  | word h b => exact .word (s.1 _ _ h) (b.kp s)
  | call h g b => exact .call (s.1 _ _ h) g (b.kp s)
theorem FxAt.kp {H H' : Hp} {x : V} {t : Tr} (s : Kp H H') (h : FxAt H x t) : FxAt H' x t := by
  induction h with
  | leaf h g s' => exact .leaf (h.tups s.1) g s'
  | bad b => exact .bad (b.kp s)
  | not h p ih => exact .not (s.1 _ _ h) ih
  | bin k h p q i1 i2 => exact .bin k (s.1 _ _ h) i1 i2
  | qf k h g p ih => exact .qf k (s.1 _ _ h) g ih
theorem FxsAt.kp {H H' : Hp} (s : Kp H H') : ∀ {xs : List V} {ts : List Tr}, FxsAt H xs ts → FxsAt H' xs ts
  | [], [], _ => trivial
  | _ :: _, _ :: _, ⟨h1, h2⟩ => ⟨h1.kp s, FxsAt.kp s h2⟩
  | [], _ :: _, h => h.elim
  | _ :: _, [], h => h.elim
theorem PairsAt.append {H : Hp} : ∀ {as bs : List V} {xs ys : List Bool}, PairsAt H as xs → PairsAt H bs ys → PairsAt H (as ++ bs) (xs ++ ys)
  | [], _, [], _, _, h => h
  | _ :: _, _, _ :: _, _, ⟨h1, h2⟩, h => ⟨h1, PairsAt.append h2 h⟩
  | [], _, _ :: _, _, h, _ => h.elim
  | _ :: _, _, [], _, h, _ => h.elim
theorem PairsAt.drop {H : Hp} : ∀ (n : Nat) {as : List V} {xs : List Bool}, PairsAt H as xs → PairsAt H (as.drop n) (xs.drop n)
  | 0, _, _, h => h
  | n + 1, [], [], h => h
  | n + 1, _ :: _, _ :: _, ⟨_, h2⟩ => PairsAt.drop n h2
  | n + 1, [], _ :: _, h => h.elim
  | n + 1, _ :: _, [], h => h.elim
theorem PairsAt.take {H : Hp} : ∀ (n : Nat) {as : List V} {xs : List Bool}, PairsAt H as xs → PairsAt H (as.take n) (xs.take n)
  | 0, _, _, h => trivial
  | n + 1, [], [], h => h
  | n + 1, _ :: _, _ :: _, ⟨h1, h2⟩ => ⟨h1, PairsAt.take n h2⟩
  | n + 1, [], _ :: _, h => h.elim
  | n + 1, _ :: _, [], h => h.elim
end Dw

namespace Dw
open PySem PySem.Spec PyProof.Rows L2 SX
/-! a formula's nodes, first the formula, then its parts' from left to right -/
def preF : Fm → List Fm
  | .not a => .not a :: preF a
  | .bin k a b => .bin k a b :: (preF a ++ preF b)
  | .qf k z a => .qf k z a :: preF a
  | .pow z => [.pow z]
  | .word w z o => [.word w z o]
  | .cmp k ps c => [.cmp k ps c]
  | .call f zs => [.call f zs]
theorem preF_good : ∀ (f : Fm), f.Good → ∀ g ∈ preF f, g.Good
  | .not a, h, g, hm => by
    rcases List.mem_cons.mp hm with rfl | hm
    · exact h
    · exact preF_good a h g hm
  | .bin k a b, h, g, hm => by
    rcases List.mem_cons.mp hm with rfl | hm
    · exact h
    rcases List.mem_append.mp hm with hm | hm
    · exact preF_good a h.1 g hm
    · exact preF_good b h.2 g hm
  | .qf k z a, h, g, hm => by
    rcases List.mem_cons.mp hm with rfl | hm
    · exact h
    · exact preF_good a h.2 g hm
  | .pow z, h, g, hm => by rw [List.mem_singleton.mp hm]; exact h
  | .word w z o, h, g, hm => by rw [List.mem_singleton.mp hm]; exact h
  | .cmp k ps c, h, g, hm => by rw [List.mem_singleton.mp hm]; exact h
  | .call f zs, h, g, hm => by rw [List.mem_singleton.mp hm]; exact h
theorem preF_len : ∀ f : Fm, (preF f).length + 1 ≤ 2 ^ (f.dep + 1)
  | .not a => by
    have := preF_len a
    simp only [preF, List.length_cons, Fm.dep]
    rw [Nat.pow_succ]
    omega
  | .qf k z a => by
    have := preF_len a
    simp only [preF, List.length_cons, Fm.dep]
    rw [Nat.pow_succ]
    omega
  | .bin k a b => by
    have h1 := preF_len a
    have h2 := preF_len b
    simp only [preF, List.length_cons, List.length_append, Fm.dep]
    have h7 : 2 ^ (a.dep + 1) ≤ 2 ^ (max a.dep b.dep + 1) := Nat.pow_le_pow_right (by decide) (by omega)
    have h8 : 2 ^ (b.dep + 1) ≤ 2 ^ (max a.dep b.dep + 1) := Nat.pow_le_pow_right (by decide) (by omega)
    rw [Nat.pow_succ 2 (max a.dep b.dep + 1)]
    omega
  | .pow z => by simp [preF, Fm.dep]
  | .word w z o => by simp [preF, Fm.dep]
  | .cmp k ps c => by simp [preF, Fm.dep]
  | .call f zs => by simp [preF, Fm.dep]
/-- pairs of a node and a level -/
def NdsAt (H : Hp) : List Addr → List Fm → Prop
  | [], [] => True
  | e :: es, f :: fs => (∃ t l, H e = some (.tup [.ref t, .int l]) ∧ FmAt H t f) ∧ NdsAt H es fs
  | _, _ => False
theorem NdsAt.tups {H H' : Hp} (e : Tups H H') : ∀ {es : List Addr} {fs : List Fm}, NdsAt H es fs → NdsAt H' es fs
  | [], [], _ => trivial
  | _ :: _, _ :: _, ⟨⟨t, l, h1, h2⟩, h3⟩ => ⟨⟨t, l, e _ _ h1, h2.tups e⟩, NdsAt.tups e h3⟩
  | [], _ :: _, h => h.elim
  | _ :: _, [], h => h.elim
theorem NdsAt.len {H : Hp} : ∀ {es : List Addr} {fs : List Fm}, NdsAt H es fs → es.length = fs.length
  | [], [], _ => rfl
  | _ :: es, _ :: fs, ⟨_, h2⟩ => congrArg (· + 1) (NdsAt.len (es := es) (fs := fs) h2)
  | [], _ :: _, h => h.elim
  | _ :: _, [], h => h.elim
theorem NdsAt.append {H : Hp} : ∀ {as bs : List Addr} {xs ys : List Fm}, NdsAt H as xs → NdsAt H bs ys → NdsAt H (as ++ bs) (xs ++ ys)
  | [], _, [], _, _, h => h
  | _ :: _, _, _ :: _, _, ⟨h1, h2⟩, h => ⟨h1, NdsAt.append h2 h⟩
  | [], _, _ :: _, _, h, _ => h.elim
  | _ :: _, _, [], _, h, _ => h.elim
theorem NdsAt.at_ {H : Hp} : ∀ {es : List Addr} {fs : List Fm} {i : Nat} {e : Addr}, NdsAt H es fs → es[i]? = some e → ∃ f t l, fs[i]? = some f ∧ H e = some (.tup [.ref t, .int l]) ∧ FmAt H t f
  | e :: es, f :: fs, 0, _, ⟨⟨t, l, h1, h2⟩, _⟩, he => by cases he; exact ⟨f, t, l, rfl, h1, h2⟩
  | e :: es, f :: fs, i + 1, _, ⟨_, h2⟩, he => NdsAt.at_ (es := es) (fs := fs) (i := i) h2 he
  | [], [], _, _, _, he => by cases he
  | [], _ :: _, _, _, h, _ => h.elim
  | _ :: _, [], _, _, h, _ => h.elim
theorem NdsAt.split {H : Hp} : ∀ {as : List Addr} {a : Addr} {xs : List Fm}, NdsAt H (as ++ [a]) xs → ∃ ys x, xs = ys ++ [x] ∧ NdsAt H as ys ∧ ∃ t l, H a = some (.tup [.ref t, .int l]) ∧ FmAt H t x
  | [], a, [x], h => ⟨[], x, rfl, trivial, h.1⟩
  | [], a, x :: y :: r, h => h.2.elim
  | [], a, [], h => h.elim
  | b :: as, a, [], h => h.elim
  | b :: as, a, x :: xs, ⟨h1, h2⟩ => by
    obtain ⟨ys, y, e, h3, h4⟩ := NdsAt.split (as := as) (a := a) (xs := xs) h2
    exact ⟨x :: ys, y, by rw [e]; rfl, ⟨h1, h3⟩, h4⟩
/-- what is still to come from a stack -/
def preS (xs : List Fm) : List Fm := xs.reverse.flatMap preF
theorem preS_snoc (xs : List Fm) (f : Fm) : preS (xs ++ [f]) = preF f ++ preS xs := by
  unfold preS
  rw [List.reverse_append, List.flatMap_append]
  simp
theorem preS_app (xs ys : List Fm) : preS (xs ++ ys) = preS ys ++ preS xs := by
  unfold preS
  rw [List.reverse_append, List.flatMap_append]
theorem preS_len (xs : List Fm) : xs.length ≤ (preS xs).length := by
  unfold preS
  rw [List.length_flatMap]
  have : ∀ ys : List Fm, ys.length ≤ (ys.map fun f => (preF f).length).sum := fun ys => by
    induction ys with
    | nil => exact Nat.le_refl _
    | cons y ys ih =>
      have : 0 < (preF y).length := by cases y <;> simp [preF]
      rw [List.map_cons, List.sum_cons, List.length_cons]
      omega
  have h := this xs.reverse
  rw [List.length_reverse] at h
  exact h
end Dw

namespace Dw
open PySem PySem.Spec PyProof.Rows L2 SX
/-! all names of a formula -/
def allN : Fm → List Str
  | .pow z => [S z]
  | .word _ z _ => [S z]
  | .cmp _ ps _ => keys ps
  | .call _ zs => zs.map S
  | .not a => allN a
  | .bin _ a b => allN a ++ allN b
  | .qf _ z a => S z :: allN a
theorem nm1 {ls : List (List Nat)} {l : List Nat} (h : l ∈ ls) : ∀ z ∈ [S l], z ∈ ls.map S := fun z hz => by
  rw [List.mem_singleton.mp hz]
  exact List.mem_map.mpr ⟨l, h, rfl⟩
theorem nmK {ls : List (List Nat)} {ps : Prs} (h : ∀ x ∈ ps, x.1 ∈ ls.map S) : ∀ z ∈ keys ps, z ∈ ls.map S := fun z hz => by
  obtain ⟨x, hx, rfl⟩ := List.mem_map.mp hz
  exact h x hx
theorem nmQ {ls : List (List Nat)} {l : List Nat} {f : Fm} (h : l ∈ ls) (h2 : ∀ z ∈ allN f, z ∈ ls.map S) : ∀ z ∈ S l :: allN f, z ∈ ls.map S := fun z hz => by
  rcases List.mem_cons.mp hz with rfl | hz
  · exact List.mem_map.mpr ⟨l, h, rfl⟩
  · exact h2 z hz
theorem nmC {ls gs : List (List Nat)} (h : ∀ l ∈ gs, l ∈ ls) : ∀ z ∈ gs.map S, z ∈ ls.map S := fun z hz => by
  obtain ⟨x, hx, rfl⟩ := List.mem_map.mp hz
  exact List.mem_map.mpr ⟨x, h x hx, rfl⟩
theorem nmB {ls : List (List Nat)} {f g : Fm} (h1 : ∀ z ∈ allN f, z ∈ ls.map S) (h2 : ∀ z ∈ allN g, z ∈ ls.map S) : ∀ z ∈ allN f ++ allN g, z ∈ ls.map S := fun z hz => by
  rcases List.mem_append.mp hz with h | h
  · exact h1 z h
  · exact h2 z h
end Dw

namespace Dw
open PySem PySem.Spec PyProof.Rows L2 SX
theorem eqV_str (a b : Str) : eqV (.str a) (.str b) = decide (a = b) := by
  have e1 : a = S a.cps.toList := rfl
  have e2 : b = S b.cps.toList := rfl
  rw [e1, e2, eqV_S]
  by_cases h : a.cps.toList = b.cps.toList
  · rw [h]; simp
  · have h' : ¬ S a.cps.toList = S b.cps.toList := fun e => h (S_inj e)
    simp [h, h']
theorem inV_str (x : Str) : ∀ L : List Str, inV (.str x) (L.map V.str) = decide (x ∈ L)
  | [] => by simp [inV]
  | a :: L => by
    have ih := inV_str x L
    unfold inV at ih ⊢
    rw [List.map_cons, List.any_cons, ih, eqV_str]
    by_cases h : a = x
    · subst h; simp
    · have h' : ¬ x = a := fun e => h e.symm
      simp [h, h']
theorem flat_str (L : List Str) : (L.map V.str).all flatV = true := List.all_eq_true.mpr fun z hz => by
  obtain ⟨y, _, rfl⟩ := List.mem_map.mp hz
  rfl
theorem setL_append (xs ys : List Str) : setL (xs ++ ys) = ys.foldl (fun ks z => putT z ks) (setL xs) := by
  unfold setL
  rw [List.foldl_append]
theorem filter_take_add {α : Type} (p : α → Bool) (xs : List α) (i : Nat) (x : α) (h : xs[i]? = some x) : (xs.take (i + 1)).filter p = (xs.take i).filter p ++ (if p x = true then [x] else []) := by
  rw [List.take_add_one, h, List.filter_append]
  by_cases hp : p x = true <;> simp [hp]
theorem Tups.but {H H' : Hp} {p : Addr} {o : HO} (b : But p H H') (h : H p = some o) (n : ∀ xs, o ≠ .tup xs) : Tups H H' := fun a xs ha => b a _ (fun e => by
  rw [e, h] at ha
  exact n xs (Option.some.inj ha)) ha
theorem Same.but2 {H H1 H2 : Hp} {p : Addr} (s : Same H H1) (b : But p H1 H2) (h : H p = Option.none) : Same H H2 := fun a o ha => b a o (fun e => by rw [e, h] at ha; cases ha) (s a o ha)
end Dw

namespace Dw
open PySem PySem.Spec PyProof.Rows L2 SX
/-! a formula's nodes with their levels -/
def preL : Fm → Int → List (Fm × Int)
  | .not a, l => (.not a, l) :: preL a (l + 1)
  | .bin k a b, l => (.bin k a b, l) :: (preL a (l + 1) ++ preL b (l + 1))
  | .qf k z a, l => (.qf k z a, l) :: preL a (l + 1)
  | .pow z, l => [(.pow z, l)]
  | .word w z o, l => [(.word w z o, l)]
  | .cmp k ps c, l => [(.cmp k ps c, l)]
  | .call f zs, l => [(.call f zs, l)]
def dpN : Fm → Nat
  | .not a => dpN a + 1
  | .bin _ a b => max (dpN a) (dpN b) + 1
  | .qf _ _ a => dpN a + 1
  | _ => 1
def szN : Fm → Nat
  | .not a => szN a + 1
  | .bin _ a b => szN a + szN b + 1
  | .qf _ _ a => szN a + 1
  | _ => 1
theorem preL_len : ∀ (f : Fm) (l : Int), (preL f l).length = szN f
  | .not a, l => by simp [preL, szN, preL_len a]
  | .bin k a b, l => by simp [preL, szN, preL_len a, preL_len b]
  | .qf k z a, l => by simp [preL, szN, preL_len a]
  | .pow z, l => rfl
  | .word w z o, l => rfl
  | .cmp k ps c, l => rfl
  | .call f zs, l => rfl
theorem preL_le : ∀ (f : Fm) (l : Int), (∀ x ∈ preL f l, x.2 ≤ l + (dpN f : Nat) - 1) ∧ ∃ x ∈ preL f l, x.2 = l + (dpN f : Nat) - 1
  | .not a, l => by
    obtain ⟨h1, x, hx, h2⟩ := preL_le a (l + 1)
    refine ⟨fun y hy => ?_, x, List.mem_cons_of_mem _ hx, by rw [h2]; show _ = l + ((dpN a + 1 : Nat) : Int) - 1; omega⟩
    show y.2 ≤ l + ((dpN a + 1 : Nat) : Int) - 1
    rcases List.mem_cons.mp hy with rfl | hy
    · show l ≤ _; omega
    · have := h1 y hy; omega
  | .qf k z a, l => by
    obtain ⟨h1, x, hx, h2⟩ := preL_le a (l + 1)
    refine ⟨fun y hy => ?_, x, List.mem_cons_of_mem _ hx, by rw [h2]; show _ = l + ((dpN a + 1 : Nat) : Int) - 1; omega⟩
    show y.2 ≤ l + ((dpN a + 1 : Nat) : Int) - 1
    rcases List.mem_cons.mp hy with rfl | hy
    · show l ≤ _; omega
    · have := h1 y hy; omega
  | .bin k a b, l => by
    obtain ⟨h1, x, hx, h2⟩ := preL_le a (l + 1)
    obtain ⟨h3, y, hy, h4⟩ := preL_le b (l + 1)
    have e : dpN (.bin k a b) = max (dpN a) (dpN b) + 1 := rfl
    rw [e]
    refine ⟨fun z hz => ?_, ?_⟩
    · rcases List.mem_cons.mp hz with rfl | hz
      · show l ≤ _; omega
      · rcases List.mem_append.mp hz with hz | hz
        · have := h1 z hz; omega
        · have := h3 z hz; omega
    · by_cases q : dpN a ≤ dpN b
      · exact ⟨y, List.mem_cons_of_mem _ (List.mem_append_right _ hy), by omega⟩
      · exact ⟨x, List.mem_cons_of_mem _ (List.mem_append_left _ hx), by omega⟩
  | .pow z, l => ⟨fun x hx => by rw [List.mem_singleton.mp hx]; show l ≤ l + ((1 : Nat) : Int) - 1; omega, _, List.mem_singleton.mpr rfl, by show l = l + ((1 : Nat) : Int) - 1; omega⟩
  | .word w z o, l => ⟨fun x hx => by rw [List.mem_singleton.mp hx]; show l ≤ l + ((1 : Nat) : Int) - 1; omega, _, List.mem_singleton.mpr rfl, by show l = l + ((1 : Nat) : Int) - 1; omega⟩
  | .cmp k ps c, l => ⟨fun x hx => by rw [List.mem_singleton.mp hx]; show l ≤ l + ((1 : Nat) : Int) - 1; omega, _, List.mem_singleton.mpr rfl, by show l = l + ((1 : Nat) : Int) - 1; omega⟩
  | .call f zs, l => ⟨fun x hx => by rw [List.mem_singleton.mp hx]; show l ≤ l + ((1 : Nat) : Int) - 1; omega, _, List.mem_singleton.mpr rfl, by show l = l + ((1 : Nat) : Int) - 1; omega⟩
def NlAt (H : Hp) : List Addr → List (Fm × Int) → Prop
  | [], [] => True
  | e :: es, x :: fs => (∃ t, H e = some (.tup [.ref t, .int x.2]) ∧ FmAt H t x.1) ∧ NlAt H es fs
  | _, _ => False
theorem NlAt.tups {H H' : Hp} (e : Tups H H') : ∀ {es : List Addr} {fs : List (Fm × Int)}, NlAt H es fs → NlAt H' es fs
  | [], [], _ => trivial
  | _ :: _, _ :: _, ⟨⟨t, h1, h2⟩, h3⟩ => ⟨⟨t, e _ _ h1, h2.tups e⟩, NlAt.tups e h3⟩
  | [], _ :: _, h => h.elim
  | _ :: _, [], h => h.elim
theorem NlAt.len {H : Hp} : ∀ {es : List Addr} {fs : List (Fm × Int)}, NlAt H es fs → es.length = fs.length
  | [], [], _ => rfl
  | _ :: es, _ :: fs, ⟨_, h2⟩ => congrArg (· + 1) (NlAt.len (es := es) (fs := fs) h2)
  | [], _ :: _, h => h.elim
  | _ :: _, [], h => h.elim
theorem NlAt.append {H : Hp} : ∀ {as bs : List Addr} {xs ys : List (Fm × Int)}, NlAt H as xs → NlAt H bs ys → NlAt H (as ++ bs) (xs ++ ys)
  | [], _, [], _, _, h => h
  | _ :: _, _, _ :: _, _, ⟨h1, h2⟩, h => ⟨h1, NlAt.append h2 h⟩
  | [], _, _ :: _, _, h, _ => h.elim
  | _ :: _, _, [], _, h, _ => h.elim
theorem NlAt.at_ {H : Hp} : ∀ {es : List Addr} {fs : List (Fm × Int)} {i : Nat} {e : Addr}, NlAt H es fs → es[i]? = some e → ∃ x t, fs[i]? = some x ∧ H e = some (.tup [.ref t, .int x.2]) ∧ FmAt H t x.1
  | e :: es, f :: fs, 0, _, ⟨⟨t, h1, h2⟩, _⟩, he => by cases he; exact ⟨f, t, rfl, h1, h2⟩
  | e :: es, f :: fs, i + 1, _, ⟨_, h2⟩, he => NlAt.at_ (es := es) (fs := fs) (i := i) h2 he
  | [], [], _, _, _, he => by cases he
  | [], _ :: _, _, _, h, _ => h.elim
  | _ :: _, [], _, _, h, _ => h.elim
theorem NlAt.split {H : Hp} : ∀ {as : List Addr} {a : Addr} {xs : List (Fm × Int)}, NlAt H (as ++ [a]) xs → ∃ ys x, xs = ys ++ [x] ∧ NlAt H as ys ∧ ∃ t, H a = some (.tup [.ref t, .int x.2]) ∧ FmAt H t x.1
  | [], a, [x], h => ⟨[], x, rfl, trivial, h.1⟩
  | [], a, x :: y :: r, h => h.2.elim
  | [], a, [], h => h.elim
  | b :: as, a, [], h => h.elim
  | b :: as, a, x :: xs, ⟨h1, h2⟩ => by
    obtain ⟨ys, y, e, h3, h4⟩ := NlAt.split (as := as) (a := a) (xs := xs) h2
    exact ⟨x :: ys, y, by rw [e]; rfl, ⟨h1, h3⟩, h4⟩
def preLS (xs : List (Fm × Int)) : List (Fm × Int) := xs.reverse.flatMap fun x => preL x.1 x.2
theorem preLS_snoc (xs : List (Fm × Int)) (x : Fm × Int) : preLS (xs ++ [x]) = preL x.1 x.2 ++ preLS xs := by
  unfold preLS
  rw [List.reverse_append, List.flatMap_append]
  simp
theorem preLS_app (xs ys : List (Fm × Int)) : preLS (xs ++ ys) = preLS ys ++ preLS xs := by
  unfold preLS
  rw [List.reverse_append, List.flatMap_append]
theorem szN_pos (f : Fm) : 0 < szN f := by cases f <;> simp [szN]
theorem preLS_len (xs : List (Fm × Int)) : xs.length ≤ (preLS xs).length := by
  unfold preLS
  rw [List.length_flatMap]
  have : ∀ ys : List (Fm × Int), ys.length ≤ (ys.map fun x => (preL x.1 x.2).length).sum := fun ys => by
    induction ys with
    | nil => exact Nat.le_refl _
    | cons y ys ih =>
      have : 0 < (preL y.1 y.2).length := by rw [preL_len]; exact szN_pos _
      rw [List.map_cons, List.sum_cons, List.length_cons]
      omega
  have h := this xs.reverse
  rw [List.length_reverse] at h
  exact h
end Dw

namespace Dw
open PySem PySem.Spec PyProof.Rows L2 SX
theorem smallB {n : Nat} (h : n ≤ 1000000) : n ≤ sizeLine := by rw [sizeLine_eq]; omega
theorem smalltB {n : Nat} (h : n ≤ 1000000) : n < sizeLine := by rw [sizeLine_eq]; omega
end Dw

namespace Dw
open PySem PySem.Spec PyProof.Rows L2 SX
/-! tokens and what a reader makes of them -/
inductive Tv
  | res (l : List Nat)
  | name (l : List Nat)
  | word (l : List Nat)
  | num (n : Nat)
  | sign (l : List Nat)
  deriving DecidableEq
def Tv.kind : Tv → List Nat
  | .res _ => cs "reserved"
  | .name _ => cs "name"
  | .word _ => cs "word"
  | .num _ => cs "number"
  | .sign _ => cs "sign"
def Tv.val : Tv → V
  | .num n => .int (n : Nat)
  | .res l => .str (S l)
  | .name l => .str (S l)
  | .word l => .str (S l)
  | .sign l => .str (S l)
/-- it bears this text -/
def Tv.is (l : List Nat) : Tv → Bool
  | .num _ => false
  | .res z => decide (z = l)
  | .name z => decide (z = l)
  | .word z => decide (z = l)
  | .sign z => decide (z = l)
theorem Tv.is_val (l : List Nat) (x : Tv) : decide (x.val = .str (S l)) = x.is l := by
  have h : ∀ z : List Nat, decide (V.str (S z) = V.str (S l)) = decide (z = l) := fun z => by
    by_cases e : z = l
    · rw [e]; simp
    · rw [decide_eq_false e, decide_eq_false fun q => e (S_inj (V.str.inj q))]
  cases x with
  | num n => exact decide_eq_false fun q => by cases q
  | _ => exact h _
structure Tk where
  x : Tv
  at_ : Nat
def TkAt (H : Hp) : List Addr → List Tk → Prop
  | [], [] => True
  | a :: as, t :: ts => H a = some (.tup [.str (S t.x.kind), t.x.val, .int (t.at_ : Nat)]) ∧ TkAt H as ts
  | _, _ => False
theorem TkAt.tups {H H' : Hp} (e : Tups H H') : ∀ {as : List Addr} {ts : List Tk}, TkAt H as ts → TkAt H' as ts
  | [], [], _ => trivial
  | _ :: _, _ :: _, ⟨h1, h2⟩ => ⟨e _ _ h1, TkAt.tups e h2⟩
  | [], _ :: _, h => h.elim
  | _ :: _, [], h => h.elim
theorem TkAt.len {H : Hp} : ∀ {as : List Addr} {ts : List Tk}, TkAt H as ts → as.length = ts.length
  | [], [], _ => rfl
  | _ :: _, _ :: _, ⟨_, h2⟩ => congrArg (· + 1) (TkAt.len h2)
  | [], _ :: _, h => h.elim
  | _ :: _, [], h => h.elim
theorem TkAt.at_ {H : Hp} : ∀ {as : List Addr} {ts : List Tk} {i : Nat} {t : Tk}, TkAt H as ts → ts[i]? = some t → ∃ a, as[i]? = some a ∧ H a = some (.tup [.str (S t.x.kind), t.x.val, .int (t.at_ : Nat)])
  | a :: as, t :: ts, 0, _, ⟨h1, _⟩, e => by cases e; exact ⟨a, rfl, h1⟩
  | a :: as, t :: ts, i + 1, _, ⟨_, h2⟩, e => TkAt.at_ (as := as) (ts := ts) (i := i) h2 e
  | [], [], _, _, _, e => by cases e
  | [], _ :: _, _, _, h, _ => h.elim
  | _ :: _, [], _, _, h, _ => h.elim
/-! a reader -/
theorem putF_putF (f : Str) (v w : V) : ∀ fs : List (Str × V), putF f v (putF f w fs) = putF f v fs
  | [] => by simp [putF]
  | (g, x) :: r => by
    by_cases h : g = f
    · simp [putF, h]
    · simp [putF, h, putF_putF f v w r]
def rflds (F : Addr) (len i : Nat) : List (Str × V) := putF "place" (.int (i : Nat)) (putF "length" (.int (len : Nat)) (putF "found" (.ref F) []))
theorem kfl : ¬ (("found" : Str) = "length") ∧ ¬ (("found" : Str) = "place") ∧ ¬ (("length" : Str) = "place") := by decide +kernel
theorem rf_next (F : Addr) (len i : Nat) : putF ("place" : Str) (.int ((i : Nat) + 1 : Int)) (rflds F len i) = rflds F len (i + 1) := by
  unfold rflds
  rw [putF_putF]
  rfl
theorem rf_f (F : Addr) (len i : Nat) : (rflds F len i).lookup ("found" : Str) = some (.ref F) := by
  unfold rflds
  rw [lookup_putF, if_neg kfl.2.1, lookup_putF, if_neg kfl.1, lookup_putF, if_pos rfl]
theorem rf_l (F : Addr) (len i : Nat) : (rflds F len i).lookup ("length" : Str) = some (.int (len : Nat)) := by
  unfold rflds
  rw [lookup_putF, if_neg kfl.2.2, lookup_putF, if_pos rfl]
theorem rf_p (F : Addr) (len i : Nat) : (rflds F len i).lookup ("place" : Str) = some (.int (i : Nat)) := by
  unfold rflds
  rw [lookup_putF, if_pos rfl]
theorem rf_no (F : Addr) (len i : Nat) {m : Str} (h1 : ¬ m = "found") (h2 : ¬ m = "length") (h3 : ¬ m = "place") : (rflds F len i).lookup m = none := by
  unfold rflds
  rw [lookup_putF, if_neg h3, lookup_putF, if_neg h2, lookup_putF, if_neg h1]
  rfl
theorem rf_len (F : Addr) (len i : Nat) : (rflds F len i).length = 3 := by
  unfold rflds
  simp only [putF, kfl.1, kfl.2.1, kfl.2.2, if_false]
  rfl
structure RdAt (CR F : Addr) (H : Hp) (r : Addr) (len : Nat) (ts : List Tk) : Prop where
  ex : ∃ (dx : Addr) (as : List Addr) (T : List Tk) (i : Nat), H r = some (.ins CR dx (rflds F len i)) ∧ H F = some (.lst (as.map V.ref)) ∧ TkAt H as T ∧ T.drop i = ts ∧ i ≤ T.length ∧ T.length ≤ 5000
theorem RdAt.same {CR F : Addr} {H H' : Hp} {r : Addr} {len : Nat} {ts : List Tk} (h : RdAt CR F H r len ts) (s : Same H H') : RdAt CR F H' r len ts := by
  obtain ⟨dx, as, T, i, h1, h2, h3, h4⟩ := h.ex
  exact ⟨dx, as, T, i, s _ _ h1, s _ _ h2, h3.tups (Tups.same s), h4⟩
theorem RdAt.tups {CR F : Addr} {H H' : Hp} {r : Addr} {len : Nat} {ts : List Tk} (h : RdAt CR F H r len ts) (b : But r H H') : Tups H H' := by
  obtain ⟨dx, as, T, i, h1, _⟩ := h.ex
  exact Tups.but b h1 (fun xs z => by cases z)
/-- what else is changed -/
theorem RdAt.upd {CR F : Addr} {H : Hp} {r a : Addr} {o : HO} {len : Nat} {ts : List Tk} (h : RdAt CR F H r len ts) (n : r ≠ a) (nF : F ≠ a) (nt : ∀ xs, H a ≠ some (.tup xs)) : RdAt CR F (L2.upd H a o) r len ts := by
  obtain ⟨dx, as, T, i, h1, h2, h3, h4⟩ := h.ex
  refine ⟨dx, as, T, i, by rw [upd_ne n]; exact h1, by rw [upd_ne nF]; exact h2, h3.tups fun b xs e => ?_, h4⟩
  rw [upd_ne (fun z => nt xs (by rw [← z]; exact e))]
  exact e
theorem RdAt.far {CR F : Addr} {H : Hp} {r p : Addr} {len : Nat} {ts : List Tk} (h : RdAt CR F H r len ts) (hp : H p = none) : r ≠ p ∧ F ≠ p := by
  obtain ⟨dx, as, T, i, h1, h2, _⟩ := h.ex
  exact ⟨ne_of_none h1 hp, ne_of_none h2 hp⟩
theorem RdAt.few {CR F : Addr} {H : Hp} {r : Addr} {len : Nat} {ts : List Tk} (h : RdAt CR F H r len ts) : ts.length ≤ 5000 := by
  obtain ⟨dx, as, T, i, _, _, _, h4, _, h6⟩ := h.ex
  rw [← h4, List.length_drop]
  omega
/-! results -/
inductive Rs (α : Type)
  | ok (a : α) (ts : List Tk)
  | mal (n : Nat)
  | over (w : String)
  | out
def Rs.bind {α β : Type} : Rs α → (α → List Tk → Rs β) → Rs β
  | .ok a ts, k => k a ts
  | .mal n, _ => .mal n
  | .over w, _ => .over w
  | .out, _ => .out
def spotM (len : Nat) : List Tk → Nat
  | [] => len
  | t :: _ => t.at_
def seesM (l : List Nat) : List Tk → Bool
  | [] => false
  | t :: _ => t.x.is l
def skipM (len : Nat) (l : List Nat) (ts : List Tk) : Rs Unit := if seesM l ts then .ok () ts.tail else .mal (spotM len ts)
def takeName (len : Nat) : List Tk → Rs (List Nat)
  | ⟨.name z, _⟩ :: ts => .ok z ts
  | ts => .mal (spotM len ts)
def takeWord (len : Nat) : List Tk → Rs (List Nat)
  | ⟨.word z, _⟩ :: ts => .ok z ts
  | ts => .mal (spotM len ts)
def takeRes (len : Nat) : List Tk → Rs (List Nat)
  | ⟨.res z, _⟩ :: ts => .ok z ts
  | ts => .mal (spotM len ts)
def takeSign (len : Nat) : List Tk → Rs (List Nat)
  | ⟨.sign z, _⟩ :: ts => .ok z ts
  | ts => .mal (spotM len ts)
def takeNum (len : Nat) : List Tk → Rs Nat
  | ⟨.num n, _⟩ :: ts => .ok n ts
  | ts => .mal (spotM len ts)
def namesLoop (len : Nat) : Nat → List (List Nat) → List Tk → Rs (List (List Nat))
  | 0, _, _ => .out
  | m + 1, acc, ts => if seesM (cs ",") ts then (takeName len ts.tail).bind fun z ts2 => namesLoop len m (acc ++ [z]) ts2 else .ok acc ts
def namesM (len : Nat) (ts : List Tk) : Rs (List (List Nat)) := (takeName len ts).bind fun z ts2 => namesLoop len (ts2.length + 1) [z] ts2
def isName : List Tk → Bool
  | ⟨.name _, _⟩ :: _ => true
  | _ => false
def isWord : List Tk → Bool
  | ⟨.word _, _⟩ :: _ => true
  | _ => false
def partM (len : Nat) (ts : List Tk) : Rs (Option (List Nat) × Nat) := if isName ts then (takeName len ts).bind fun z ts2 => .ok (some z, 1) ts2
  else (takeNum len ts).bind fun n ts2 => if seesM (cs "*") ts2 then (takeName len ts2.tail).bind fun z ts3 => .ok (some z, n) ts3 else .ok (none, n) ts2
def signM (ts : List Tk) : Int × List Tk := if seesM (cs "+") ts then (1, ts.tail) else if seesM (cs "-") ts then (-1, ts.tail) else (0, ts)
def sumLoop (len : Nat) : Nat → Int → Prs → Int → List Tk → Rs (Prs × Int)
  | 0, _, _, _, _ => .out
  | m + 1, s, ps, c, ts => if s = 0 then .ok (ps, c) ts else if 14 < ps.length then .out else
    (partM len ts).bind fun x ts2 => match x.1 with
      | none => sumLoop len m (signM ts2).1 ps (c + s * x.2) (signM ts2).2
      | some z => sumLoop len m (signM ts2).1 (ps ++ [(S z, s * x.2)]) c (signM ts2).2
def sumM (len : Nat) (ts : List Tk) : Rs (Prs × Int) := if seesM (cs "-") ts then sumLoop len (ts.length + 1) (-1) [] 0 ts.tail else sumLoop len (ts.length + 1) 1 [] 0 ts
def ngP (p : Str × Int) : Str × Int := (p.1, -p.2)
noncomputable def linM (ps : Prs) (c : Int) (ts : List Tk) : Rs (Prs × Int) := if linOk ps c then .ok (lin ps, c) ts else .over "term"
noncomputable def minusM (a b : Prs × Int) (ts : List Tk) : Rs (Prs × Int) := linM (a.1 ++ b.1.map ngP) (a.2 - b.2) ts
def CMPD : List (List Nat) := ["=", "!=", "<", "<=", ">", ">="].map cs
noncomputable def comparedM (a : Prs × Int) (s : List Nat) (b : Prs × Int) (ts : List Tk) : Rs Fm :=
  if s = cs "=" then (minusM a b ts).bind fun d ts => .ok (.cmp true d.1 d.2) ts
  else if s = cs "!=" then (minusM a b ts).bind fun d ts => .ok (.not (.cmp true d.1 d.2)) ts
  else (if s = cs "<" ∨ s = cs "<=" then minusM a b ts else minusM b a ts).bind fun d ts =>
    if s = cs "<" ∨ s = cs ">" then (linM d.1 (d.2 + 1) ts).bind fun d ts => .ok (.cmp false d.1 d.2) ts else .ok (.cmp false d.1 d.2) ts
noncomputable def cmpM (len : Nat) (ts : List Tk) : Rs Fm :=
  (sumM len ts).bind fun a ts1 => (takeSign len ts1).bind fun s ts2 => if s ∉ CMPD then .mal (spotM len ts1) else
    (sumM len ts2).bind fun b ts3 => (linM a.1 a.2 ts3).bind fun a2 ts3 => (linM b.1 b.2 ts3).bind fun b2 ts3 => comparedM a2 s b2 ts3
def outputM (len : Nat) (ts : List Tk) : Rs Nat := (takeNum len ts).bind fun n ts2 => if 9 < n then .mal (spotM len ts) else .ok n ts2
def wordM (len : Nat) (ts : List Tk) : Rs Fm :=
  (takeWord len ts).bind fun w ts => (skipM len (cs "[") ts).bind fun _ ts => (takeName len ts).bind fun z ts => (skipM len (cs "]") ts).bind fun _ ts =>
    if seesM (cs "!=") ts then (outputM len ts.tail).bind fun n ts => .ok (.not (.word w z n)) ts
    else (skipM len (cs "=") ts).bind fun _ ts => (outputM len ts).bind fun n ts => .ok (.word w z n) ts
def callM (len : Nat) (ts : List Tk) : Rs Fm :=
  (takeName len ts).bind fun g ts => (skipM len (cs "(") ts).bind fun _ ts => (namesM len ts).bind fun zs ts => (skipM len (cs ")") ts).bind fun _ ts => .ok (.call g zs) ts
def powM (len : Nat) (ts : List Tk) : Rs Fm :=
  (skipM len (cs "pow") ts).bind fun _ ts => (skipM len (cs "(") ts).bind fun _ ts => (takeName len ts).bind fun z ts => (skipM len (cs ")") ts).bind fun _ ts => .ok (.pow z) ts
def loopM (s : List Nat) (k : Fin 4) (u : List Tk → Rs Fm) : Nat → Fm → List Tk → Rs Fm
  | 0, _, _ => .out
  | m + 1, f, ts => if seesM s ts then (u ts.tail).bind fun g ts2 => loopM s k u m (.bin k f g) ts2 else .ok f ts
def bothM (u : List Tk → Rs Fm) (ts : List Tk) : Rs Fm := (u ts).bind fun f ts2 => loopM (cs "&") 0 u (ts2.length + 1) f ts2
def eitherM (u : List Tk → Rs Fm) (ts : List Tk) : Rs Fm := (bothM u ts).bind fun f ts2 => loopM (cs "|") 1 (bothM u) (ts2.length + 1) f ts2
def impM (u : List Tk → Rs Fm) (ts : List Tk) : Rs Fm := (eitherM u ts).bind fun f ts2 => if seesM (cs "=>") ts2 then (eitherM u ts2.tail).bind fun g ts3 => .ok (.bin 2 f g) ts3 else .ok f ts2
def formM (u : List Tk → Rs Fm) (ts : List Tk) : Rs Fm := (impM u ts).bind fun f ts2 => if seesM (cs "<=>") ts2 then (impM u ts2.tail).bind fun g ts3 => .ok (.bin 3 f g) ts3 else .ok f ts2
def quantM (len : Nat) (u : List Tk → Rs Fm) (ts : List Tk) : Rs Fm :=
  (takeRes len ts).bind fun q ts => (namesM len ts).bind fun zs ts => (skipM len (cs ":") ts).bind fun _ ts => (formM u ts).bind fun f ts =>
    if q = cs "some" then .ok (zs.foldr (fun z f => .qf true z f) f) ts else if q = cs "all" then .ok (zs.foldr (fun z f => .qf false z f) f) ts else .out
/-- a unit at level 31 - n -/
noncomputable def unitM (len : Nat) : Nat → List Tk → Rs Fm
  | 0, _ => .over "depth"
  | n + 1, ts => if seesM (cs "~") ts then (unitM len n ts.tail).bind fun f ts => .ok (.not f) ts
    else if seesM (cs "(") ts then (formM (unitM len n) ts.tail).bind fun f ts => (skipM len (cs ")") ts).bind fun _ ts => .ok f ts
    else if seesM (cs "some") ts || seesM (cs "all") ts then quantM len (unitM len n) ts
    else if seesM (cs "pow") ts then powM len ts
    else if isWord ts then wordM len ts
    else if isName ts && seesM (cs "(") ts.tail then callM len ts
    else cmpM len ts
end Dw

namespace Dw
open PySem PySem.Spec PyProof.Rows L2 SX
/-- e.f op= value, the fragment named -/
def tFa (K : PySem.W.Frag) (ta tv : TE) (rd : V → V → Hp → VK → Prop) (f : Str) : TS := sFldAug K ta tv rd f
theorem tFa_eq (K : PySem.W.Frag) (ta tv : TE) (rd : V → V → Hp → VK → Prop) (f : Str) (D : Ends) (σ : L2.St) (H : Hp) : tFa K ta tv rd f D σ H = ta σ H fun x H1 => ∃ a C dx fs v, x = .ref a ∧ H1 a = some (.ins C dx fs) ∧ Cls K C ∧ NoAttr K C f ∧ fs.lookup f = some v ∧
  tv σ H1 fun y H2 => rd v y H2 fun z H3 => ∃ dx' fs', H3 a = some (.ins C dx' fs') ∧ fs'.length < 1000 ∧ D.nx σ (upd H3 a (.ins C dx' (putF f z fs'))) := rfl
theorem ps_faK {X : Cx} (K : PySem.W.Frag) {o value : Expr} {f : Str} {pos tpos : Pos} {ta tv : TE} {op : Operator} {rd : V → V → Hp → VK → Prop} (ha : PE X o ta) (hv : PE X value tv) (hop : InOp X op rd) (h : X.K = K := by rfl) :
    PS X (.AugAssign (.Attribute o f tpos) op value pos) (tFa K ta tv rd f) := h ▸ ps_fldaug ha hv hop
def kindM (k : List Nat) : List Tk → Bool
  | [] => false
  | t :: _ => decide (t.x.kind = k)
/-- items as tokens -/
def tvI (x : Itm) : Tv :=
  if x.k = cs "reserved" then .res x.l else if x.k = cs "name" then .name x.l else if x.k = cs "word" then .word x.l else if x.k = cs "number" then .num (match x.v with | .int n => n.toNat | _ => 0) else .sign x.l
theorem kindD : cs "name" ≠ cs "reserved" ∧ (cs "word" ≠ cs "reserved" ∧ cs "word" ≠ cs "name") ∧ (cs "number" ≠ cs "reserved" ∧ cs "number" ≠ cs "name" ∧ cs "number" ≠ cs "word") ∧ (cs "sign" ≠ cs "reserved" ∧ cs "sign" ≠ cs "name" ∧ cs "sign" ≠ cs "word" ∧ cs "sign" ≠ cs "number") := by decide +kernel
theorem tvI_piece {l k : List Nat} {v : V} {sp : List Nat} (h : Piece l k v) : (tvI ⟨l, sp, k, v⟩).kind = k ∧ (tvI ⟨l, sp, k, v⟩).val = v := by
  have d := kindD
  cases h with
  | res h => simp [tvI, Tv.kind, Tv.val]
  | name h => simp [tvI, Tv.kind, Tv.val, d.1]
  | word h => simp [tvI, Tv.kind, Tv.val, d.2.1]
  | num n h => simp [tvI, Tv.kind, Tv.val, d.2.2.1]
  | sign h => simp [tvI, Tv.kind, Tv.val, d.2.2.2]
def tks : Nat → List Itm → List Tk
  | _, [] => []
  | n, x :: r => ⟨tvI x, n⟩ :: tks (n + x.l.length + x.sp.length) r
theorem tks_len : ∀ (n : Nat) (is : List Itm), (tks n is).length = is.length
  | _, [] => rfl
  | n, x :: r => congrArg (· + 1) (tks_len _ r)
theorem tks_at {H : Hp} : ∀ {n : Nat} {is : List Itm} {as : List Addr}, Goods is → Toks H n is as → TkAt H as (tks n is)
  | _, [], [], _, _ => trivial
  | n, x :: r, a :: as, ⟨g1, _, _, g2⟩, ⟨h1, h2⟩ => by
    refine ⟨?_, tks_at g2 h2⟩
    obtain ⟨e1, e2⟩ := tvI_piece (sp := x.sp) g1
    show H a = some (.tup [.str (S (tvI x).kind), (tvI x).val, .int (n : Nat)])
    rw [show (tvI x).kind = x.k from e1, show (tvI x).val = x.v from e2]
    exact h1
  | _, [], _ :: _, _, h => h.elim
  | _, _ :: _, [], _, h => h.elim
theorem drop_cons {T : List Tk} {i : Nat} {t : Tk} {r : List Tk} (h : T.drop i = t :: r) : T[i]? = some t ∧ T.drop (i + 1) = r ∧ i < T.length := by
  have hi : i < T.length := by
    have := congrArg List.length h
    rw [List.length_drop, List.length_cons] at this
    omega
  rw [List.drop_eq_getElem_cons hi] at h
  injection h with h1 h2
  exact ⟨by rw [List.getElem?_eq_getElem hi, h1], h2, hi⟩
theorem drop_nil {T : List Tk} {i : Nat} (h : T.drop i = []) : T.length ≤ i := by
  have := congrArg List.length h
  rw [List.length_drop] at this
  exact Nat.le_of_sub_eq_zero this
theorem RdAt.made {CR : Addr} {H : Hp} {r dx F : Addr} {len : Nat} {as : List Addr} {T : List Tk} (h1 : H r = some (.ins CR dx (rflds F len 0))) (h2 : H F = some (.lst (as.map V.ref))) (h3 : TkAt H as T) (h4 : T.length ≤ 5000) : RdAt CR F H r len T :=
  ⟨dx, as, T, 0, h1, h2, h3, rfl, Nat.zero_le _, h4⟩
theorem kind_name (ts : List Tk) : kindM (cs "name") ts = isName ts := by
  have d := kindD
  match ts with
  | [] => rfl
  | ⟨.name z, n⟩ :: rr => simp [kindM, isName, Tv.kind]
  | ⟨.res z, n⟩ :: rr => simp [kindM, isName, Tv.kind, d.1.symm]
  | ⟨.word z, n⟩ :: rr => simp [kindM, isName, Tv.kind, d.2.1]
  | ⟨.num z, n⟩ :: rr => simp [kindM, isName, Tv.kind, d.2.2.1]
  | ⟨.sign z, n⟩ :: rr => simp [kindM, isName, Tv.kind, d.2.2.2]
theorem kind_word (ts : List Tk) : kindM (cs "word") ts = isWord ts := by
  have d := kindD
  match ts with
  | [] => rfl
  | ⟨.word z, n⟩ :: rr => simp [kindM, isWord, Tv.kind]
  | ⟨.res z, n⟩ :: rr => simp [kindM, isWord, Tv.kind, d.2.1.1.symm]
  | ⟨.name z, n⟩ :: rr => simp [kindM, isWord, Tv.kind, d.2.1.2.symm]
  | ⟨.num z, n⟩ :: rr => simp [kindM, isWord, Tv.kind, d.2.2.1]
  | ⟨.sign z, n⟩ :: rr => simp [kindM, isWord, Tv.kind, d.2.2.2]
end Dw

namespace Dw
open PySem PySem.Spec PyProof.Rows L2 SX
/-! what a reading def must do -/
def RRes {α : Type} (CR CM CO F : Addr) (r : Addr) (len : Nat) (H : Hp) (Q : VK) (E : XK) (At : Hp → V → α → Prop) : Rs α → Prop
  | .ok a ts => ∀ v H', But r H H' → RdAt CR F H' r len ts → At H' v a → Q v H'
  | .mal n => ∀ H', But r H H' → Rz CM "at" (.int (n : Nat)) H' E
  | .over w => ∀ H', But r H H' → Rz CO "limit" (.str (S (cs w))) H' E
  | .out => False
section
variable {α β : Type} {CR CM CO F r : Addr} {len : Nat} {H H' : Hp} {Q Q1 : VK} {E : XK} {At : Hp → V → α → Prop} {At1 : Hp → V → β → Prop}
theorem RRes.but {m : Rs α} (h : RRes CR CM CO F r len H Q E At m) (b : But r H H') : RRes CR CM CO F r len H' Q E At m := by
  cases m with
  | ok a ts => exact fun v H2 b2 => h v H2 (b.trans b2)
  | mal n => exact fun H2 b2 => h H2 (b.trans b2)
  | over w => exact fun H2 b2 => h H2 (b.trans b2)
  | out => exact h
theorem RRes.bindI {m : Rs β} {k : β → List Tk → Rs α} (h : RRes CR CM CO F r len H Q E At (m.bind k)) (q : ∀ a ts v H', m = .ok a ts → But r H H' → RdAt CR F H' r len ts → At1 H' v a → RRes CR CM CO F r len H' Q E At (k a ts) → Q1 v H') : RRes CR CM CO F r len H Q1 E At1 m := by
  cases m with
  | ok a ts => exact fun v H2 b2 h2 ha => q a ts v H2 rfl b2 h2 ha (RRes.but (m := k a ts) h b2)
  | mal n => exact h
  | over w => exact h
  | out => exact h
/-- taken tokens -/
theorem take_name {ts : List Tk} (h : RRes CR CM CO F r len H Q E (fun _ v (z : List Nat) => v = .str (S z)) (takeName len ts)) :
    (∀ t rr, ts = t :: rr → t.x.kind = cs "name" → ∀ H', But r H H' → RdAt CR F H' r len rr → Q t.x.val H') ∧ (kindM (cs "name") ts = false → Rz CM "at" (.int (spotM len ts : Nat)) H E) := by
  have d := kindD
  constructor
  · rintro ⟨x, n⟩ rr rfl hk H2 b2 hr2
    cases x with
    | name z => exact h _ _ b2 hr2 rfl
    | res z => exact absurd hk d.1.symm
    | word z => exact absurd hk d.2.1.2
    | num z => exact absurd hk d.2.2.1.2.1
    | sign z => exact absurd hk d.2.2.2.2.1
  · intro hk
    match ts, h, hk with
    | [], h, _ => exact h _ (But.refl _ _)
    | ⟨.name z, n⟩ :: rr, _, hk => simp [kindM, Tv.kind] at hk
    | ⟨.res z, n⟩ :: rr, h, _ => exact h _ (But.refl _ _)
    | ⟨.word z, n⟩ :: rr, h, _ => exact h _ (But.refl _ _)
    | ⟨.num z, n⟩ :: rr, h, _ => exact h _ (But.refl _ _)
    | ⟨.sign z, n⟩ :: rr, h, _ => exact h _ (But.refl _ _)
theorem take_word {ts : List Tk} (h : RRes CR CM CO F r len H Q E (fun _ v (z : List Nat) => v = .str (S z)) (takeWord len ts)) :
    (∀ t rr, ts = t :: rr → t.x.kind = cs "word" → ∀ H', But r H H' → RdAt CR F H' r len rr → Q t.x.val H') ∧ (kindM (cs "word") ts = false → Rz CM "at" (.int (spotM len ts : Nat)) H E) := by
  have d := kindD
  constructor
  · rintro ⟨x, n⟩ rr rfl hk H2 b2 hr2
    cases x with
    | word z => exact h _ _ b2 hr2 rfl
    | res z => exact absurd hk d.2.1.1.symm
    | name z => exact absurd hk d.2.1.2.symm
    | num z => exact absurd hk d.2.2.1.2.2
    | sign z => exact absurd hk d.2.2.2.2.2.1
  · intro hk
    match ts, h, hk with
    | [], h, _ => exact h _ (But.refl _ _)
    | ⟨.word z, n⟩ :: rr, _, hk => simp [kindM, Tv.kind] at hk
    | ⟨.res z, n⟩ :: rr, h, _ => exact h _ (But.refl _ _)
    | ⟨.name z, n⟩ :: rr, h, _ => exact h _ (But.refl _ _)
    | ⟨.num z, n⟩ :: rr, h, _ => exact h _ (But.refl _ _)
    | ⟨.sign z, n⟩ :: rr, h, _ => exact h _ (But.refl _ _)
theorem take_res {ts : List Tk} (h : RRes CR CM CO F r len H Q E (fun _ v (z : List Nat) => v = .str (S z)) (takeRes len ts)) :
    (∀ t rr, ts = t :: rr → t.x.kind = cs "reserved" → ∀ H', But r H H' → RdAt CR F H' r len rr → Q t.x.val H') ∧ (kindM (cs "reserved") ts = false → Rz CM "at" (.int (spotM len ts : Nat)) H E) := by
  have d := kindD
  constructor
  · rintro ⟨x, n⟩ rr rfl hk H2 b2 hr2
    cases x with
    | res z => exact h _ _ b2 hr2 rfl
    | word z => exact absurd hk d.2.1.1
    | name z => exact absurd hk d.1
    | num z => exact absurd hk d.2.2.1.1
    | sign z => exact absurd hk d.2.2.2.1
  · intro hk
    match ts, h, hk with
    | [], h, _ => exact h _ (But.refl _ _)
    | ⟨.res z, n⟩ :: rr, _, hk => simp [kindM, Tv.kind] at hk
    | ⟨.word z, n⟩ :: rr, h, _ => exact h _ (But.refl _ _)
    | ⟨.name z, n⟩ :: rr, h, _ => exact h _ (But.refl _ _)
    | ⟨.num z, n⟩ :: rr, h, _ => exact h _ (But.refl _ _)
    | ⟨.sign z, n⟩ :: rr, h, _ => exact h _ (But.refl _ _)
theorem take_sign {ts : List Tk} (h : RRes CR CM CO F r len H Q E (fun _ v (z : List Nat) => v = .str (S z)) (takeSign len ts)) :
    (∀ t rr, ts = t :: rr → t.x.kind = cs "sign" → ∀ H', But r H H' → RdAt CR F H' r len rr → Q t.x.val H') ∧ (kindM (cs "sign") ts = false → Rz CM "at" (.int (spotM len ts : Nat)) H E) := by
  have d := kindD
  constructor
  · rintro ⟨x, n⟩ rr rfl hk H2 b2 hr2
    cases x with
    | sign z => exact h _ _ b2 hr2 rfl
    | word z => exact absurd hk d.2.2.2.2.2.1.symm
    | name z => exact absurd hk d.2.2.2.2.1.symm
    | num z => exact absurd hk d.2.2.2.2.2.2.symm
    | res z => exact absurd hk d.2.2.2.1.symm
  · intro hk
    match ts, h, hk with
    | [], h, _ => exact h _ (But.refl _ _)
    | ⟨.sign z, n⟩ :: rr, _, hk => simp [kindM, Tv.kind] at hk
    | ⟨.word z, n⟩ :: rr, h, _ => exact h _ (But.refl _ _)
    | ⟨.name z, n⟩ :: rr, h, _ => exact h _ (But.refl _ _)
    | ⟨.num z, n⟩ :: rr, h, _ => exact h _ (But.refl _ _)
    | ⟨.res z, n⟩ :: rr, h, _ => exact h _ (But.refl _ _)
theorem take_num {ts : List Tk} (h : RRes CR CM CO F r len H Q E (fun _ v (n : Nat) => v = .int (n : Nat)) (takeNum len ts)) :
    (∀ t rr, ts = t :: rr → t.x.kind = cs "number" → ∀ H', But r H H' → RdAt CR F H' r len rr → Q t.x.val H') ∧ (kindM (cs "number") ts = false → Rz CM "at" (.int (spotM len ts : Nat)) H E) := by
  have d := kindD
  constructor
  · rintro ⟨x, n⟩ rr rfl hk H2 b2 hr2
    cases x with
    | num z => exact h _ _ b2 hr2 rfl
    | word z => exact absurd hk d.2.2.1.2.2.symm
    | name z => exact absurd hk d.2.2.1.2.1.symm
    | sign z => exact absurd hk d.2.2.2.2.2.2
    | res z => exact absurd hk d.2.2.1.1.symm
  · intro hk
    match ts, h, hk with
    | [], h, _ => exact h _ (But.refl _ _)
    | ⟨.num z, n⟩ :: rr, _, hk => simp [kindM, Tv.kind] at hk
    | ⟨.word z, n⟩ :: rr, h, _ => exact h _ (But.refl _ _)
    | ⟨.name z, n⟩ :: rr, h, _ => exact h _ (But.refl _ _)
    | ⟨.sign z, n⟩ :: rr, h, _ => exact h _ (But.refl _ _)
    | ⟨.res z, n⟩ :: rr, h, _ => exact h _ (But.refl _ _)
theorem skip_of {ts : List Tk} {l : List Nat} (h : RRes CR CM CO F r len H Q E (fun _ v (_ : Unit) => v = .non) (skipM len l ts)) :
    (seesM l ts = true → ∀ H', But r H H' → RdAt CR F H' r len ts.tail → Q .non H') ∧ (seesM l ts = false → Rz CM "at" (.int (spotM len ts : Nat)) H E) := by
  unfold skipM at h
  constructor
  · intro e H2 b2 hr2
    rw [e, if_pos rfl] at h
    exact h _ _ b2 hr2 rfl
  · intro e
    rw [e, if_neg (by decide)] at h
    exact h _ (But.refl _ _)
end
def noF (m : String) : Bool := decide (¬ Str.ofString m = "found") && decide (¬ Str.ofString m = "length") && decide (¬ Str.ofString m = "place")
theorem rm {CR F : Addr} {H : Hp} {r : Addr} {len : Nat} {ts : List Tk} (h : RdAt CR F H r len ts) (m : String) (n : noF m = true) {R : Prop} (q : R) : ∃ dx fs, H r = some (.ins CR dx fs) ∧ fs.lookup (S (cs m)) = none ∧ R := by
  obtain ⟨dx, as, T, i, h1, _⟩ := h.ex
  unfold noF at n
  simp only [Bool.and_eq_true, decide_eq_true_eq] at n
  exact ⟨dx, _, h1, by rw [← ofStr_S]; exact rf_no _ _ _ n.1.1 n.1.2 n.2, q⟩
def AtF (H : Hp) (v : V) (f : Fm) : Prop := ∃ t, v = .ref t ∧ FmAt H t f
def AtNs (H : Hp) (v : V) (zs : List (List Nat)) : Prop := ∃ l, v = .ref l ∧ H l = some (.lst (zs.map vS))
def AtP (H : Hp) (v : V) (x : Option (List Nat) × Nat) : Prop := ∃ p, v = .ref p ∧ H p = some (.tup [match x.1 with | none => .non | some z => .str (S z), .int (x.2 : Nat)])
def AtSm (H : Hp) (v : V) (x : Prs × Int) : Prop := ∃ p l as, v = .ref p ∧ H p = some (.tup [.ref l, .int x.2]) ∧ H l = some (.lst (as.map V.ref)) ∧ PrsAt H as x.1 ∧ x.1.length ≤ 15
end Dw

namespace Dw
open PySem PySem.Spec PyProof.Rows L2 SX
noncomputable def parseM (len : Nat) (ts : List Tk) : Rs Fm := (formM (unitM len 30) ts).bind fun f ts2 => if ts2.isEmpty = false then .mal (spotM len ts2) else if 1000 < szN f then .out else if szN f ≤ 200 ∧ dpN f ≤ 30 then .ok f [] else .over "nodes"
def PRes (CM CO : Addr) (H : Hp) (Q : VK) (E : XK) : Rs Fm → Prop
  | .ok f _ => ∀ t H', Same H H' → FmAt H' t f → Q (.ref t) H'
  | .mal n => Rz CM "at" (.int (n : Nat)) H E
  | .over w => Rz CO "limit" (.str (S (cs w))) H E
  | .out => False
end Dw

namespace Dw
open PySem PySem.Spec PyProof.Rows L2 SX
/-! formulas spelled as tokens -/
def sg (s : String) : Tv := .sign (cs s)
def rsv (s : String) : Tv := .res (cs s)
def Tv.txt : Tv → List Nat
  | .res l => l
  | .name l => l
  | .word l => l
  | .num n => Dw.num n
  | .sign l => l
def Tv.Ok : Tv → Prop
  | .res l => l ∈ RES
  | .name l => GName l
  | .word l => GWord l
  | .num n => n < 256
  | .sign l => l ∈ SGN
theorem Tv.piece : ∀ {x : Tv}, x.Ok → Piece x.txt x.kind x.val
  | .res _, h => .res h
  | .name _, h => .name h
  | .word _, h => .word h
  | .num n, h => .num n h
  | .sign _, h => .sign h
def txV (x : Tv) : V := vS x.txt
def pS (q : List Nat × Int) : Str × Int := (S q.1, q.2)
def ngQ (q : List Nat × Int) : List Nat × Int := (q.1, 0 - q.2)
def sgnT (n : Int) : Tv := if n < 0 then sg "-" else sg "+"
def sideB (q : List Nat × Int) : List Tv := sgnT q.2 :: (if q.2.natAbs = 1 then [.name q.1] else [.num q.2.natAbs, sg "*", .name q.1])
def sideA (qs : List (List Nat × Int)) (c : Int) : List Tv := qs.flatMap sideB ++ (if c ≠ 0 ∨ qs = [] then [sgnT c, .num c.natAbs] else [])
def dropP : List Tv → List Tv
  | x :: r => if x = sg "+" then r else x :: r
  | [] => []
def sideL (qs : List (List Nat × Int)) (c : Int) : List Tv := dropP (sideA qs c)
def CmpS (qs : List (List Nat × Int)) (c : Int) (s : String) (xs : List Tv) : Prop :=
  ∃ (l r : List (List Nat × Int)) (cl cr : Int), (l ++ r.map ngQ).Perm qs ∧ cl - cr = c ∧ (cr = 0 ∨ cl = 0) ∧ xs = sideL l cl ++ sg s :: sideL r cr
def namesJ : List (List Nat) → List Tv
  | [] => []
  | z :: r => .name z :: r.flatMap fun z => [sg ",", .name z]
/-- the names of these pairs are these texts -/
inductive AtomS : Fm → List Tv → Prop
  | pow (z : List Nat) : AtomS (.pow z) [rsv "pow", sg "(", .name z, sg ")"]
  | word (w z : List Nat) (o : Nat) : AtomS (.word w z (o : Nat)) [.word w, sg "[", .name z, sg "]", sg "=", .num o]
  | call (g : List Nat) (zs : List (List Nat)) : AtomS (.call g zs) (.name g :: sg "(" :: (namesJ zs ++ [sg ")"]))
  | eq {qs : List (List Nat × Int)} {c : Int} {xs : List Tv} (h : CmpS qs c "=" xs) : AtomS (.cmp true (qs.map pS) c) xs
  | le {qs : List (List Nat × Int)} {c : Int} {xs : List Tv} (h : CmpS qs c "<=" xs) : AtomS (.cmp false (qs.map pS) c) xs
  | lt {qs : List (List Nat × Int)} {c : Int} {xs : List Tv} (h : CmpS qs (c - 1) "<" xs) : AtomS (.cmp false (qs.map pS) c) xs
  | ge {qs : List (List Nat × Int)} {c : Int} {xs : List Tv} (h : CmpS (qs.map ngQ) (0 - c) ">=" xs) : AtomS (.cmp false (qs.map pS) c) xs
  | gt {qs : List (List Nat × Int)} {c : Int} {xs : List Tv} (h : CmpS (qs.map ngQ) (1 - c) ">" xs) : AtomS (.cmp false (qs.map pS) c) xs
def ownB (k : Fin 4) : Nat := 3 - k.val
def leftB (k : Fin 4) : Nat := ownB k + if ownB k < 2 then 1 else 0
def binSg (k : Fin 4) : Tv := match k with
  | 0 => sg "&"
  | 1 => sg "|"
  | 2 => sg "=>"
  | 3 => sg "<=>"
inductive Spl : Fm → Nat → Bool → List Tv → Prop
  | binP {k : Fin 4} {a b : Fm} {L : Nat} {t : Bool} {xs : List Tv} (hL : ownB k < L) (h : Spl (.bin k a b) 0 true xs) : Spl (.bin k a b) L t (sg "(" :: (xs ++ [sg ")"]))
  | bin {k : Fin 4} {a b : Fm} {L : Nat} {t : Bool} {xs ys : List Tv} (hL : L ≤ ownB k) (h1 : Spl a (leftB k) false xs) (h2 : Spl b (ownB k + 1) t ys) : Spl (.bin k a b) L t (xs ++ binSg k :: ys)
  | qfP {k : Bool} {z : List Nat} {a : Fm} {L : Nat} {xs : List Tv} (h : Spl (.qf k z a) 0 true xs) : Spl (.qf k z a) L false (sg "(" :: (xs ++ [sg ")"]))
  | qf {k : Bool} {z : List Nat} {zs : List (List Nat)} {a : Fm} {L : Nat} {xs : List Tv} (h : Spl a 0 true xs) : Spl ((z :: zs).foldr (fun z f => .qf k z f) a) L true (.res (kQf k) :: (namesJ (z :: zs) ++ sg ":" :: xs))
  | notE {qs : List (List Nat × Int)} {c : Int} {L : Nat} {t : Bool} {xs : List Tv} (h : CmpS qs c "!=" xs) : Spl (.not (.cmp true (qs.map pS) c)) L t xs
  | notW (w z : List Nat) (o : Nat) {L : Nat} {t : Bool} : Spl (.not (.word w z (o : Nat))) L t [.word w, sg "[", .name z, sg "]", sg "!=", .num o]
  | not {a : Fm} {L : Nat} {t : Bool} {xs : List Tv} (h : Spl a 4 t xs) : Spl (.not a) L t (sg "~" :: xs)
  | atomP {f : Fm} {L : Nat} {t : Bool} {xs : List Tv} (h : AtomS f xs) : Spl f L t (sg "(" :: (xs ++ [sg ")"]))
  | atom {f : Fm} {L : Nat} {t : Bool} {xs : List Tv} (h : AtomS f xs) : Spl f L t xs
/-- small terms and calls, as the laws draw them -/
def smT (ps : Prs) (c : Int) : Prop := ps.length ≤ 3 ∧ (∀ p ∈ ps, p.2.natAbs ≤ 64) ∧ c.natAbs ≤ 100
def Fm.Sm : Fm → Prop
  | .cmp _ ps c => smT ps c
  | .call _ zs => zs.length ≤ 3
  | .not a => a.Sm
  | .bin _ a b => a.Sm ∧ b.Sm
  | .qf _ _ a => a.Sm
  | _ => True
theorem good_qs : ∀ {ps : Prs}, Good ps → ∃ qs : List (List Nat × Int), ps = qs.map pS ∧ ∀ q ∈ qs, GName q.1
  | [], _ => ⟨[], rfl, fun _ h => nomatch h⟩
  | p :: ps, h => by
    obtain ⟨qs, e, h2⟩ := good_qs (ps := ps) fun q m => h q (List.mem_cons_of_mem _ m)
    obtain ⟨l, g, e2⟩ := h p List.mem_cons_self
    refine ⟨(l, p.2) :: qs, ?_, fun q hq => ?_⟩
    · rw [e, List.map_cons]
      show p :: _ = (S l, p.2) :: _
      rw [← e2]
    · rcases List.mem_cons.mp hq with h | h
      · rw [h]; exact g
      · exact h2 q h
end Dw

namespace Dw
open PySem PySem.Spec PyProof.Rows L2 SX
theorem nSc {a b : List Nat} (h : a ≠ b) : V.str (S a) ≠ V.str (S b) := fun e => h (S_inj (V.str.inj e))
theorem sgn_at (n : Int) : atI [V.str (S (cs "+")), V.str (S (cs "-"))] (if n < 0 then 1 else 0) = some (txV (sgnT n)) := by
  by_cases h : n < 0
  · rw [if_pos h]; unfold sgnT; rw [if_pos h]; exact atI_nat (j := 1) rfl
  · rw [if_neg h]; unfold sgnT; rw [if_neg h]; exact atI_nat (j := 0) rfl
theorem abs_nat (n : Int) : (if n < 0 then -n else n) = ((n.natAbs : Nat) : Int) := by
  by_cases h : n < 0
  · rw [if_pos h]; omega
  · rw [if_neg h]; omega
theorem log_ok {n : Int} (h : n.natAbs ≤ 255) : n.natAbs.log2 < 1920 := by
  have := Nat.log2_le_self n.natAbs
  omega
theorem txt_num (n : Nat) : V.str (S (cs (toString ((n : Nat) : Int)))) = txV (.num n) := rfl
theorem sideB_len (q : List Nat × Int) : (sideB q).length ≤ 4 := by
  unfold sideB
  by_cases h : q.2.natAbs = 1
  · rw [if_pos h]; simp
  · rw [if_neg h]; simp
theorem sidesB_len : ∀ qs : List (List Nat × Int), (qs.flatMap sideB).length ≤ 4 * qs.length
  | [] => by simp
  | q :: qs => by
    have := sidesB_len qs
    have := sideB_len q
    rw [List.flatMap_cons, List.length_append, List.length_cons]
    omega
theorem sideA_cons (qs : List (List Nat × Int)) (c : Int) : ∃ n r, sideA qs c = sgnT n :: r := by
  unfold sideA
  cases qs with
  | nil => exact ⟨c, _, by rw [if_pos (Or.inr rfl)]; rfl⟩
  | cons q qs => exact ⟨q.2, _, by rw [List.flatMap_cons]; rfl⟩
theorem sgn_iff (n : Int) : (txV (sgnT n) = V.str (S (cs "+"))) ↔ sgnT n = sg "+" := by
  unfold sgnT
  by_cases h : n < 0
  · rw [if_pos h]
    have h1 : cs "-" ≠ cs "+" := by decide
    constructor
    · intro e; exact absurd (S_inj (V.str.inj e)) h1
    · intro e; unfold sg at e; injection e with e; exact absurd e h1
  · rw [if_neg h]
    exact ⟨fun _ => rfl, fun _ => rfl⟩
theorem tru_len {xs : List V} (h : xs ≠ []) : (!xs.isEmpty) = true := by
  cases xs with
  | nil => exact absurd rfl h
  | cons x xs => rfl
end Dw
namespace Dw
open PySem PySem.Spec PyProof.Rows L2 SX
theorem sideA_len (qs : List (List Nat × Int)) (c : Int) : (sideA qs c).length ≤ 4 * qs.length + 2 := by
  unfold sideA
  have := sidesB_len qs
  rw [List.length_append]
  split
  · simp only [List.length_cons, List.length_nil]; omega
  · simp only [List.length_nil]; omega
theorem dropP_len : ∀ xs : List Tv, (dropP xs).length ≤ xs.length
  | [] => Nat.le_refl _
  | x :: r => by
    show (if x = sg "+" then r else x :: r).length ≤ _
    split
    · exact Nat.le_succ _
    · exact Nat.le_refl _
theorem sideL_len (qs : List (List Nat × Int)) (c : Int) : (sideL qs c).length ≤ 4 * qs.length + 2 := Nat.le_trans (dropP_len _) (sideA_len qs c)
theorem PrsAt.take_ {H : Hp} : ∀ {as : List Addr} {ps : Prs} (k : Nat), PrsAt H as ps → PrsAt H (as.take k) (ps.take k)
  | _, _, 0, _ => trivial
  | [], [], k + 1, _ => trivial
  | _ :: _, _ :: _, k + 1, ⟨h1, h2⟩ => ⟨h1, PrsAt.take_ k h2⟩
  | [], _ :: _, _ + 1, h => h.elim
  | _ :: _, [], _ + 1, h => h.elim
theorem PrsAt.drop_ {H : Hp} : ∀ {as : List Addr} {ps : Prs} (k : Nat), PrsAt H as ps → PrsAt H (as.drop k) (ps.drop k)
  | _, _, 0, h => h
  | [], [], k + 1, _ => trivial
  | _ :: _, _ :: _, k + 1, ⟨h1, h2⟩ => PrsAt.drop_ k h2
  | [], _ :: _, _ + 1, h => h.elim
  | _ :: _, [], _ + 1, h => h.elim
theorem PrsAt.ins {H : Hp} {as : List Addr} {ps : Prs} {a : Addr} {p : Str × Int} (k : Nat) (h : PrsAt H as ps) (e : H a = some (.tup [.str p.1, .int p.2])) : PrsAt H (as.take k ++ [a] ++ as.drop k) (ps.take k ++ [p] ++ ps.drop k) :=
  ((h.take_ k).snoc e).append (h.drop_ k)
theorem ngQ_ng (q : List Nat × Int) : ngQ (ngQ q) = q := by
  obtain ⟨z, n⟩ := q
  show (z, 0 - (0 - n)) = (z, n)
  rw [show 0 - (0 - n) = n by omega]
theorem cmp_left {l r : List (List Nat × Int)} {qs : List (List Nat × Int)} {q : List Nat × Int} (h : (l ++ r.map ngQ).Perm qs) : ((l ++ [q]) ++ r.map ngQ).Perm (qs ++ [q]) := by
  rw [List.append_assoc]
  refine (List.Perm.append_left l (List.perm_append_comm (l₁ := [q]) (l₂ := r.map ngQ))).trans ?_
  rw [← List.append_assoc]
  exact h.append_right [q]
theorem cmp_right {l r : List (List Nat × Int)} {qs : List (List Nat × Int)} {q : List Nat × Int} (k : Nat) (h : (l ++ r.map ngQ).Perm qs) : (l ++ (r.take k ++ [ngQ q] ++ r.drop k).map ngQ).Perm (qs ++ [q]) := by
  have e : (r.take k ++ [ngQ q] ++ r.drop k).Perm (r ++ [ngQ q]) := by
    have h1 : (r.take k ++ [ngQ q] ++ r.drop k).Perm (r.take k ++ (r.drop k ++ [ngQ q])) := by
      rw [List.append_assoc]
      exact List.Perm.append_left _ List.perm_append_comm
    rw [← List.append_assoc, List.take_append_drop] at h1
    exact h1
  have e2 := e.map ngQ
  rw [List.map_append (l₂ := [ngQ q])] at e2
  rw [show [ngQ q].map ngQ = [q] by simp [ngQ_ng]] at e2
  refine (List.Perm.append_left l e2).trans ?_
  rw [← List.append_assoc]
  exact h.append_right [q]
end Dw
namespace Dw
open PySem PySem.Spec PyProof.Rows L2 SX
theorem flatJ_len : ∀ r : List (List Nat), (r.flatMap fun z => [sg ",", Tv.name z]).length = 2 * r.length
  | [] => rfl
  | z :: r => by rw [List.flatMap_cons, List.length_append, flatJ_len r, List.length_cons]; simp only [List.length_cons, List.length_nil]; omega
theorem namesJ_len : ∀ zs : List (List Nat), (namesJ zs).length ≤ 2 * zs.length
  | [] => Nat.le_refl _
  | z :: r => by
    show (Tv.name z :: r.flatMap fun z => [sg ",", Tv.name z]).length ≤ _
    rw [List.length_cons, flatJ_len, List.length_cons]
    omega
theorem namesJ_pos : ∀ {zs : List (List Nat)}, zs ≠ [] → 0 < (namesJ zs).length
  | [], h => absurd rfl h
  | z :: r, _ => Nat.succ_pos _
theorem namesJ_snoc : ∀ {zs : List (List Nat)} {z : List Nat}, zs ≠ [] → namesJ (zs ++ [z]) = namesJ zs ++ [sg ",", .name z]
  | [], _, h => absurd rfl h
  | y :: r, z, _ => by
    show Tv.name y :: (r ++ [z]).flatMap (fun z => [sg ",", Tv.name z]) = Tv.name y :: r.flatMap (fun z => [sg ",", Tv.name z]) ++ _
    rw [List.flatMap_append, List.cons_append]
    rfl
end Dw

namespace Dw
open PySem PySem.Spec PyProof.Rows L2 SX
theorem cmp_len {qs : List (List Nat × Int)} {c : Int} {s : String} {xs : List Tv} (h : CmpS qs c s xs) (hq : qs.length ≤ 3) : xs.length ≤ 17 := by
  obtain ⟨l, r, cl, cr, hp, _, _, rfl⟩ := h
  have h1 := hp.length_eq
  have h2 := sideL_len l cl
  have h3 := sideL_len r cr
  rw [List.length_append, List.length_map] at h1
  rw [List.length_append, List.length_cons]
  omega
theorem atom_len {f : Fm} {xs : List Tv} (h : AtomS f xs) (hs : f.Sm) : xs.length ≤ 17 ∧ szN f = 1 := by
  cases h with
  | pow z => exact ⟨by simp, rfl⟩
  | word w z o => exact ⟨by simp, rfl⟩
  | call g zs =>
    have h3 : zs.length ≤ 3 := hs
    have := namesJ_len zs
    refine ⟨?_, rfl⟩
    rw [List.length_cons, List.length_cons, List.length_append, List.length_singleton]
    omega
  | eq h => exact ⟨cmp_len h (by have := hs.1; rw [List.length_map] at this; exact this), rfl⟩
  | le h => exact ⟨cmp_len h (by have := hs.1; rw [List.length_map] at this; exact this), rfl⟩
  | lt h => exact ⟨cmp_len h (by have := hs.1; rw [List.length_map] at this; exact this), rfl⟩
  | ge h => exact ⟨cmp_len h (by have := hs.1; rw [List.length_map] at this ⊢; exact this), rfl⟩
  | gt h => exact ⟨cmp_len h (by have := hs.1; rw [List.length_map] at this ⊢; exact this), rfl⟩
theorem qf_sz (k : Bool) (a : Fm) : ∀ zs : List (List Nat), szN (zs.foldr (fun z f => .qf k z f) a) = zs.length + szN a
  | [] => by simp
  | z :: zs => by
    show szN (zs.foldr (fun z f => .qf k z f) a) + 1 = _
    rw [qf_sz k a zs, List.length_cons]
    omega
theorem qf_sm (k : Bool) (a : Fm) : ∀ zs : List (List Nat), (zs.foldr (fun z f => .qf k z f) a).Sm → a.Sm
  | [], h => h
  | z :: zs, h => qf_sm k a zs h
theorem spl_len {f : Fm} {L : Nat} {t : Bool} {xs : List Tv} (h : Spl f L t xs) : f.Sm → xs.length + (if L = 0 ∧ t = true then 2 else 0) ≤ 24 * szN f := by
  induction h with
  | binP hL h ih =>
    intro hs
    have := ih hs
    rw [if_pos ⟨rfl, rfl⟩] at this
    rw [if_neg (fun z => by omega), List.length_cons, List.length_append, List.length_singleton]
    omega
  | bin hL h1 h2 i1 i2 =>
    intro hs
    have h3 := i1 hs.1
    have h4 := i2 hs.2
    rename_i k a b L t xs ys
    show _ ≤ 24 * (szN a + szN b + 1)
    rw [List.length_append, List.length_cons]
    split <;> omega
  | qfP h ih =>
    intro hs
    have := ih hs
    rw [if_pos ⟨rfl, rfl⟩] at this
    rw [if_neg (fun z => by cases z.2), List.length_cons, List.length_append, List.length_singleton]
    omega
  | qf h ih =>
    intro hs
    rename_i k z zs a L xs
    have := ih (qf_sm k a _ hs)
    rw [if_pos ⟨rfl, rfl⟩] at this
    have h2 := namesJ_len (z :: zs)
    rw [qf_sz, List.length_cons, List.length_append, List.length_cons, List.length_cons] at *
    split <;> omega
  | notE h =>
    intro hs
    rename_i qs c L t xs
    have := cmp_len h (by have := hs.1; rw [List.length_map] at this; exact this)
    show _ ≤ 24 * (1 + 1)
    split <;> omega
  | notW w z o =>
    intro hs
    show _ ≤ 24 * (1 + 1)
    simp only [List.length_cons, List.length_nil]
    split <;> omega
  | not h ih =>
    intro hs
    rename_i a L t xs
    have := ih hs
    show _ ≤ 24 * (szN a + 1)
    rw [List.length_cons]
    split <;> omega
  | atomP h =>
    intro hs
    obtain ⟨h1, h2⟩ := atom_len h hs
    rw [h2, List.length_cons, List.length_append, List.length_singleton]
    split <;> omega
  | atom h =>
    intro hs
    obtain ⟨h1, h2⟩ := atom_len h hs
    rw [h2]
    split <;> omega
end Dw
namespace Dw
open PySem PySem.Spec PyProof.Rows L2 SX
def lvK : List (Key × V) := [(Sum.inr (S (cs "iff")), .int 0), (Sum.inr (S (cs "imp")), .int 1), (Sum.inr (S (cs "or")), .int 2), (Sum.inr (S (cs "and")), .int 3)]
theorem lv_bin : ∀ k : Fin 4, valV (mergeK [] lvK) (Sum.inr (S (kBin k))) = some (.int ((ownB k : Nat) : Int)) := by decide +kernel
theorem lv_no : ∀ s ∈ ["pow", "word", "call", "not", "eq", "le", "some", "all"], valV (mergeK [] lvK) (Sum.inr (S (cs s))) = none := by decide +kernel
theorem left_own (k : Fin 4) : ((ownB k : Nat) : Int) + (if ((ownB k : Nat) : Int) < 2 then 1 else 0) = ((leftB k : Nat) : Int) := by
  unfold leftB
  split <;> split <;> omega
theorem sign_at : ∀ k : Fin 4, atI [V.str (S (cs "<=>")), V.str (S (cs "=>")), V.str (S (cs "|")), V.str (S (cs "&"))] ((ownB k : Nat) : Int) = some (txV (binSg k))
  | 0 => atI_nat (j := 3) rfl
  | 1 => atI_nat (j := 2) rfl
  | 2 => atI_nat (j := 1) rfl
  | 3 => atI_nat (j := 0) rfl
theorem own_le (k : Fin 4) : ownB k ≤ 3 ∧ leftB k ≤ 4 := by
  have h : ownB k ≤ 3 := Nat.sub_le _ _
  refine ⟨h, ?_⟩
  unfold leftB
  split <;> omega
theorem szN_lt {a b : Fm} {k : Fin 4} : szN a < szN (.bin k a b) ∧ szN b < szN (.bin k a b) := by
  show szN a < szN a + szN b + 1 ∧ szN b < szN a + szN b + 1
  omega
end Dw
namespace Dw
open PySem PySem.Spec PyProof.Rows L2 SX
theorem qf_dep (k : Bool) (a : Fm) : ∀ zs : List (List Nat), (zs.foldr (fun z f => Fm.qf k z f) a).dep = zs.length + a.dep
  | [] => by simp
  | z :: zs => by
    show (zs.foldr (fun z f => .qf k z f) a).dep + 1 = _
    rw [qf_dep k a zs, List.length_cons]
    omega
theorem qf_good (k : Bool) (a : Fm) : ∀ zs : List (List Nat), (zs.foldr (fun z f => Fm.qf k z f) a).Good → a.Good
  | [], h => h
  | z :: zs, h => qf_good k a zs h.2
end Dw

namespace Dw
open PySem PySem.Spec PyProof.Rows L2 SX
/-! what is spelled is read -/
def Hd : List Tk → List Tv → List Tk → Prop
  | ts, [], t' => ts = t'
  | ts, x :: xs, t' => ∃ i m, ts = ⟨x, i⟩ :: m ∧ Hd m xs t'
theorem Hd.append : ∀ {xs ys : List Tv} {ts t' : List Tk}, Hd ts (xs ++ ys) t' → ∃ m, Hd ts xs m ∧ Hd m ys t'
  | [], ys, ts, t', h => ⟨ts, rfl, h⟩
  | x :: xs, ys, ts, t', ⟨i, m, e, h⟩ => by
    obtain ⟨m2, h1, h2⟩ := Hd.append (xs := xs) h
    exact ⟨m2, ⟨i, m, e, h1⟩, h2⟩
theorem Hd.of : ∀ (t1 : List Tk), Hd t1 (t1.map Tk.x) []
  | [] => rfl
  | t :: t1 => ⟨t.at_, t1, rfl, Hd.of t1⟩
theorem Hd.len : ∀ {xs : List Tv} {ts t' : List Tk}, Hd ts xs t' → ts.length = xs.length + t'.length
  | [], ts, t', h => by rw [show ts = t' from h]; simp
  | x :: xs, ts, t', ⟨i, m, e, h⟩ => by
    rw [e, List.length_cons, List.length_cons, h.len]
    omega
theorem is_one {a b : List Nat} (x : Tv) (h : x.is a = true) (n : a ≠ b) : x.is b = false := by
  cases x with
  | num k => rfl
  | res l =>
    have e : l = a := of_decide_eq_true h
    exact decide_eq_false fun q => n (e.symm.trans q)
  | name l =>
    have e : l = a := of_decide_eq_true h
    exact decide_eq_false fun q => n (e.symm.trans q)
  | word l =>
    have e : l = a := of_decide_eq_true h
    exact decide_eq_false fun q => n (e.symm.trans q)
  | sign l =>
    have e : l = a := of_decide_eq_true h
    exact decide_eq_false fun q => n (e.symm.trans q)
theorem sees_one {a b : List Nat} {t' : List Tk} (h : seesM a t' = true) (n : a ≠ b) : seesM b t' = false := by
  cases t' with
  | nil => rfl
  | cons t r => exact is_one t.x h n
theorem sees_sg (s : String) (i : Nat) (m : List Tk) : seesM (cs s) (⟨sg s, i⟩ :: m) = true := decide_eq_true rfl
theorem sees_sgN {s a : String} (i : Nat) (m : List Tk) (n : cs s ≠ cs a) : seesM (cs a) (⟨sg s, i⟩ :: m) = false := decide_eq_false n
def Base (t' : List Tk) : Prop := t' = [] ∨ ∃ s ∈ [")", "&", "|", "=>", "<=>"], seesM (cs s) t' = true
def Clo (t' : List Tk) : Prop := t' = [] ∨ seesM (cs ")") t' = true
theorem base_no {t' : List Tk} (h : Base t') : ∀ l ∈ ["+", "-", "*", ",", "("], seesM (cs l) t' = false := by
  intro l hl
  rcases h with rfl | ⟨s, hs, e⟩
  · rfl
  · have D : ∀ s ∈ [")", "&", "|", "=>", "<=>"], ∀ l ∈ ["+", "-", "*", ",", "("], cs s ≠ cs l := by decide +kernel
    exact sees_one e (D s hs l hl)
theorem clo_no {t' : List Tk} (h : Clo t') : ∀ l ∈ ["&", "|", "=>", "<=>"], seesM (cs l) t' = false := by
  intro l hl
  rcases h with rfl | e
  · rfl
  · have D : ∀ l ∈ ["&", "|", "=>", "<=>"], cs ")" ≠ cs l := by decide +kernel
    exact sees_one e (D l hl)
theorem clo_base {t' : List Tk} (h : Clo t') : Base t' := h.imp id fun e => ⟨")", by simp, e⟩
/-! names -/
theorem namesLoop_ok (len : Nat) : ∀ (r acc : List (List Nat)) (m : Nat) {ts t' : List Tk}, Hd ts (r.flatMap fun z => [sg ",", Tv.name z]) t' → seesM (cs ",") t' = false → r.length < m → namesLoop len m acc ts = .ok (acc ++ r) t'
  | [], acc, m + 1, ts, t', h, n, _ => by
    rw [show ts = t' from h]
    show (if seesM (cs ",") t' then _ else _) = _
    rw [if_neg (by rw [n]; decide), List.append_nil]
  | z :: r, acc, m + 1, ts, t', h, n, hm => by
    obtain ⟨i, m1, rfl, j, m2, rfl, h2⟩ := h
    show (if seesM (cs ",") (⟨sg ",", i⟩ :: ⟨.name z, j⟩ :: m2) then (takeName len (⟨.name z, j⟩ :: m2)).bind fun z ts2 => namesLoop len m (acc ++ [z]) ts2 else _) = _
    rw [if_pos (sees_sg _ _ _)]
    show namesLoop len m (acc ++ [z]) m2 = _
    rw [namesLoop_ok len r (acc ++ [z]) m h2 n (Nat.lt_of_succ_lt_succ hm), List.append_assoc]
    rfl
  | _, _, 0, _, _, _, _, hm => absurd hm (Nat.not_lt_zero _)
theorem namesM_ok (len : Nat) {z : List Nat} {r : List (List Nat)} {ts t' : List Tk} (h : Hd ts (namesJ (z :: r)) t') (n : seesM (cs ",") t' = false) : namesM len ts = .ok (z :: r) t' := by
  obtain ⟨i, m, rfl, h2⟩ := h
  show namesLoop len (m.length + 1) [z] m = _
  rw [namesLoop_ok len r [z] (m.length + 1) h2 n (by
    have := h2.len
    rw [flatJ_len] at this
    omega)]
  rfl
/-! sums -/
def sgnI (n : Int) : Int := if n < 0 then -1 else 1
theorem sgn_abs (n : Int) : sgnI n * ((n.natAbs : Nat) : Int) = n := by
  unfold sgnI
  split <;> omega
def bodyU : Int × Option (List Nat) → List Tv
  | (n, some z) => if n.natAbs = 1 then [.name z] else [.num n.natAbs, sg "*", .name z]
  | (n, none) => [.num n.natAbs]
def tokU (us : List (Int × Option (List Nat))) : List Tv := us.flatMap fun u => sgnT u.1 :: bodyU u
def addU1 (a : Prs × Int) : Int × Option (List Nat) → Prs × Int
  | (n, some z) => (a.1 ++ [(S z, n)], a.2)
  | (n, none) => (a.1, a.2 + n)
theorem signM_end {t' : List Tk} (h1 : seesM (cs "+") t' = false) (h2 : seesM (cs "-") t' = false) : signM t' = (0, t') := by
  unfold signM
  rw [if_neg (by rw [h1]; decide), if_neg (by rw [h2]; decide)]
theorem signM_sgn (n : Int) (i : Nat) (m : List Tk) : signM (⟨sgnT n, i⟩ :: m) = (sgnI n, m) := by
  unfold signM sgnT sgnI
  by_cases h : n < 0
  · rw [if_pos h, if_pos h, if_neg (by rw [sees_sgN _ _ (by decide)]; decide), if_pos (sees_sg _ _ _)]
    rfl
  · rw [if_neg h, if_neg h, if_pos (sees_sg _ _ _)]
    rfl
theorem sgn_star (n : Int) (i : Nat) (m : List Tk) : seesM (cs "*") (⟨sgnT n, i⟩ :: m) = false := by
  unfold sgnT
  split
  · exact sees_sgN _ _ (by decide)
  · exact sees_sgN _ _ (by decide)
theorem sgnI_ne (n : Int) : ¬ sgnI n = 0 := by
  unfold sgnI
  split <;> decide
theorem sumLoop_ok (len : Nat) : ∀ (us : List (Int × Option (List Nat))) (u : Int × Option (List Nat)) (a : Prs × Int) (m : Nat) {ts t' : List Tk}, Hd ts (bodyU u ++ tokU us) t' → seesM (cs "+") t' = false → seesM (cs "-") t' = false → seesM (cs "*") t' = false → us.length + 1 < m → a.1.length + us.length + 1 ≤ 15 →
    sumLoop len m (sgnI u.1) a.1 a.2 ts = .ok (us.foldl addU1 (addU1 a u)) t'
  | us, u, a, 0, ts, t', _, _, _, _, hm, _ => absurd hm (Nat.not_lt_zero _)
  | us, u, a, m + 1, ts, t', h, h1, h2, h3, hm, ha => by
    obtain ⟨t2, hb, hr⟩ := h.append
    have hstar : seesM (cs "*") t2 = false := by
      cases us with
      | nil => rw [show t2 = t' from hr]; exact h3
      | cons u2 us => obtain ⟨i, m2, rfl, _⟩ := hr; exact sgn_star _ _ _
    have next : ∀ a2 : Prs × Int, a2.1.length ≤ a.1.length + 1 → sumLoop len m (signM t2).1 a2.1 a2.2 (signM t2).2 = .ok (us.foldl addU1 a2) t' := fun a2 ha2 => by
      cases us with
      | nil =>
        rw [show t2 = t' from hr, signM_end h1 h2]
        obtain ⟨k, rfl⟩ : ∃ k, m = k + 1 := ⟨m - 1, by simp at hm; omega⟩
        show (if (0 : Int) = 0 then _ else _) = _
        rw [if_pos rfl]
        rfl
      | cons u2 us =>
        obtain ⟨i, m2, rfl, hr2⟩ := hr
        rw [signM_sgn]
        rw [List.length_cons] at hm ha
        exact sumLoop_ok len us u2 a2 m hr2 h1 h2 h3 (by omega) (by omega)
    show (if sgnI u.1 = 0 then _ else if 14 < a.1.length then _ else (partM len ts).bind fun x ts2 => _) = _
    rw [if_neg (sgnI_ne _), if_neg (by omega)]
    obtain ⟨n, o⟩ := u
    cases o with
    | none =>
      obtain ⟨i, m2, rfl, e⟩ := hb
      have e : m2 = t2 := e
      subst e
      have hp : partM len (⟨.num n.natAbs, i⟩ :: m2) = .ok (none, n.natAbs) m2 := by
        show (if false then _ else (if seesM (cs "*") m2 then _ else _)) = _
        rw [if_neg (by decide), if_neg (by rw [hstar]; decide)]
      rw [hp]
      show sumLoop len m (signM m2).1 a.1 (a.2 + sgnI n * ((n.natAbs : Nat) : Int)) (signM m2).2 = _
      rw [sgn_abs]
      exact next (a.1, a.2 + n) (Nat.le_succ _)
    | some z =>
      by_cases hn : n.natAbs = 1
      · have hb : Hd ts [.name z] t2 := by
          have : bodyU (n, some z) = [.name z] := if_pos hn
          rw [← this]
          exact hb
        obtain ⟨i, m2, rfl, e⟩ := hb
        have e : m2 = t2 := e
        subst e
        show sumLoop len m (signM m2).1 (a.1 ++ [(S z, sgnI n * ((1 : Nat) : Int))]) a.2 (signM m2).2 = _
        rw [← hn, sgn_abs]
        exact next (a.1 ++ [(S z, n)], a.2) (by rw [List.length_append, List.length_singleton]; exact Nat.le_refl _)
      · have hb : Hd ts [.num n.natAbs, sg "*", .name z] t2 := by
          have : bodyU (n, some z) = [.num n.natAbs, sg "*", .name z] := if_neg hn
          rw [← this]
          exact hb
        obtain ⟨i, m1, rfl, j, m2, rfl, k, m3, rfl, e⟩ := hb
        have e : m3 = t2 := e
        subst e
        have hp : partM len (⟨.num n.natAbs, i⟩ :: ⟨sg "*", j⟩ :: ⟨.name z, k⟩ :: m3) = .ok (some z, n.natAbs) m3 := by
          show (if seesM (cs "*") (⟨sg "*", j⟩ :: ⟨.name z, k⟩ :: m3) then (takeName len (⟨.name z, k⟩ :: m3)).bind fun y ts3 => Rs.ok (some y, n.natAbs) ts3 else Rs.ok (none, n.natAbs) (⟨sg "*", j⟩ :: ⟨.name z, k⟩ :: m3)) = _
          rw [if_pos (sees_sg _ _ _)]
          rfl
        rw [hp]
        show sumLoop len m (signM m3).1 (a.1 ++ [(S z, sgnI n * ((n.natAbs : Nat) : Int))]) a.2 (signM m3).2 = _
        rw [sgn_abs]
        exact next (a.1 ++ [(S z, n)], a.2) (by rw [List.length_append, List.length_singleton]; exact Nat.le_refl _)
theorem fold_pairs : ∀ (qs : List (List Nat × Int)) (a : Prs × Int), (qs.map fun q => (q.2, Option.some q.1)).foldl addU1 a = (a.1 ++ qs.map pS, a.2)
  | [], a => by simp
  | q :: qs, a => by
    rw [List.map_cons, List.foldl_cons, fold_pairs qs]
    show (a.1 ++ [(S q.1, q.2)] ++ qs.map pS, a.2) = _
    rw [List.append_assoc]
    rfl
def unitsU (qs : List (List Nat × Int)) (c : Int) : List (Int × Option (List Nat)) := (qs.map fun q => (q.2, Option.some q.1)) ++ (if c ≠ 0 ∨ qs = [] then [(c, none)] else [])
theorem tok_side (qs : List (List Nat × Int)) (c : Int) : sideA qs c = tokU (unitsU qs c) := by
  have h : ∀ qs : List (List Nat × Int), qs.flatMap sideB = tokU (qs.map fun q => (q.2, Option.some q.1)) := fun qs => by
    unfold tokU
    rw [List.flatMap_map]
    rfl
  unfold sideA unitsU
  rw [h]
  unfold tokU
  rw [List.flatMap_append]
  congr 1
  split <;> rfl
theorem fold_units (qs : List (List Nat × Int)) (c : Int) : (unitsU qs c).foldl addU1 ([], 0) = (qs.map pS, c) := by
  unfold unitsU
  rw [List.foldl_append, fold_pairs]
  split
  · rename_i h
    show ([] ++ qs.map pS, 0 + c) = _
    rw [List.nil_append, Int.zero_add]
  · rename_i h
    have hc : c = 0 := Decidable.not_not.mp fun q => h (Or.inl q)
    rw [hc]
    rfl
theorem units_len (qs : List (List Nat × Int)) (c : Int) : (unitsU qs c).length ≤ qs.length + 1 ∧ 0 < (unitsU qs c).length := by
  unfold unitsU
  rw [List.length_append, List.length_map]
  cases qs with
  | nil => rw [if_pos (Or.inr rfl)]; simp
  | cons q qs => split <;> simp
theorem tokU_len : ∀ us : List (Int × Option (List Nat)), us.length ≤ (tokU us).length
  | [] => Nat.le_refl _
  | u :: us => by
    have := tokU_len us
    show _ ≤ ((sgnT u.1 :: bodyU u) ++ tokU us).length
    rw [List.length_append, List.length_cons, List.length_cons]
    omega
theorem gname_no {z : List Nat} (g : GName z) (i : Nat) (m : List Tk) : ∀ s ∈ ["~", "(", "-", "some", "all", "pow"], seesM (cs s) (⟨.name z, i⟩ :: m) = false := by
  intro s hs
  have n : z ≠ cs s := by
    intro e
    obtain ⟨c, r, e2, hc⟩ := g.hd
    have D : ∀ s ∈ ["~", "(", "-", "some", "all", "pow"], ((cs s).head?.getD 0 ∉ LOW) ∨ cs s ∈ RES := by decide +kernel
    rcases D s hs with d | d
    · rw [← e, e2] at d
      exact d hc
    · exact g.nr (by rw [e]; exact d)
  exact decide_eq_false n
/-- how a side begins -/
def SideHd (ts : List Tk) : Prop := (∃ i m, ts = ⟨sg "-", i⟩ :: m) ∨ (∃ n i m, ts = ⟨.num n, i⟩ :: m) ∨ ∃ z i m, ts = ⟨.name z, i⟩ :: m ∧ GName z ∧ seesM (cs "(") m = false
theorem body_hd {u : Int × Option (List Nat)} {us : List (Int × Option (List Nat))} {ts t' : List Tk} (h : Hd ts (bodyU u ++ tokU us) t') (hg : ∀ z, u.2 = Option.some z → GName z) (hp : seesM (cs "(") t' = false) : SideHd ts ∧ seesM (cs "-") ts = false := by
  obtain ⟨n, o⟩ := u
  obtain ⟨t2, hb, hr⟩ := h.append
  have h2 : seesM (cs "(") t2 = false := by
    cases us with
    | nil => rw [show t2 = t' from hr]; exact hp
    | cons u2 us =>
      obtain ⟨i, m2, rfl, _⟩ := hr
      unfold sgnT
      split
      · exact sees_sgN _ _ (by decide)
      · exact sees_sgN _ _ (by decide)
  cases o with
  | none =>
    obtain ⟨i, m2, rfl, e⟩ := hb
    exact ⟨.inr (.inl ⟨_, _, _, rfl⟩), rfl⟩
  | some z =>
    by_cases hn : n.natAbs = 1
    · have hb : Hd ts [.name z] t2 := by
        have : bodyU (n, some z) = [.name z] := if_pos hn
        rw [← this]
        exact hb
      obtain ⟨i, m2, rfl, e⟩ := hb
      have e : m2 = t2 := e
      subst e
      exact ⟨.inr (.inr ⟨z, i, m2, rfl, hg z rfl, h2⟩), gname_no (hg z rfl) i m2 "-" (by decide)⟩
    · have hb : Hd ts [.num n.natAbs, sg "*", .name z] t2 := by
        have : bodyU (n, some z) = [.num n.natAbs, sg "*", .name z] := if_neg hn
        rw [← this]
        exact hb
      obtain ⟨i, m1, rfl, _⟩ := hb
      exact ⟨.inr (.inl ⟨_, _, _, rfl⟩), rfl⟩
theorem sumM_ok (len : Nat) {qs : List (List Nat × Int)} {c : Int} {ts t' : List Tk} (h : Hd ts (sideL qs c) t') (hq : qs.length ≤ 10) (hg : ∀ q ∈ qs, GName q.1) (hs : ∀ l ∈ ["+", "-", "*", "("], seesM (cs l) t' = false) : sumM len ts = .ok (qs.map pS, c) t' ∧ SideHd ts := by
  obtain ⟨u, us, hu⟩ : ∃ u us, unitsU qs c = u :: us := by
    cases e : unitsU qs c with
    | nil => have := (units_len qs c).2; rw [e] at this; exact absurd this (Nat.lt_irrefl _)
    | cons u us => exact ⟨u, us, rfl⟩
  have hul := (units_len qs c).1
  rw [hu, List.length_cons] at hul
  have hgu : ∀ z, u.2 = Option.some z → GName z := fun z hz => by
    have hm : u ∈ unitsU qs c := by rw [hu]; exact List.mem_cons_self
    unfold unitsU at hm
    rcases List.mem_append.mp hm with h1 | h1
    · obtain ⟨q, hq2, rfl⟩ := List.mem_map.mp h1
      have : q.1 = z := Option.some.inj hz
      rw [← this]
      exact hg q hq2
    · split at h1
      · rw [List.mem_singleton.mp h1] at hz
        cases hz
      · cases h1
  have hfold : (us.foldl addU1 (addU1 (([] : Prs), (0 : Int)) u)) = (qs.map pS, c) := by
    have := fold_units qs c
    rw [hu, List.foldl_cons] at this
    exact this
  have hside : sideA qs c = sgnT u.1 :: (bodyU u ++ tokU us) := by
    rw [tok_side, hu]
    rfl
  have go : ∀ {ts : List Tk} (k : Nat), Hd ts (bodyU u ++ tokU us) t' → ts.length < k → sumLoop len k (sgnI u.1) [] 0 ts = .ok (qs.map pS, c) t' := fun {ts} k h1 hk => by
    have hl := h1.len
    have h2 := tokU_len us
    have h3 : 0 < (bodyU u).length := by
      obtain ⟨n, o⟩ := u
      cases o with
      | none => exact Nat.succ_pos _
      | some z => show 0 < (if n.natAbs = 1 then [Tv.name z] else _).length; split <;> exact Nat.succ_pos _
    rw [List.length_append] at hl
    have := sumLoop_ok len us u (([] : Prs), (0 : Int)) k h1 (hs "+" (by decide)) (hs "-" (by decide)) (hs "*" (by decide)) (by omega) (by show 0 + us.length + 1 ≤ 15; omega)
    rw [this, hfold]
  unfold sideL at h
  rw [hside] at h
  by_cases hn : u.1 < 0
  · have e : sgnT u.1 = sg "-" := if_pos hn
    have h : Hd ts (sg "-" :: (bodyU u ++ tokU us)) t' := by
      rw [e] at h
      have nm : sg "-" ≠ sg "+" := by decide
      have d : dropP (sg "-" :: (bodyU u ++ tokU us)) = sg "-" :: (bodyU u ++ tokU us) := by
        show (if sg "-" = sg "+" then bodyU u ++ tokU us else sg "-" :: (bodyU u ++ tokU us)) = _
        rw [if_neg nm]
      rw [d] at h
      exact h
    obtain ⟨i, m, rfl, h2⟩ := h
    refine ⟨?_, .inl ⟨i, m, rfl⟩⟩
    unfold sumM
    rw [if_pos (sees_sg _ _ _)]
    have := go (ts := m) (m.length + 1 + 1) h2 (by omega)
    rw [show sgnI u.1 = -1 from if_pos hn] at this
    exact this
  · have e : sgnT u.1 = sg "+" := if_neg hn
    have h : Hd ts (bodyU u ++ tokU us) t' := by
      rw [e] at h
      have d : dropP (sg "+" :: (bodyU u ++ tokU us)) = bodyU u ++ tokU us := by
        show (if sg "+" = sg "+" then bodyU u ++ tokU us else sg "+" :: (bodyU u ++ tokU us)) = _
        rw [if_pos rfl]
      rw [d] at h
      exact h
    obtain ⟨b1, b2⟩ := body_hd h hgu (hs "(" (by decide))
    refine ⟨?_, b1⟩
    unfold sumM
    rw [if_neg (by rw [b2]; decide)]
    have := go (ts.length + 1) h (by omega)
    rw [show sgnI u.1 = 1 from if_neg hn] at this
    exact this
end Dw

namespace Dw
open PySem PySem.Spec PyProof.Rows L2 SX
theorem look_no {D : Prs} {z : Str} (h : z ∉ keys D) : look D z = none := by
  unfold look
  rw [List.find?_eq_none.mpr (fun p hp => by
    intro e
    exact h (List.mem_map.mpr ⟨p, hp, of_decide_eq_true e⟩))]
  rfl
theorem put_no {D : Prs} {z : Str} {i : Int} (h : z ∉ keys D) : put D z i = D ++ [(z, i)] := by
  unfold put
  rw [if_neg]
  intro e
  obtain ⟨p, hp, e2⟩ := List.any_eq_true.mp e
  exact h (List.mem_map.mpr ⟨p, hp, of_decide_eq_true e2⟩)
theorem fold_new : ∀ (ps D : Prs), (keys D ++ keys ps).Nodup → ps.foldl add1 D = D ++ ps
  | [], D, _ => by simp
  | p :: ps, D, h => by
    have h1 : p.1 ∉ keys D := fun q => (List.nodup_append.mp h).2.2 _ q _ List.mem_cons_self rfl
    have e : add1 D p = D ++ [p] := by
      unfold add1
      rw [put_no h1, look_no h1]
      show D ++ [(p.1, 0 + p.2)] = _
      rw [Int.zero_add]
    have h2 : (keys (D ++ [p]) ++ keys ps).Nodup := by
      unfold keys at *
      rw [List.map_append, List.append_assoc]
      exact h
    rw [List.foldl_cons, e, fold_new ps _ h2, List.append_assoc]
    rfl
theorem sums_of {ps : Prs} (nd : (keys ps).Nodup) : sums ps = ps := by
  unfold sums
  rw [fold_new ps [] (by simpa [keys] using nd)]
  rfl
theorem look_of : ∀ {ps : Prs} {p : Str × Int}, (keys ps).Nodup → p ∈ ps → look ps p.1 = some p.2
  | q :: ps, p, nd, h => by
    have nd2 := List.nodup_cons.mp nd
    unfold look
    rw [List.find?_cons]
    rcases List.mem_cons.mp h with rfl | h
    · rw [decide_eq_true rfl]
      rfl
    · have hne : ¬ q.1 = p.1 := fun e => nd2.1 (by show q.1 ∈ List.map (fun x : Str × Int => x.1) ps; rw [e]; exact List.mem_map.mpr ⟨p, h, rfl⟩)
      rw [decide_eq_false hne]
      exact look_of nd2.2 h
theorem lin_perm {B ps : Prs} (p : ps.Perm B) (hs : sortedS (keys B) = true) (nd : (keys B).Nodup) (nz : ∀ p ∈ B, p.2 ≠ 0) : lin ps = B := by
  have kp : (keys B).Perm (keys ps) := (p.map (fun x : Str × Int => x.1)).symm
  have ndp : (keys ps).Nodup := kp.nodup_iff.mp nd
  unfold lin
  rw [sums_of ndp, ← srt_of kp hs]
  unfold keys
  rw [List.map_map]
  have e : B.map ((fun z => (z, (look ps z).getD 0)) ∘ fun x => x.1) = B := by
    conv => rhs; rw [← List.map_id B]
    refine List.map_congr_left fun q hq => ?_
    show (q.1, (look ps q.1).getD 0) = q
    rw [look_of ndp (p.mem_iff.mpr hq)]
    rfl
  rw [e]
  exact List.filter_eq_self.mpr fun q hq => decide_eq_true (nz q hq)
theorem nodup_of_keys {ps : Prs} (h : (keys ps).Nodup) : ps.Nodup := List.Pairwise.of_map (S := (· ≠ ·)) (fun p : Str × Int => p.1) (fun a b h e => h (by rw [e])) h
theorem lin_subB {B ps : Prs} (hs : sortedS (keys B) = true) (nd : (keys B).Nodup) (nz : ∀ p ∈ B, p.2 ≠ 0) (hsub : ∀ p ∈ ps, p ∈ B) (ndp : (keys ps).Nodup) : (lin ps).Perm ps := by
  obtain ⟨B2, hB2⟩ : ∃ B2, B2 = B.filter fun q => decide (q ∈ ps) := ⟨_, rfl⟩
  have sub : B2.Sublist B := by rw [hB2]; exact List.filter_sublist
  have ksub : (keys B2).Sublist (keys B) := sub.map _
  have p2 : ps.Perm B2 := (List.perm_ext_iff_of_nodup (nodup_of_keys ndp) ((nodup_of_keys nd).sublist sub)).2 fun q => by
    rw [hB2, List.mem_filter]
    exact ⟨fun h => ⟨hsub q h, decide_eq_true h⟩, fun h => of_decide_eq_true h.2⟩
  rw [lin_perm p2 (pw_sorted ((sorted_pw hs).sublist ksub)) (nd.sublist ksub) fun q hq => nz q (sub.mem hq)]
  exact p2.symm
theorem pS_ng (q : List Nat × Int) : pS (ngQ q) = ngP (pS q) := by
  show (S q.1, 0 - q.2) = (S q.1, -q.2)
  rw [Int.zero_sub]
theorem map_ng (qs : List (List Nat × Int)) : (qs.map ngQ).map pS = (qs.map pS).map ngP := by
  rw [List.map_map, List.map_map]
  exact List.map_congr_left fun q _ => pS_ng q
theorem map_ng2 (qs : List (List Nat × Int)) : (qs.map ngQ).map ngQ = qs := by
  rw [List.map_map]
  conv => rhs; rw [← List.map_id qs]
  exact List.map_congr_left fun q _ => ngQ_ng q
theorem keys_ng (qs : List (List Nat × Int)) : keys ((qs.map ngQ).map pS) = keys (qs.map pS) := by
  unfold keys
  rw [List.map_map, List.map_map, List.map_map]
  exact List.map_congr_left fun q _ => rfl
structure QOk (qs : List (List Nat × Int)) : Prop where
  so : sortedS (keys (qs.map pS)) = true
  nd : (keys (qs.map pS)).Nodup
  nz : ∀ q ∈ qs, q.2 ≠ 0
  sm : ∀ q ∈ qs, q.2.natAbs ≤ 255
  gn : ∀ q ∈ qs, GName q.1
  le : qs.length ≤ 10
theorem QOk.ng {qs : List (List Nat × Int)} (h : QOk qs) : QOk (qs.map ngQ) := by
  have m : ∀ {p : List Nat × Int → Prop}, (∀ q ∈ qs, p (ngQ q)) → ∀ q ∈ qs.map ngQ, p q := fun k q hq => by
    obtain ⟨y, hy, rfl⟩ := List.mem_map.mp hq
    exact k y hy
  refine ⟨by rw [keys_ng]; exact h.so, by rw [keys_ng]; exact h.nd, m fun q hq => ?_, m fun q hq => ?_, m fun q hq => h.gn q hq, by rw [List.length_map]; exact h.le⟩
  · have := h.nz q hq
    show 0 - q.2 ≠ 0
    omega
  · have := h.sm q hq
    show (0 - q.2).natAbs ≤ 255
    omega
theorem QOk.nzp {qs : List (List Nat × Int)} (h : QOk qs) : ∀ p ∈ qs.map pS, p.2 ≠ 0 := fun p hp => by
  obtain ⟨q, hq, rfl⟩ := List.mem_map.mp hp
  exact h.nz q hq
theorem okC_of {c : Int} (h : c.natAbs ≤ 255) : okC c = true := by
  unfold okC
  rw [decide_eq_true (by omega), decide_eq_true (by omega)]
  rfl
theorem linM_ok {ps : Prs} {qs : List (List Nat × Int)} {c : Int} (t' : List Tk) (h : QOk qs) (p : ps.Perm (qs.map pS)) (hc : c.natAbs ≤ 255) : linM ps c t' = .ok (qs.map pS, c) t' := by
  have e := lin_perm p h.so h.nd h.nzp
  have e2 : linOk ps c = true := by
    unfold linOk
    rw [e, List.all_cons, okC_of hc, Bool.true_and, List.all_eq_true]
    intro x hx
    obtain ⟨p, hp, rfl⟩ := List.mem_map.mp hx
    obtain ⟨q, hq, rfl⟩ := List.mem_map.mp hp
    exact okC_of (h.sm q hq)
  unfold linM
  rw [if_pos e2, e]
theorem linM_sub {l qs : List (List Nat × Int)} {c : Int} (t' : List Tk) (h : QOk qs) (hsub : ∀ q ∈ l, q ∈ qs) (nd : (keys (l.map pS)).Nodup) (hc : c.natAbs ≤ 255) : linM (l.map pS) c t' = .ok (lin (l.map pS), c) t' ∧ (lin (l.map pS)).Perm (l.map pS) := by
  have p := lin_subB h.so h.nd h.nzp (fun x hx => by
    obtain ⟨q, hq, rfl⟩ := List.mem_map.mp hx
    exact List.mem_map.mpr ⟨q, hsub q hq, rfl⟩) nd
  refine ⟨?_, p⟩
  unfold linM
  rw [if_pos]
  unfold linOk
  rw [List.all_cons, okC_of hc, Bool.true_and, List.all_eq_true]
  intro x hx
  obtain ⟨y, hy, rfl⟩ := List.mem_map.mp hx
  obtain ⟨q, hq, rfl⟩ := List.mem_map.mp (p.mem_iff.mp hy)
  exact okC_of (h.sm q (hsub q hq))
end Dw

namespace Dw
open PySem PySem.Spec PyProof.Rows L2 SX
theorem cmpM_ok (len : Nat) {qs : List (List Nat × Int)} {c : Int} {s : String} {xs : List Tv} {ts t' : List Tk} (h : CmpS qs c s xs) (hd : Hd ts xs t') (hs : s ∈ ["=", "!=", "<", "<=", ">", ">="]) (q : QOk qs) (hc : c.natAbs ≤ 254) (hb : Base t') :
    SideHd ts ∧ ∃ a b : Prs × Int, cmpM len ts = comparedM a (cs s) b t' ∧ minusM a b t' = .ok (qs.map pS, c) t' ∧ minusM b a t' = .ok ((qs.map ngQ).map pS, 0 - c) t' := by
  obtain ⟨l, r, cl, cr, hp, hcc, hz, rfl⟩ := h
  obtain ⟨t1, h1, i, t2, rfl, h2⟩ := hd.append
  have hl : l.length + r.length = qs.length := by
    have := hp.length_eq
    rw [List.length_append, List.length_map] at this
    exact this
  have hq := q.le
  have subl : ∀ x ∈ l, x ∈ qs := fun x hx => hp.mem_iff.mp (List.mem_append_left _ hx)
  have subr : ∀ x ∈ r, x ∈ qs.map ngQ := fun x hx => List.mem_map.mpr ⟨ngQ x, hp.mem_iff.mp (List.mem_append_right _ (List.mem_map.mpr ⟨x, hx, rfl⟩)), ngQ_ng x⟩
  have kn : (keys ((l ++ r.map ngQ).map pS)).Nodup := by
    have : (keys ((l ++ r.map ngQ).map pS)).Perm (keys (qs.map pS)) := (hp.map pS).map (fun x : Str × Int => x.1)
    exact this.nodup_iff.mpr q.nd
  have kn2 : (keys (l.map pS)).Nodup ∧ (keys (r.map pS)).Nodup := by
    have e : keys ((l ++ r.map ngQ).map pS) = keys (l.map pS) ++ keys (r.map pS) := by
      rw [← keys_ng r]
      unfold keys
      rw [List.map_append, List.map_append]
    rw [e] at kn
    exact ⟨(List.nodup_append.mp kn).1, (List.nodup_append.mp kn).2.1⟩
  have D : ∀ s ∈ ["=", "!=", "<", "<=", ">", ">="], (∀ l ∈ ["+", "-", "*", "("], cs s ≠ cs l) ∧ cs s ∈ CMPD := by decide +kernel
  obtain ⟨D1, D2⟩ := D s hs
  obtain ⟨s1, s2⟩ := sumM_ok len (t' := ⟨sg s, i⟩ :: t2) h1 (by omega) (fun x hx => q.gn x (subl x hx)) fun l hl => sees_sgN _ _ (D1 l hl)
  have s3 := (sumM_ok len h2 (by omega) (fun x hx => by
    obtain ⟨y, hy, e⟩ := List.mem_map.mp (subr x hx)
    rw [← e]
    exact q.gn y hy) fun l hl => base_no hb l (by revert hl; revert l; decide)).1
  obtain ⟨ml, pl⟩ := linM_sub (l := l) (qs := qs) (c := cl) t' q subl kn2.1 (by omega)
  obtain ⟨mr, pr⟩ := linM_sub (l := r) (qs := qs.map ngQ) (c := cr) t' q.ng subr kn2.2 (by omega)
  refine ⟨s2, (lin (l.map pS), cl), (lin (r.map pS), cr), ?_, ?_, ?_⟩
  · unfold cmpM
    rw [s1]
    show (if cs s ∉ CMPD then _ else _) = _
    rw [if_neg (fun z => z D2)]
    rw [s3]
    show (linM (l.map pS) cl t').bind _ = _
    rw [ml]
    show (linM (r.map pS) cr t').bind _ = _
    rw [mr]
    rfl
  · unfold minusM
    show linM (lin (l.map pS) ++ (lin (r.map pS)).map ngP) (cl - cr) t' = _
    have e := linM_ok (ps := lin (l.map pS) ++ (lin (r.map pS)).map ngP) (c := cl - cr) t' q (by
      refine (List.Perm.append pl (pr.map ngP)).trans ?_
      rw [← map_ng, ← List.map_append]
      exact hp.map pS) (by omega)
    rw [e, hcc]
  · unfold minusM
    show linM (lin (r.map pS) ++ (lin (l.map pS)).map ngP) (cr - cl) t' = _
    have e := linM_ok (ps := lin (r.map pS) ++ (lin (l.map pS)).map ngP) (c := cr - cl) t' q.ng (by
      refine (List.Perm.append pr (pl.map ngP)).trans ?_
      rw [← map_ng, ← List.map_append]
      have h3 := (hp.map ngQ)
      rw [List.map_append, map_ng2] at h3
      exact (List.perm_append_comm.trans h3).map pS) (by omega)
    rw [e, show cr - cl = 0 - c by omega]
theorem cmp_s {n : Nat} {t' : List Tk} {a b : Prs × Int} {qs : List (List Nat × Int)} {c : Int} (q : QOk qs) (hc : c.natAbs ≤ 254) (h : minusM a b t' = .ok (qs.map pS, c) t') :
    comparedM a (cs "=") b t' = .ok (.cmp true (qs.map pS) c) t' ∧ comparedM a (cs "!=") b t' = .ok (.not (.cmp true (qs.map pS) c)) t' ∧ comparedM a (cs "<=") b t' = .ok (.cmp false (qs.map pS) c) t' ∧ comparedM a (cs "<") b t' = .ok (.cmp false (qs.map pS) (c + 1)) t' := by
  have l1 : linM (qs.map pS) (c + 1) t' = .ok (qs.map pS, c + 1) t' := linM_ok t' q (List.Perm.refl _) (by omega)
  refine ⟨?_, ?_, ?_, ?_⟩
  · unfold comparedM
    rw [if_pos rfl, h]
    rfl
  · unfold comparedM
    rw [if_neg (by decide), if_pos rfl, h]
    rfl
  · unfold comparedM
    rw [if_neg (by decide), if_neg (by decide), if_pos (Or.inr rfl), h]
    show (if cs "<=" = cs "<" ∨ cs "<=" = cs ">" then (linM (qs.map pS) (c + 1) t').bind fun d ts => Rs.ok (Fm.cmp false d.1 d.2) ts else Rs.ok (Fm.cmp false (qs.map pS) c) t') = _
    rw [if_neg (by decide)]
  · unfold comparedM
    rw [if_neg (by decide), if_neg (by decide), if_pos (Or.inl rfl), h]
    show (if cs "<" = cs "<" ∨ cs "<" = cs ">" then (linM (qs.map pS) (c + 1) t').bind fun d ts => Rs.ok (Fm.cmp false d.1 d.2) ts else Rs.ok (Fm.cmp false (qs.map pS) c) t') = _
    rw [if_pos (Or.inl rfl)]
    show (linM (qs.map pS) (c + 1) t').bind _ = _
    rw [l1]
    rfl
theorem cmp_g {t' : List Tk} {a b : Prs × Int} {qs : List (List Nat × Int)} {c : Int} (q : QOk qs) (hc : c.natAbs ≤ 254) (h : minusM b a t' = .ok (qs.map pS, c) t') :
    comparedM a (cs ">=") b t' = .ok (.cmp false (qs.map pS) c) t' ∧ comparedM a (cs ">") b t' = .ok (.cmp false (qs.map pS) (c + 1)) t' := by
  have l1 : linM (qs.map pS) (c + 1) t' = .ok (qs.map pS, c + 1) t' := linM_ok t' q (List.Perm.refl _) (by omega)
  refine ⟨?_, ?_⟩
  · unfold comparedM
    rw [if_neg (by decide), if_neg (by decide), if_neg (by decide), h]
    show (if cs ">=" = cs "<" ∨ cs ">=" = cs ">" then (linM (qs.map pS) (c + 1) t').bind fun d ts => Rs.ok (Fm.cmp false d.1 d.2) ts else Rs.ok (Fm.cmp false (qs.map pS) c) t') = _
    rw [if_neg (by decide)]
  · unfold comparedM
    rw [if_neg (by decide), if_neg (by decide), if_neg (by decide), h]
    show (if cs ">" = cs "<" ∨ cs ">" = cs ">" then (linM (qs.map pS) (c + 1) t').bind fun d ts => Rs.ok (Fm.cmp false d.1 d.2) ts else Rs.ok (Fm.cmp false (qs.map pS) c) t') = _
    rw [if_pos (Or.inr rfl)]
    show (linM (qs.map pS) (c + 1) t').bind _ = _
    rw [l1]
    rfl
end Dw

namespace Dw
open PySem PySem.Spec PyProof.Rows L2 SX
theorem gword_no {z : List Nat} (g : GWord z) (i : Nat) (m : List Tk) : ∀ s ∈ ["~", "(", "-", "some", "all", "pow"], seesM (cs s) (⟨.word z, i⟩ :: m) = false := by
  intro s hs
  have n : z ≠ cs s := by
    intro e
    obtain ⟨c, r, e2, hc⟩ := g.hd
    have D : ∀ s ∈ ["~", "(", "-", "some", "all", "pow"], ((cs s).head?.getD 0 ∉ UPP) := by decide +kernel
    have d := D s hs
    rw [← e, e2] at d
    exact d hc
  exact decide_eq_false n
theorem skip_ok (len : Nat) (s : String) (i : Nat) (m : List Tk) : skipM len (cs s) (⟨sg s, i⟩ :: m) = .ok () m := by
  unfold skipM
  rw [if_pos (sees_sg _ _ _)]
  rfl
theorem sees_rs (s : String) (i : Nat) (m : List Tk) : seesM (cs s) (⟨rsv s, i⟩ :: m) = true := decide_eq_true rfl
theorem skip_res (len : Nat) (s : String) (i : Nat) (m : List Tk) : skipM len (cs s) (⟨rsv s, i⟩ :: m) = .ok () m := by
  unfold skipM
  rw [if_pos (show seesM (cs s) (⟨rsv s, i⟩ :: m) = true from decide_eq_true rfl)]
  rfl
theorem fF {b : Bool} (h : b = false) : ¬ b = true := by rw [h]; decide
theorem unit_cmp (len n : Nat) {ts : List Tk} (h : SideHd ts) : unitM len (n + 1) ts = cmpM len ts := by
  have k : (∀ s ∈ ["~", "(", "some", "all", "pow"], seesM (cs s) ts = false) ∧ isWord ts = false ∧ (isName ts && seesM (cs "(") ts.tail) = false := by
    rcases h with ⟨i, m, rfl⟩ | ⟨x, i, m, rfl⟩ | ⟨z, i, m, rfl, g, hp⟩
    · refine ⟨fun s hs => sees_sgN i m ?_, rfl, rfl⟩
      have D : ∀ s ∈ ["~", "(", "some", "all", "pow"], cs "-" ≠ cs s := by decide +kernel
      exact D s hs
    · exact ⟨fun _ _ => rfl, rfl, rfl⟩
    · refine ⟨fun s hs => gname_no g i m s (by revert hs; revert s; decide), rfl, ?_⟩
      show (true && seesM (cs "(") m) = false
      rw [hp]
      rfl
  obtain ⟨k1, k2, k3⟩ := k
  unfold unitM
  try dsimp only
  rw [if_neg (fF (k1 "~" (by decide))), if_neg (fF (k1 "(" (by decide))), if_neg (fF (by rw [k1 "some" (by decide), k1 "all" (by decide)]; rfl)), if_neg (fF (k1 "pow" (by decide))), if_neg (fF k2), if_neg (fF k3)]
theorem qok_of {qs : List (List Nat × Int)} {c : Int} {k : Bool} (g : (Fm.cmp k (qs.map pS) c).Good) (s : smT (qs.map pS) c) : QOk qs ∧ c.natAbs ≤ 100 := by
  obtain ⟨g1, g2, g3, g4, g5, g6⟩ := g
  obtain ⟨s1, s2, s3⟩ := s
  rw [List.length_map] at s1
  refine ⟨⟨g2, g3, fun q hq => (g4 (pS q) (List.mem_map.mpr ⟨q, hq, rfl⟩)).2, fun q hq => Nat.le_trans (s2 (pS q) (List.mem_map.mpr ⟨q, hq, rfl⟩)) (by decide), fun q hq => ?_, by omega⟩, s3⟩
  obtain ⟨l, gl, e⟩ := g1 (pS q) (List.mem_map.mpr ⟨q, hq, rfl⟩)
  have e2 : q.1 = l := S_inj e
  rw [e2]
  exact gl
theorem cmp_read (len n : Nat) {qs : List (List Nat × Int)} {c : Int} {xs : List Tv} {ts t' : List Tk} (q : QOk qs) (hc : c.natAbs ≤ 101) (hd : Hd ts xs t') (hb : Base t') :
    (CmpS qs c "=" xs → unitM len (n + 1) ts = .ok (.cmp true (qs.map pS) c) t') ∧ (CmpS qs c "!=" xs → unitM len (n + 1) ts = .ok (.not (.cmp true (qs.map pS) c)) t') ∧ (CmpS qs c "<=" xs → unitM len (n + 1) ts = .ok (.cmp false (qs.map pS) c) t') ∧ (CmpS qs (c - 1) "<" xs → unitM len (n + 1) ts = .ok (.cmp false (qs.map pS) c) t') ∧
    (CmpS (qs.map ngQ) (0 - c) ">=" xs → unitM len (n + 1) ts = .ok (.cmp false (qs.map pS) c) t') ∧ (CmpS (qs.map ngQ) (1 - c) ">" xs → unitM len (n + 1) ts = .ok (.cmp false (qs.map pS) c) t') := by
  refine ⟨fun h => ?_, fun h => ?_, fun h => ?_, fun h => ?_, fun h => ?_, fun h => ?_⟩
  · obtain ⟨h0, a, b, h1, h2, _⟩ := cmpM_ok len h hd (by decide) q (by omega) hb
    rw [unit_cmp len n h0, h1]
    exact (cmp_s (n := 0) q (by omega) h2).1
  · obtain ⟨h0, a, b, h1, h2, _⟩ := cmpM_ok len h hd (by decide) q (by omega) hb
    rw [unit_cmp len n h0, h1]
    exact (cmp_s (n := 0) q (by omega) h2).2.1
  · obtain ⟨h0, a, b, h1, h2, _⟩ := cmpM_ok len h hd (by decide) q (by omega) hb
    rw [unit_cmp len n h0, h1]
    exact (cmp_s (n := 0) q (by omega) h2).2.2.1
  · obtain ⟨h0, a, b, h1, h2, _⟩ := cmpM_ok len h hd (by decide) q (by omega) hb
    rw [unit_cmp len n h0, h1]
    have := (cmp_s (n := 0) q (by omega) h2).2.2.2
    rw [show c - 1 + 1 = c by omega] at this
    exact this
  · obtain ⟨h0, a, b, h1, _, h2⟩ := cmpM_ok len h hd (by decide) q.ng (by omega) hb
    rw [map_ng2, show 0 - (0 - c) = c by omega] at h2
    rw [unit_cmp len n h0, h1]
    exact (cmp_g q (by omega) h2).1
  · obtain ⟨h0, a, b, h1, _, h2⟩ := cmpM_ok len h hd (by decide) q.ng (by omega) hb
    rw [map_ng2, show 0 - (1 - c) = c - 1 by omega] at h2
    rw [unit_cmp len n h0, h1]
    have := (cmp_g q (by omega) h2).2
    rw [show c - 1 + 1 = c by omega] at this
    exact this
theorem word_read (len n : Nat) {w z : List Nat} {o : Nat} {ts t' : List Tk} (gw : GWord w) (ho : o ≤ 9) :
    (Hd ts [.word w, sg "[", .name z, sg "]", sg "=", .num o] t' → unitM len (n + 1) ts = .ok (.word w z (o : Nat)) t') ∧ (Hd ts [.word w, sg "[", .name z, sg "]", sg "!=", .num o] t' → unitM len (n + 1) ts = .ok (.not (.word w z (o : Nat))) t') := by
  have U : ∀ (i : Nat) (m : List Tk), unitM len (n + 1) (⟨.word w, i⟩ :: m) = wordM len (⟨.word w, i⟩ :: m) := fun i m => by
    have k1 := gword_no gw i m
    unfold unitM
    try dsimp only
    rw [if_neg (fF (k1 "~" (by decide))), if_neg (fF (k1 "(" (by decide))), if_neg (fF (by rw [k1 "some" (by decide), k1 "all" (by decide)]; rfl)), if_neg (fF (k1 "pow" (by decide))), if_pos (show isWord (⟨Tv.word w, i⟩ :: m) = true from rfl)]
  have O : ∀ (i : Nat) (m : List Tk), outputM len (⟨.num o, i⟩ :: m) = .ok o m := fun i m => by
    show (if 9 < o then _ else _) = _
    rw [if_neg (by omega)]
  constructor
  · rintro ⟨i1, m1, rfl, i2, m2, rfl, i3, m3, rfl, i4, m4, rfl, i5, m5, rfl, i6, m6, rfl, e⟩
    have e : m6 = t' := e
    subst e
    rw [U]
    have hE : seesM (cs "!=") (⟨sg "=", i5⟩ :: ⟨.num o, i6⟩ :: m6) = false := sees_sgN _ _ (by decide)
    simp only [wordM, takeWord, takeName, Rs.bind, skip_ok, hE, O, Bool.false_eq_true, if_false]
  · rintro ⟨i1, m1, rfl, i2, m2, rfl, i3, m3, rfl, i4, m4, rfl, i5, m5, rfl, i6, m6, rfl, e⟩
    have e : m6 = t' := e
    subst e
    rw [U]
    have hE : seesM (cs "!=") (⟨sg "!=", i5⟩ :: ⟨.num o, i6⟩ :: m6) = true := sees_sg _ _ _
    simp only [wordM, takeWord, takeName, Rs.bind, skip_ok, hE, O, if_true, List.tail_cons]
theorem atom_read (len n : Nat) {f : Fm} {xs : List Tv} {ts t' : List Tk} (h : AtomS f xs) (g : f.Good) (s : f.Sm) (hd : Hd ts xs t') (hb : Base t') : unitM len (n + 1) ts = .ok f t' := by
  cases h with
  | pow z =>
    obtain ⟨i1, m1, rfl, i2, m2, rfl, i3, m3, rfl, i4, m4, rfl, e⟩ := hd
    have e : m4 = t' := e
    subst e
    have k : ∀ s ∈ ["~", "(", "some", "all"], seesM (cs s) (⟨rsv "pow", i1⟩ :: ⟨sg "(", i2⟩ :: ⟨.name z, i3⟩ :: ⟨sg ")", i4⟩ :: m4) = false := fun s hs => by
      have D : ∀ s ∈ ["~", "(", "some", "all"], cs "pow" ≠ cs s := by decide +kernel
      exact decide_eq_false (D s hs)
    unfold unitM
    try dsimp only
    rw [if_neg (fF (k "~" (by decide))), if_neg (fF (k "(" (by decide))), if_neg (fF (by rw [k "some" (by decide), k "all" (by decide)]; rfl)), if_pos (show seesM (cs "pow") (⟨rsv "pow", i1⟩ :: ⟨sg "(", i2⟩ :: ⟨.name z, i3⟩ :: ⟨sg ")", i4⟩ :: m4) = true from sees_rs "pow" i1 _)]
    simp only [powM, skip_res, takeName, Rs.bind, skip_ok]
  | word w z o => exact (word_read len n g.1 (by have := g.2.2.2; omega)).1 hd
  | call y zs =>
    obtain ⟨gy, gz, _, _⟩ := g
    obtain ⟨i1, m1, rfl, i2, m2, rfl, h2⟩ := hd
    obtain ⟨m3, h3, i4, m4, rfl, e⟩ := h2.append
    have e : m4 = t' := e
    subst e
    obtain ⟨z, r, rfl⟩ : ∃ z r, zs = z :: r := by
      cases zs with
      | nil => exact absurd rfl gz
      | cons z r => exact ⟨z, r, rfl⟩
    have k1 := gname_no gy i1 (⟨sg "(", i2⟩ :: m2)
    unfold unitM
    try dsimp only
    rw [if_neg (fF (k1 "~" (by decide))), if_neg (fF (k1 "(" (by decide))), if_neg (fF (by rw [k1 "some" (by decide), k1 "all" (by decide)]; rfl)), if_neg (fF (k1 "pow" (by decide))), if_neg (fF (show isWord (⟨Tv.name y, i1⟩ :: ⟨sg "(", i2⟩ :: m2) = false from rfl)), if_pos (show (isName (⟨Tv.name y, i1⟩ :: ⟨sg "(", i2⟩ :: m2) && seesM (cs "(") (⟨Tv.name y, i1⟩ :: ⟨sg "(", i2⟩ :: m2).tail) = true by show (true && seesM (cs "(") (⟨sg "(", i2⟩ :: m2)) = true; rw [sees_sg]; rfl)]
    have hN := namesM_ok len h3 (sees_sgN (s := ")") (a := ",") i4 m4 (by decide))
    simp only [callM, takeName, Rs.bind, skip_ok, hN]
  | eq h => obtain ⟨q, hc⟩ := qok_of g s; exact (cmp_read len n q (by omega) hd hb).1 h
  | le h => obtain ⟨q, hc⟩ := qok_of g s; exact (cmp_read len n q (by omega) hd hb).2.2.1 h
  | lt h => obtain ⟨q, hc⟩ := qok_of g s; exact (cmp_read len n q (by omega) hd hb).2.2.2.1 h
  | ge h => obtain ⟨q, hc⟩ := qok_of g s; exact (cmp_read len n q (by omega) hd hb).2.2.2.2.1 h
  | gt h => obtain ⟨q, hc⟩ := qok_of g s; exact (cmp_read len n q (by omega) hd hb).2.2.2.2.2 h
end Dw

namespace Dw
open PySem PySem.Spec PyProof.Rows L2 SX
def OutL (len n : Nat) : Nat → Fm → List Tk → List Tk → Prop
  | 0, f, ts, t' => formM (unitM len n) ts = .ok f t'
  | 1, f, ts, t' => impM (unitM len n) ts = .ok f t'
  | 2, f, ts, t' => ∃ m, t'.length < m ∧ eitherM (unitM len n) ts = loopM (cs "|") 1 (bothM (unitM len n)) m f t'
  | 3, f, ts, t' => ∃ m, t'.length < m ∧ bothM (unitM len n) ts = loopM (cs "&") 0 (unitM len n) m f t'
  | _, f, ts, t' => unitM len n ts = .ok f t'
def NS (L : Nat) (t' : List Tk) : Prop := (L ≤ 2 → seesM (cs "&") t' = false) ∧ (L ≤ 1 → seesM (cs "|") t' = false ∧ seesM (cs "=>") t' = false) ∧ (L = 0 → seesM (cs "<=>") t' = false)
theorem NS.mono {L M : Nat} {t' : List Tk} (h : NS L t') (hm : L ≤ M) : NS M t' := ⟨fun q => h.1 (by omega), fun q => h.2.1 (by omega), fun q => h.2.2 (by omega)⟩
theorem clo_ns {t' : List Tk} (h : Clo t') (L : Nat) : NS L t' := ⟨fun _ => clo_no h "&" (by decide), fun _ => ⟨clo_no h "|" (by decide), clo_no h "=>" (by decide)⟩, fun _ => clo_no h "<=>" (by decide)⟩
theorem loop_end {s : List Nat} {k : Fin 4} {u : List Tk → Rs Fm} {m : Nat} {f : Fm} {t' : List Tk} (h : seesM s t' = false) (hm : t'.length < m) : loopM s k u m f t' = .ok f t' := by
  obtain ⟨m2, rfl⟩ : ∃ m2, m = m2 + 1 := ⟨m - 1, by omega⟩
  unfold loopM
  rw [if_neg (fF h)]
theorem loop_step {s : List Nat} {k : Fin 4} {u : List Tk → Rs Fm} {m : Nat} {f g : Fm} {t1 : Tk} {t2 t' : List Tk} (h : seesM s (t1 :: t2) = true) (hu : u t2 = .ok g t') : loopM s k u (m + 1) f (t1 :: t2) = loopM s k u m (.bin k f g) t' := by
  show (if seesM s (t1 :: t2) then (u t2).bind fun g ts2 => loopM s k u m (.bin k f g) ts2 else _) = _
  rw [if_pos h, hu]
  rfl
theorem up {len n L : Nat} {f : Fm} {ts t' : List Tk} (h : OutL len n (L + 1) f ts t') (ns : NS L t') (hL : L ≤ 3) : OutL len n L f ts t' := by
  match L, hL with
  | 3, _ =>
    have h : unitM len n ts = .ok f t' := h
    refine ⟨t'.length + 1, Nat.lt_succ_self _, ?_⟩
    unfold bothM
    rw [h]
    rfl
  | 2, _ =>
    obtain ⟨m, hm, e⟩ := h
    refine ⟨t'.length + 1, Nat.lt_succ_self _, ?_⟩
    rw [loop_end (ns.1 (Nat.le_refl _)) hm] at e
    unfold eitherM
    rw [e]
    rfl
  | 1, _ =>
    obtain ⟨m, hm, e⟩ := h
    rw [loop_end (ns.2.1 (Nat.le_refl _)).1 hm] at e
    show impM (unitM len n) ts = .ok f t'
    unfold impM
    rw [e]
    show (if seesM (cs "=>") t' then (eitherM (unitM len n) t'.tail).bind fun g ts3 => Rs.ok (.bin 2 f g) ts3 else Rs.ok f t') = _
    rw [if_neg (fF (ns.2.1 (Nat.le_refl _)).2)]
  | 0, _ =>
    have h : impM (unitM len n) ts = .ok f t' := h
    show formM (unitM len n) ts = .ok f t'
    unfold formM
    rw [h]
    show (if seesM (cs "<=>") t' then (impM (unitM len n) t'.tail).bind fun g ts3 => Rs.ok (.bin 3 f g) ts3 else Rs.ok f t') = _
    rw [if_neg (fF (ns.2.2 rfl))]
theorem climb {len n L : Nat} {f : Fm} {ts t' : List Tk} (ns : NS L t') : ∀ d : Nat, L + d ≤ 4 → OutL len n (L + d) f ts t' → OutL len n L f ts t'
  | 0, _, h => h
  | d + 1, hd, h => climb ns d (by omega) (up (L := L + d) h (ns.mono (Nat.le_add_right _ _)) (by omega))
theorem climb4 {len n L : Nat} {f : Fm} {ts t' : List Tk} (ns : NS L t') (hL : L ≤ 4) (h : unitM len n ts = .ok f t') : OutL len n L f ts t' := by
  refine climb ns (4 - L) (by omega) ?_
  rw [show L + (4 - L) = 4 by omega]
  exact h
theorem paren_read {len n i j : Nat} {m t' : List Tk} {f : Fm} (h : formM (unitM len n) m = .ok f (⟨sg ")", j⟩ :: t')) : unitM len (n + 1) (⟨sg "(", i⟩ :: m) = .ok f t' := by
  unfold unitM
  rw [if_neg (fF (sees_sgN (s := "(") (a := "~") i m (by decide))), if_pos (sees_sg "(" i m)]
  show (formM (unitM len n) m).bind _ = _
  rw [h]
  simp only [Rs.bind, skip_ok]
theorem clo_paren (j : Nat) (t' : List Tk) : Clo (⟨sg ")", j⟩ :: t') := .inr (sees_sg ")" j t')
theorem fold_good (k : Bool) (a : Fm) : ∀ zs : List (List Nat), (zs.foldr (fun z f => Fm.qf k z f) a).Good → a.Good
  | [], h => h
  | z :: zs, h => fold_good k a zs h.2
theorem fold_dp (k : Bool) (a : Fm) : ∀ zs : List (List Nat), dpN (zs.foldr (fun z f => Fm.qf k z f) a) = zs.length + dpN a
  | [] => by simp
  | z :: zs => by
    show dpN (zs.foldr (fun z f => .qf k z f) a) + 1 = _
    rw [fold_dp k a zs, List.length_cons]
    omega
theorem quant_read {len n : Nat} {k : Bool} {z : List Nat} {zs : List (List Nat)} {a : Fm} {xs : List Tv} {ts t' : List Tk} (hd : Hd ts (.res (kQf k) :: (namesJ (z :: zs) ++ sg ":" :: xs)) t') (h : ∀ m, Hd m xs t' → formM (unitM len n) m = .ok a t') : unitM len (n + 1) ts = .ok ((z :: zs).foldr (fun z f => .qf k z f) a) t' := by
  obtain ⟨i, m1, rfl, h1⟩ := hd
  obtain ⟨m2, h2, j, m3, rfl, h3⟩ := h1.append
  have hn := namesM_ok len h2 (sees_sgN (s := ":") (a := ",") j m3 (by decide))
  have hf := h m3 h3
  have q : quantM len (unitM len n) (⟨.res (kQf k), i⟩ :: m1) = .ok ((z :: zs).foldr (fun z f => .qf k z f) a) t' := by
    cases k with
    | true =>
      simp only [quantM, takeRes, Rs.bind, hn, skip_ok, hf]
      rw [if_pos (show kQf true = cs "some" from rfl)]
    | false =>
      simp only [quantM, takeRes, Rs.bind, hn, skip_ok, hf]
      rw [if_neg (by decide), if_pos (show kQf false = cs "all" from rfl)]
  have n1 : seesM (cs "~") (⟨.res (kQf k), i⟩ :: m1) = false := decide_eq_false ((by decide : ∀ k, kQf k ≠ cs "~") k)
  have n2 : seesM (cs "(") (⟨.res (kQf k), i⟩ :: m1) = false := decide_eq_false ((by decide : ∀ k, kQf k ≠ cs "(") k)
  have n3 : (seesM (cs "some") (⟨.res (kQf k), i⟩ :: m1) || seesM (cs "all") (⟨.res (kQf k), i⟩ :: m1)) = true := (by decide : ∀ k, (decide (kQf k = cs "some") || decide (kQf k = cs "all")) = true) k
  unfold unitM
  rw [if_neg (fF n1), if_neg (fF n2), if_pos n3]
  exact q
end Dw

namespace Dw
open PySem PySem.Spec PyProof.Rows L2 SX
theorem sign_sees (k : Fin 4) (i : Nat) (m : List Tk) : Base (⟨binSg k, i⟩ :: m) := by
  refine .inr ?_
  match k with
  | 0 => exact ⟨"&", by decide, sees_sg "&" i m⟩
  | 1 => exact ⟨"|", by decide, sees_sg "|" i m⟩
  | 2 => exact ⟨"=>", by decide, sees_sg "=>" i m⟩
  | 3 => exact ⟨"<=>", by decide, sees_sg "<=>" i m⟩
/-- what is spelled is read: at each level, before what may follow there -/
theorem reads (len : Nat) {f : Fm} {L : Nat} {t : Bool} {xs : List Tv} (h : Spl f L t xs) : f.Good → f.Sm → L ≤ 4 → ∀ n, 2 * dpN f + (if L = 0 ∧ t = true then 0 else 1) ≤ n → ∀ ts t', Hd ts xs t' → Base t' → (t = true → Clo t') → NS L t' → OutL len n L f ts t' := by
  have pos : ∀ f : Fm, 0 < dpN f := fun f => by cases f <;> exact Nat.succ_pos _
  induction h with
  | @binP k a b L t xs hL h ih =>
    intro hg hs hL4 n hn ts t' hd hb hc hns
    rw [if_neg (fun z => by omega)] at hn
    obtain ⟨n, rfl⟩ : ∃ m, n = m + 1 := ⟨n - 1, by omega⟩
    obtain ⟨i, m1, rfl, h1⟩ := hd
    obtain ⟨m2, h2, j, m3, rfl, e⟩ := h1.append
    have e : m3 = t' := e
    subst e
    have := ih hg hs (Nat.zero_le _) n (by rw [if_pos ⟨rfl, rfl⟩]; omega) m1 _ h2 (clo_base (clo_paren _ _)) (fun _ => clo_paren _ _) (clo_ns (clo_paren _ _) _)
    exact climb4 hns hL4 (paren_read this)
  | @bin k a b L t xs ys hL h1 h2 i1 i2 =>
    intro hg hs hL4 n hn ts t' hd hb hc hns
    obtain ⟨m1, hx, i, m2, rfl, hy⟩ := hd.append
    have hdp : dpN (.bin k a b) = max (dpN a) (dpN b) + 1 := rfl
    have ho := own_le k
    have hn2 : 2 * dpN (.bin k a b) ≤ n := Nat.le_trans (Nat.le_add_right _ _) hn
    have A := i1 hg.1 hs.1 ho.2 n (by rw [if_neg (fun z => by cases z.2)]; omega) ts _ hx (sign_sees k i m2) (fun z => by cases z)
    have B := i2 hg.2 hs.2 (by omega) n (by split <;> omega) m2 t' hy hb hc (hns.mono (by omega))
    have go : OutL len n (ownB k) (.bin k a b) ts t' := by
      match k, hns, hL, A, B with
      | 0, hns, hL, A, B =>
        obtain ⟨m, hm, e⟩ := A ⟨fun q => absurd q (by decide), fun q => absurd q (by decide), fun q => absurd q (by decide)⟩
        have B : unitM len n m2 = .ok b t' := B
        obtain ⟨m, rfl⟩ : ∃ q, m = q + 1 := ⟨m - 1, by omega⟩
        have hyl := hy.len
        refine ⟨m, by rw [List.length_cons] at hm; omega, ?_⟩
        rw [e]
        exact loop_step (sees_sg "&" i m2) B
      | 1, hns, hL, A, B =>
        obtain ⟨m, hm, e⟩ := A ⟨fun _ => sees_sgN (s := "|") i m2 (by decide), fun q => absurd q (by decide), fun q => absurd q (by decide)⟩
        obtain ⟨mb, hmb, eb⟩ := B
        obtain ⟨m, rfl⟩ : ∃ q, m = q + 1 := ⟨m - 1, by omega⟩
        have hyl := hy.len
        refine ⟨m, by rw [List.length_cons] at hm; omega, ?_⟩
        rw [e]
        refine loop_step (sees_sg "|" i m2) ?_
        rw [eb]
        exact loop_end (hns.1 hL) hmb
      | 2, hns, hL, A, B =>
        obtain ⟨m, hm, e⟩ := A ⟨fun _ => sees_sgN (s := "=>") i m2 (by decide), fun q => absurd q (by decide), fun q => absurd q (by decide)⟩
        have e : eitherM (unitM len n) ts = loopM (cs "|") 1 (bothM (unitM len n)) m a (⟨sg "=>", i⟩ :: m2) := e
        rw [loop_end (sees_sgN (s := "=>") (a := "|") i m2 (by decide)) hm] at e
        obtain ⟨mb, hmb, eb⟩ := B
        rw [loop_end (hns.2.1 hL).1 hmb] at eb
        show impM (unitM len n) ts = _
        unfold impM
        rw [e]
        show (if seesM (cs "=>") (⟨sg "=>", i⟩ :: m2) then (eitherM (unitM len n) m2).bind fun g ts3 => Rs.ok (.bin 2 a g) ts3 else Rs.ok a (⟨sg "=>", i⟩ :: m2)) = _
        rw [if_pos (sees_sg "=>" i m2), eb]
        rfl
      | 3, hns, hL, A, B =>
        have A : impM (unitM len n) ts = .ok a _ := A ⟨fun _ => sees_sgN (s := "<=>") i m2 (by decide), fun _ => ⟨sees_sgN (s := "<=>") i m2 (by decide), sees_sgN (s := "<=>") i m2 (by decide)⟩, fun q => absurd q (by decide)⟩
        have B : impM (unitM len n) m2 = .ok b t' := B
        show formM (unitM len n) ts = _
        unfold formM
        rw [A]
        show (if seesM (cs "<=>") (⟨sg "<=>", i⟩ :: m2) then (impM (unitM len n) m2).bind fun g ts3 => Rs.ok (.bin 3 a g) ts3 else Rs.ok a (⟨sg "<=>", i⟩ :: m2)) = _
        rw [if_pos (sees_sg "<=>" i m2), B]
        rfl
    refine climb hns (ownB k - L) (by omega) ?_
    rw [show L + (ownB k - L) = ownB k by omega]
    exact go
  | @qfP k z a L xs h ih =>
    intro hg hs hL4 n hn ts t' hd hb hc hns
    rw [if_neg (fun z => by cases z.2)] at hn
    obtain ⟨n, rfl⟩ : ∃ m, n = m + 1 := ⟨n - 1, by omega⟩
    obtain ⟨i, m1, rfl, h1⟩ := hd
    obtain ⟨m2, h2, j, m3, rfl, e⟩ := h1.append
    have e : m3 = t' := e
    subst e
    have := ih hg hs (Nat.zero_le _) n (by rw [if_pos ⟨rfl, rfl⟩]; omega) m1 _ h2 (clo_base (clo_paren _ _)) (fun _ => clo_paren _ _) (clo_ns (clo_paren _ _) _)
    exact climb4 hns hL4 (paren_read this)
  | @qf k z zs a L xs h ih =>
    intro hg hs hL4 n hn ts t' hd hb hc hns
    have hdp := fold_dp k a (z :: zs)
    rw [List.length_cons] at hdp
    have hn2 : 2 * dpN ((z :: zs).foldr (fun z f => Fm.qf k z f) a) ≤ n := Nat.le_trans (Nat.le_add_right _ _) hn
    obtain ⟨n, rfl⟩ : ∃ m, n = m + 1 := ⟨n - 1, by omega⟩
    have hcl := hc rfl
    refine climb4 hns hL4 (quant_read hd fun m hm => ?_)
    exact ih (fold_good k a _ hg) (qf_sm k a _ hs) (Nat.zero_le _) n (by rw [if_pos ⟨rfl, rfl⟩]; omega) m t' hm hb (fun _ => hcl) (clo_ns hcl _)
  | @notE qs c L t xs h =>
    intro hg hs hL4 n hn ts t' hd hb hc hns
    have hn2 := Nat.le_trans (Nat.le_add_right _ _) hn
    have h0 := pos (.not (.cmp true (qs.map pS) c))
    obtain ⟨n, rfl⟩ : ∃ m, n = m + 1 := ⟨n - 1, by omega⟩
    obtain ⟨q, hcc⟩ := qok_of (k := true) hg hs
    exact climb4 hns hL4 ((cmp_read len n q (by omega) hd hb).2.1 h)
  | @notW w z o L t =>
    intro hg hs hL4 n hn ts t' hd hb hc hns
    have hn2 := Nat.le_trans (Nat.le_add_right _ _) hn
    have h0 := pos (.not (.word w z (o : Nat)))
    obtain ⟨n, rfl⟩ : ∃ m, n = m + 1 := ⟨n - 1, by omega⟩
    have hg : (Fm.word w z (o : Nat)).Good := hg
    exact climb4 hns hL4 ((word_read len n hg.1 (by have := hg.2.2.2; omega)).2 hd)
  | @not a L t xs h ih =>
    intro hg hs hL4 n hn ts t' hd hb hc hns
    have hdp : dpN (.not a) = dpN a + 1 := rfl
    have hn2 : 2 * dpN (.not a) ≤ n := Nat.le_trans (Nat.le_add_right _ _) hn
    obtain ⟨n, rfl⟩ : ∃ m, n = m + 1 := ⟨n - 1, by omega⟩
    obtain ⟨i, m1, rfl, h1⟩ := hd
    have : unitM len n m1 = .ok a t' := ih hg hs (Nat.le_refl _) n (by rw [if_neg (fun z => by cases z.1)]; omega) m1 t' h1 hb hc ⟨fun q => absurd q (by decide), fun q => absurd q (by decide), fun q => absurd q (by decide)⟩
    refine climb4 hns hL4 ?_
    unfold unitM
    rw [if_pos (sees_sg "~" i m1)]
    show (unitM len n m1).bind _ = _
    rw [this]
    rfl
  | @atomP f L t xs h =>
    intro hg hs hL4 n hn ts t' hd hb hc hns
    have hn2 : 2 * dpN f ≤ n := Nat.le_trans (Nat.le_add_right _ _) hn
    have h0 := pos f
    obtain ⟨n, rfl⟩ : ∃ m, n = m + 2 := ⟨n - 2, by omega⟩
    obtain ⟨i, m1, rfl, h1⟩ := hd
    obtain ⟨m2, h2, j, m3, rfl, e⟩ := h1.append
    have e : m3 = t' := e
    subst e
    have := atom_read len n h hg hs h2 (clo_base (clo_paren _ _))
    have : OutL len (n + 1) 0 f m1 _ := climb4 (clo_ns (clo_paren _ _) _) (Nat.zero_le _) this
    exact climb4 hns hL4 (paren_read this)
  | @atom f L t xs h =>
    intro hg hs hL4 n hn ts t' hd hb hc hns
    have hn2 : 2 * dpN f ≤ n := Nat.le_trans (Nat.le_add_right _ _) hn
    have h0 := pos f
    obtain ⟨n, rfl⟩ : ∃ m, n = m + 1 := ⟨n - 1, by omega⟩
    exact climb4 hns hL4 (atom_read len n h hg hs hd hb)
theorem parse_reads (len : Nat) {f : Fm} {xs : List Tv} {ts : List Tk} (h : Spl f 0 true xs) (hg : f.Good) (hs : f.Sm) (hx : ts.map Tk.x = xs) (hd : dpN f ≤ 15) (hz : szN f ≤ 200) : parseM len ts = .ok f [] := by
  have r : formM (unitM len 30) ts = .ok f [] := reads len h hg hs (Nat.zero_le _) 30 (by rw [if_pos ⟨rfl, rfl⟩]; omega) ts [] (by rw [← hx]; exact Hd.of ts) (.inl rfl) (fun _ => .inl rfl) (clo_ns (.inl rfl) _)
  unfold parseM
  rw [r]
  show (if ([] : List Tk).isEmpty = false then Rs.mal (spotM len []) else if 1000 < szN f then Rs.out else if szN f ≤ 200 ∧ dpN f ≤ 30 then Rs.ok f [] else Rs.over "nodes") = _
  rw [if_neg (by decide), if_neg (by omega), if_pos ⟨hz, by omega⟩]
end Dw

namespace PySem
set_option maxHeartbeats 8000000 in
/-- the two cells that enumerate of any beginning thing makes -/
theorem dwMeetsEnum {x : Value} {ob : Obj} {St0 : Heap → Prop} (bg : Begins x ob St0) :
    Meets (Builtin.«enumerate.__new__»
        ⟨[.type "enumerate", x], []⟩)
      (fun _ R s => St0 s.heap ∧ R (.ok (.ret (.ref (s.heap.push ob).objs.size)))
        { s with heap := (s.heap.push ob).push { cls := .type "enumerate", data := .fields #[.none, .bool false, .ref s.heap.objs.size, rawInt 0, .none, .none] } }) := by
  refine .of_wp fun prog w A R s h => ?_
  obtain ⟨hp, g, d, tk, os⟩ := s
  obtain ⟨st, h⟩ := h
  have he := sub_enumerate
  have hb : ∀ {B : Around} {E : Value → Shared → Prop} {Q : Value → Shared → Prop},
      Q (.ref hp.objs.size) ⟨hp.push ob, g, d, tk, os⟩ →
      wpAny (model prog w) B (pyIter x) Q E ⟨hp, g, d, tk, os⟩ :=
    fun q => bg.iter prog w _ _ ⟨hp, g, d, tk, os⟩ _ st q
  wp_walk using hb
  refine wpAny_stack_any fun stk => wpAny_pure ?_
  split
  · rename_i k _ _ _ _ _
    cases (k == Value.type "enumerate") <;>
    · wp_walk using hb
      exact ⟨_, rfl, h⟩
  · wp_walk using hb
    exact ⟨_, rfl, h⟩
/-- enumerate(v) -/
theorem dwCallEnum {prog : Program} {w : World} {A : Around} {E : Value → Shared → Prop} {s : Shared}
    {x : Value} {ob : Obj} {St0 : Heap → Prop} {Q : Value → Shared → Prop} (bg : Begins x ob St0) (st : St0 s.heap)
    (h : ∀ h2, IsEnum h2 (s.heap.objs.size + 1) s.heap.objs.size 0 .none →
      h2.get? s.heap.objs.size = some ob →
      (∀ b o, s.heap.get? b = some o → h2.get? b = some o) →
      Q (.ref (s.heap.objs.size + 1)) { s with heap := h2 }) :
    wpAny (model prog w) A (call (.type "enumerate") [x]) Q E s := by
  have hz : (s.heap.push ob).objs.size = s.heap.objs.size + 1 := Heap.size_push ..
  refine callType_new F.called_enumerate (by decide)
    (F.typeCall_enumerate_1 _) (F.newCall_enumerate_1 _)
    (fun obj => F.args_object_init_2 obj _) F.entry_enumerate_new
    (dwMeetsEnum bg) ⟨st, ?_⟩
  show _ ∧ _
  rw [hz]
  have he : IsEnum ((s.heap.push ob).push { cls := .type "enumerate"
                                            data := .fields #[.none, .bool false, .ref s.heap.objs.size, rawInt 0, .none, .none] })
      (s.heap.objs.size + 1) s.heap.objs.size 0 .none := by
    have q := Heap.get?_push_size (s.heap.push ob)
      (o := { cls := .type "enumerate"
              data := .fields #[.none, .bool false, .ref s.heap.objs.size, rawInt 0, .none, .none] }) rfl
    rwa [hz] at q
  exact ⟨⟨_, he, rfl⟩, h _ he (Heap.get?_push_of_some _ (Heap.get?_push_size _ bg.free))
    fun b o y => Heap.get?_push_of_some _ (Heap.get?_push_of_some _ y)⟩
end PySem
namespace Dw
open PySem PySem.Spec PyProof.Rows L2 SX
/-! enumerate over a tuple -/
def IteT (K : PySem.W.Frag) (a : Addr) : It where
  go := fun i H => ∃ (xs : List V) (x : V), SqT K H a xs ∧ xs[i]? = some x
  yld := fun i H v H' => ∃ T x, v = .ref T ∧ H T = none ∧
    H' = upd H T (.tup [.int (i : Nat), x]) ∧ ∀ xs, SqT K H a xs → xs[i]? = some x
  stop := fun i H => ∃ xs : List V, SqT K H a xs ∧ xs.length ≤ i
theorem turn_enumT {P : Program} {w : World} {K : PySem.W.Frag} {elts : List Expr} {kk : Nat} {tpos : Pos} (a e it : Addr) :
    Turn P w K (.Tuple elts kk tpos) (IteT K a) [e, it] e
      (fun i h => (∃ old, IsEnum h e it ((i : Nat) : Int) old) ∧ h.IsTupleIter it a i ∧ e ≠ it ∧ a ≠ it ∧ a ≠ e) where
  mem := by simp
  obj := fun i h st b hb => by
    obtain ⟨⟨old, he⟩, ⟨o, ho, hc, hd⟩, _⟩ := st
    rcases (show b = e ∨ b = it by simpa using hb) with z | z
    · rw [z]; exact ⟨_, he, fun v q => nomatch q⟩
    · rw [z]; exact ⟨o, ho, fun v q => by rw [hd] at q; cases q⟩
  keep := fun i h h' st k => by
    obtain ⟨⟨old, he⟩, hi, hne⟩ := st
    exact ⟨⟨old, k e (by simp) _ he⟩, hi.at fun o q => k it (by simp) o q, hne⟩
  item := by
    intro X hP hw hK hc i pins s σ H E I hf st hg
    subst hP hw hK
    obtain ⟨⟨old, he⟩, hit, hne, ha1, ha2⟩ := st
    obtain ⟨xs, x, hq, hx⟩ := hg
    obtain ⟨its, rv, p, hz⟩ := I.tuple hq
    obtain ⟨u, hu, ru⟩ := rv.get hx
    have hel : e < s.heap.objs.size := Heap.lt_size he
    have hil : it < s.heap.objs.size := by obtain ⟨_, q, _⟩ := hit; exact Heap.lt_size q
    have dr := Draws.tuple (prog := X.prog) (w := X.w) (A := X.A.in1) (I.ok.hd hc) it a ha1 its.toArray
    have hlt : i < its.toArray.size := by
      rw [List.size_toArray]
      exact (List.getElem?_eq_some_iff.mp hu).1
    refine wpAny_pyNext_enum_itemD dr he ⟨hit, p⟩ hlt hne (by simp [hne, ha2.symm]) fun y h1 tk hy ho st1 hT hsz hk => ?_
    have ey : y = u := by
      have : its.toArray[i]? = some y := hy
      rw [show its.toArray[i]? = its[i]? by simp, hu] at this
      exact (Option.some.inj this).symm
    subst ey
    refine ⟨_, rfl, wpAny_letOwnedTupleGo_enum (s := { s with heap := h1, toks := tk + 1 }) ho fun h2 he2 sb => ?_⟩
    have hT2 : h2.get? s.heap.objs.size = some { cls := .type "tuple", data := .seq #[.int i tk, y] } := (sb.2 _ (Nat.ne_of_gt hel)).trans hT
    have new : ObjOk X.prog X.w (upd H s.heap.objs.size (.tup [.int (i : Nat), x])) h2 s.heap.objs.size (.tup [.int (i : Nat), x]) :=
      ⟨by show 2 ≤ sizeLine; decide, [.int i tk, y], .cons ⟨_, rfl⟩ (.cons ru .nil), ⟨_, hT2, rfl, _, rfl⟩⟩
    have I1 : Inv X pins σ (upd H s.heap.objs.size (.tup [.int (i : Nat), x])) { s with heap := h2, toks := tk + 1 } :=
      I.turnedNew (ch := [e, it]) (fun b ob hb q => (sb.2 b (fun z => hb (by simp [z]))).trans (hk b ob (fun z => hb (by simp [z])) (fun z => hb (by simp [z])) q)) hf (Nat.le_refl _) new
    refine ⟨.ref s.heap.objs.size, _, I1, rfl, ⟨_, x, rfl, I.hok.fresh (Nat.le_refl _), rfl, fun ys hy => by rw [I.tuple_inj hy hq]; exact hx⟩,
      ⟨⟨y, ?_⟩, st1.1.at fun o q => (sb.2 it (Ne.symm hne)).trans q, hne, ha1, ha2⟩, fun b hb => ?_⟩
    · rw [show ((i + 1 : Nat) : Int) = (i : Int) + 1 by omega]
      exact he2
    · have hb' : b < s.heap.objs.size := by
        rcases (show b = e ∨ b = it by simpa using hb) with z | z
        · rw [z]; exact hel
        · rw [z]; exact hil
      rw [upd_ne (Nat.ne_of_lt hb')]
      exact (hf b hb).1
  done := by
    intro X hP hw hK hc i pins s σ H E I hf st hg
    subst hP hw hK
    obtain ⟨⟨old, he⟩, hit, hne, ha1, ha2⟩ := st
    obtain ⟨xs, hq, hx⟩ := hg
    obtain ⟨its, rv, p, hz⟩ := I.tuple hq
    obtain ⟨f0, f1, f2, f3, f4, f5⟩ := hf it (by simp)
    have hl := rv.length
    have hno : its.toArray[i]? = none := by simp; omega
    have dr : Draws X.prog X.w X.A.in1 it [it, a] i (fun _ _ => True) (fun j h => (h.IsTupleIter it a j ∧ h.IsTuple a its.toArray) ∧ j = i) :=
      { live := fun _ _ st => let ⟨o, ho, _⟩ := st.1.1; ⟨o, ho⟩
        frame := fun _ _ _ st hk => ⟨⟨st.1.1.at fun o e => hk it (by simp) o e, st.1.2.at fun o e => hk a (by simp) o e⟩, st.2⟩
        item := fun j s Q E hi st hQ => absurd st.2 (by omega)
        done := fun s Q E st hE => wpAny_nextOf_tuple_end (I.ok.hd hc) st.1.1 st.1.2 hno hE }
    exact wpAny_pyNext_enum_endD dr he ⟨⟨hit, p⟩, rfl⟩ fun h2 eb => ⟨rfl, I.turned (t' := s.toks) (fun b o hb q => eb b o hb q) f0 f1 f3 f4 f5⟩
  self := fun A i s Q E st h => by
    obtain ⟨⟨_, he⟩, _⟩ := st
    exact wpAny_pyIter_enum he h
def iEnumT (K : PySem.W.Frag) (ta : TA) : TI := fun σ H R => ta σ H fun vs H1 =>
  ∃ a xs, vs = [.ref a] ∧ SqT K H1 a xs ∧ R (IteT K a) H1
theorem piET {X : Cx} (K : PySem.W.Frag) {e : Expr} {ta : TA} {p pos tpos : Pos} {elts : List Expr} {kk : Nat} (hg : Gl X "enumerate") (hm : X.mg "enumerate" = none)
    (ha : PA X [e] ta) (hs : starEach [e] X.env = [(false, eval e X.env)] := by rfl) (hK : X.K = K := by rfl) :
    PI X (.Tuple elts kk tpos) (.Call (.Name "enumerate" p) [e] [] pos) (iEnumT K ta) := by
  subst hK
  refine ⟨fun pins s σ H R I h => Call_ (ld_blt I hg hm boot_enumerate ?_)⟩
  refine PyProof.Rows.callWith_type1 (thn (ha.run pos pins s σ H _ I h) fun us s1 ⟨vs, H1, I1, r1, q1⟩ => ?_) hs rfl
  obtain ⟨a, xs, ex, hq, q⟩ := q1
  subst ex
  cases r1 with
  | cons r rr =>
    cases rr
    cases r
    obtain ⟨its, rv, pt, hz⟩ := I1.tuple hq
    refine dwCallEnum (begins_tuple a its.toArray) pt fun h2 he hit hk => wpAny_pyIter_enum he ?_
    have hal : a < s1.heap.objs.size := by obtain ⟨_, q, _⟩ := pt; exact Heap.lt_size q
    refine ⟨s1.heap.objs.size + 1, [s1.heap.objs.size + 1, s1.heap.objs.size], _, _, H1, rfl, I1.kept (t' := s1.toks) hk,
      turn_enumT a (s1.heap.objs.size + 1) s1.heap.objs.size, ⟨⟨.none, he⟩, ⟨_, hit, rfl, rfl⟩, Nat.succ_ne_self _, Nat.ne_of_lt hal, Nat.ne_of_lt (Nat.lt_succ_of_lt hal)⟩, fun b hb => ?_, q⟩
    have hle : s1.heap.objs.size ≤ b := by
      rcases (show b = s1.heap.objs.size + 1 ∨ b = s1.heap.objs.size by simpa using hb) with z | z
      · rw [z]; exact Nat.le_succ _
      · rw [z]; exact Nat.le_refl _
    exact I1.fpOk hle (I1.hok.fresh hle)
theorem walk_enumT {K : PySem.W.Frag} {a : Addr} {xs : List V} : Walk (IteT K a) xs.length (fun H => SqT K H a xs) (YPair (fun i => some (.int (i : Nat))) (fun i => xs[i]?)) := by
  refine ⟨fun i _ hi q => ⟨xs, xs[i], q, by simp [hi]⟩, fun _ q => ⟨xs, q, Nat.le_refl _⟩, fun i H v H' _ q y => ?_⟩
  obtain ⟨T, x, h1, h2, h3, h4⟩ := y
  exact ⟨T, _, x, h1, h2, h3, rfl, h4 xs q⟩
theorem for_enumTN {K : PySem.W.Frag} {a : Addr} {xs : List V} {g : TG} {tb : TS} {D : Ends} {σ : L2.St} {H : Hp} (Pv : Nat → L2.St → Hp → Prop) (h0 : Pv 0 σ H) (hl : ∀ i σ H, i ≤ xs.length → Pv i σ H → SqT K H a xs)
    (hs : ∀ i x T σ H (N : L2.St → Hp → Prop), xs[i]? = some x → Pv i σ H → H T = none → (∀ σ' H', Pv (i + 1) σ' H' → N σ' H') → g (.ref T) σ (upd H T (.tup [.int (i : Nat), x])) fun σ2 H2 => tb { D with nx := N, ct := N, bk := D.nx } σ2 H2) (hd : ∀ σ H, Pv xs.length σ H → D.nx σ H) :
    ForJ (IteT K a) g tb D σ H := for_itN walk_enumT Pv h0 hl (fun i v σ H H' N hi p y hN => by
      obtain ⟨T, z, x, rfl, hT, rfl, e1, e2⟩ := y
      cases e1
      exact hs i x T σ H N e2 p hT hN) hd
end Dw

namespace Dw
open PySem PySem.Spec PyProof.Rows L2 SX
theorem sg_ok (s : String) (h : cs s ∈ SGN) : (sg s).Ok := h
theorem sgnT_ok (n : Int) : (sgnT n).Ok := by
  unfold sgnT
  split
  · exact sg_ok "-" (by decide +kernel)
  · exact sg_ok "+" (by decide +kernel)
theorem sideL_ok {qs : List (List Nat × Int)} {c : Int} (hg : ∀ q ∈ qs, GName q.1) (hn : ∀ q ∈ qs, q.2.natAbs ≤ 255) (hc : c.natAbs ≤ 255) : ∀ x ∈ sideL qs c, x.Ok := by
  have h : ∀ x ∈ sideA qs c, x.Ok := by
    intro x hx
    unfold sideA at hx
    rcases List.mem_append.mp hx with h | h
    · obtain ⟨q, hq, hx⟩ := List.mem_flatMap.mp h
      rcases List.mem_cons.mp hx with rfl | hx
      · exact sgnT_ok _
      · split at hx
        · rw [List.mem_singleton.mp hx]
          exact hg q hq
        · simp only [List.mem_cons, List.not_mem_nil, or_false] at hx
          rcases hx with rfl | rfl | rfl
          · show q.2.natAbs < 256
            have := hn q hq
            omega
          · exact sg_ok "*" (by decide +kernel)
          · exact hg q hq
    · split at h
      · simp only [List.mem_cons, List.not_mem_nil, or_false] at h
        rcases h with rfl | rfl
        · exact sgnT_ok _
        · show c.natAbs < 256
          omega
      · cases h
  intro x hx
  unfold sideL dropP at hx
  split at hx
  · rename_i y r e
    rw [e] at h
    split at hx
    · exact h x (List.mem_cons_of_mem _ hx)
    · exact h x hx
  · cases hx
theorem cmp_ok {qs : List (List Nat × Int)} {c : Int} {s : String} {xs : List Tv} (h : CmpS qs c s xs) (hs : cs s ∈ SGN) (hg : ∀ q ∈ qs, GName q.1) (hn : ∀ q ∈ qs, q.2.natAbs ≤ 255) (hc : c.natAbs ≤ 255) : ∀ x ∈ xs, x.Ok := by
  obtain ⟨l, r, cl, cr, hp, hcc, hz, rfl⟩ := h
  have ml : ∀ q ∈ l, q ∈ qs := fun x hx => hp.mem_iff.mp (List.mem_append_left _ hx)
  have mr : ∀ q ∈ r, ngQ q ∈ qs := fun x hx => hp.mem_iff.mp (List.mem_append_right _ (List.mem_map.mpr ⟨x, hx, rfl⟩))
  intro x hx
  rcases List.mem_append.mp hx with h | h
  · exact sideL_ok (fun q hq => hg q (ml q hq)) (fun q hq => hn q (ml q hq)) (by omega) x h
  · rcases List.mem_cons.mp h with rfl | h
    · exact sg_ok s hs
    · refine sideL_ok (fun q hq => show GName q.1 from hg (ngQ q) (mr q hq)) (fun q hq => ?_) (by omega) x h
      have := hn _ (mr q hq)
      unfold ngQ at this
      dsimp only at this
      omega
theorem namesJ_ok : ∀ {zs : List (List Nat)}, (∀ z ∈ zs, GName z) → ∀ x ∈ namesJ zs, x.Ok
  | [], _, x, hx => by cases hx
  | z :: r, h, x, hx => by
    rcases List.mem_cons.mp hx with rfl | hx
    · exact h z List.mem_cons_self
    · obtain ⟨y, hy, hx⟩ := List.mem_flatMap.mp hx
      simp only [List.mem_cons, List.not_mem_nil, or_false] at hx
      rcases hx with rfl | rfl
      · exact sg_ok "," (by decide +kernel)
      · exact h y (List.mem_cons_of_mem _ hy)
theorem atom_ok {f : Fm} {xs : List Tv} (h : AtomS f xs) (g : f.Good) (s : f.Sm) : ∀ x ∈ xs, x.Ok := by
  have lp : cs "(" ∈ SGN := by decide +kernel
  have rp : cs ")" ∈ SGN := by decide +kernel
  cases h with
  | pow z =>
    intro x hx
    simp only [List.mem_cons, List.not_mem_nil, or_false] at hx
    rcases hx with rfl | rfl | rfl | rfl
    · show cs "pow" ∈ RES; decide +kernel
    · exact lp
    · exact g
    · exact rp
  | word w z o =>
    intro x hx
    have ho := g.2.2.2
    simp only [List.mem_cons, List.not_mem_nil, or_false] at hx
    rcases hx with rfl | rfl | rfl | rfl | rfl | rfl
    · exact g.1
    · exact sg_ok "[" (by decide +kernel)
    · exact g.2.1
    · exact sg_ok "]" (by decide +kernel)
    · exact sg_ok "=" (by decide +kernel)
    · show o < 256; omega
  | call y zs =>
    intro x hx
    rcases List.mem_cons.mp hx with rfl | hx
    · exact g.1
    rcases List.mem_cons.mp hx with rfl | hx
    · exact lp
    rcases List.mem_append.mp hx with hx | hx
    · exact namesJ_ok g.2.2.2 x hx
    · rw [List.mem_singleton.mp hx]; exact rp
  | eq h => obtain ⟨q, hc⟩ := qok_of g s; exact cmp_ok h (by decide +kernel) q.gn q.sm (by omega)
  | le h => obtain ⟨q, hc⟩ := qok_of g s; exact cmp_ok h (by decide +kernel) q.gn q.sm (by omega)
  | lt h => obtain ⟨q, hc⟩ := qok_of g s; exact cmp_ok h (by decide +kernel) q.gn q.sm (by omega)
  | ge h => obtain ⟨q, hc⟩ := qok_of g s; exact cmp_ok h (by decide +kernel) q.ng.gn q.ng.sm (by omega)
  | gt h => obtain ⟨q, hc⟩ := qok_of g s; exact cmp_ok h (by decide +kernel) q.ng.gn q.ng.sm (by omega)
theorem fold_names (k : Bool) (a : Fm) : ∀ zs : List (List Nat), (zs.foldr (fun z f => Fm.qf k z f) a).Good → ∀ z ∈ zs, GName z
  | [], _, z, hz => by cases hz
  | y :: zs, h, z, hz => by
    rcases List.mem_cons.mp hz with rfl | hz
    · exact h.1
    · exact fold_names k a zs h.2 z hz
theorem paren_ok {xs : List Tv} (h : ∀ x ∈ xs, x.Ok) : ∀ x ∈ sg "(" :: (xs ++ [sg ")"]), x.Ok := by
  intro x hx
  rcases List.mem_cons.mp hx with rfl | hx
  · exact sg_ok "(" (by decide +kernel)
  rcases List.mem_append.mp hx with hx | hx
  · exact h x hx
  · rw [List.mem_singleton.mp hx]; exact sg_ok ")" (by decide +kernel)
theorem spl_ok {f : Fm} {L : Nat} {t : Bool} {xs : List Tv} (h : Spl f L t xs) : f.Good → f.Sm → ∀ x ∈ xs, x.Ok := by
  induction h with
  | binP hL h ih => exact fun g s => paren_ok (ih g s)
  | @bin k a b L t xs ys hL h1 h2 i1 i2 =>
    intro g s x hx
    rcases List.mem_append.mp hx with hx | hx
    · exact i1 g.1 s.1 x hx
    rcases List.mem_cons.mp hx with rfl | hx
    · match k with
      | 0 => exact sg_ok "&" (by decide +kernel)
      | 1 => exact sg_ok "|" (by decide +kernel)
      | 2 => exact sg_ok "=>" (by decide +kernel)
      | 3 => exact sg_ok "<=>" (by decide +kernel)
    · exact i2 g.2 s.2 x hx
  | qfP h ih => exact fun g s => paren_ok (ih g s)
  | @qf k z zs a L xs h ih =>
    intro g s x hx
    rcases List.mem_cons.mp hx with rfl | hx
    · show kQf k ∈ RES
      exact (by decide +kernel : ∀ k, kQf k ∈ RES) k
    rcases List.mem_append.mp hx with hx | hx
    · exact namesJ_ok (fold_names k a _ g) x hx
    rcases List.mem_cons.mp hx with rfl | hx
    · exact sg_ok ":" (by decide +kernel)
    · exact ih (fold_good k a _ g) (qf_sm k a _ s) x hx
  | notE h =>
    intro g s
    obtain ⟨q, hc⟩ := qok_of (k := true) g s
    exact cmp_ok h (by decide +kernel) q.gn q.sm (by omega)
  | notW w z o =>
    intro g s x hx
    have g : (Fm.word w z (o : Nat)).Good := g
    have ho := g.2.2.2
    simp only [List.mem_cons, List.not_mem_nil, or_false] at hx
    rcases hx with rfl | rfl | rfl | rfl | rfl | rfl
    · exact g.1
    · exact sg_ok "[" (by decide +kernel)
    · exact g.2.1
    · exact sg_ok "]" (by decide +kernel)
    · exact sg_ok "!=" (by decide +kernel)
    · show o < 256; omega
  | not h ih =>
    intro g s x hx
    rcases List.mem_cons.mp hx with rfl | hx
    · exact sg_ok "~" (by decide +kernel)
    · exact ih g s x hx
  | atomP h => exact fun g s => paren_ok (atom_ok h g s)
  | atom h => exact fun g s => atom_ok h g s
theorem tvI_tv (x : Tv) (sp : List Nat) : tvI ⟨x.txt, sp, x.kind, x.val⟩ = x := by
  have d := kindD
  cases x with
  | res l => simp [tvI, Tv.kind, Tv.txt]
  | name l => simp [tvI, Tv.kind, Tv.txt, d.1]
  | word l => simp [tvI, Tv.kind, Tv.txt, d.2.1]
  | num n => simp [tvI, Tv.kind, Tv.txt, Tv.val, d.2.2.1]
  | sign l => simp [tvI, Tv.kind, Tv.txt, d.2.2.2]
def pcs (xs : List Tv) : List Pc := xs.map fun x => ⟨0, 0, x.txt, x.kind, x.val⟩
theorem tks_x : ∀ (xs : List Tv) (rows : List TRow) (n : Nat), rows.map (·.1) = xs.map Tv.txt → (tks n (mkI (pcs xs) rows)).map Tk.x = xs
  | [], [], _, _ => rfl
  | x :: xs, y :: rs, n, h => by
    rw [List.map_cons, List.map_cons] at h
    show tvI ⟨x.txt, y.2, x.kind, x.val⟩ :: (tks _ (mkI (pcs xs) rs)).map Tk.x = _
    rw [tks_x xs rs _ (List.cons.inj h).2, tvI_tv]
  | [], _ :: _, _, h => by cases h
  | _ :: _, [], _, h => by cases h
/-- the items of a text that was joined of these pieces -/
theorem items_of {xs : List Tv} {rows : List TRow} (h : rows.map (·.1) = xs.map Tv.txt) (ok : ∀ x ∈ xs, x.Ok) (hb : ∀ x ∈ rows, Blank x.2) (hs : Sepd rows) : ∃ is : List Itm, iflat is = flat rows ∧ Goods is ∧ is.length = xs.length ∧ ∀ n, (tks n is).map Tk.x = xs := by
  have h2 : rows.map (·.1) = (pcs xs).map (·.l) := by
    rw [h]
    unfold pcs
    rw [List.map_map]
    rfl
  refine ⟨mkI (pcs xs) rows, ?_, goods_of (pcs xs) rows h2 hb hs (fun x hx => ?_), ?_, fun n => tks_x xs rows n h⟩
  · show flat ((mkI (pcs xs) rows).map irow) = _
    rw [mkI_rows _ _ h2]
  · obtain ⟨y, hy, rfl⟩ := List.mem_map.mp hx
    exact Tv.piece (ok y hy)
  · rw [mkI_len _ _ h2]
    unfold pcs
    rw [List.length_map]
theorem kit_tuple {K : PySem.W.Frag} : PySem.W.kitOne K (.type "tuple") (.type "tuple") = some true := kit_ty (by decide +kernel)
theorem szN_dep : ∀ f : Fm, szN f + 1 ≤ 2 ^ (f.dep + 1) ∧ dpN f = f.dep + 1
  | .pow _ => ⟨by simp [szN, Fm.dep], rfl⟩
  | .word _ _ _ => ⟨by simp [szN, Fm.dep], rfl⟩
  | .cmp _ _ _ => ⟨by simp [szN, Fm.dep], rfl⟩
  | .call _ _ => ⟨by simp [szN, Fm.dep], rfl⟩
  | .not a => by
    obtain ⟨h1, h2⟩ := szN_dep a
    refine ⟨?_, by show dpN a + 1 = a.dep + 1 + 1; rw [h2]⟩
    show szN a + 1 + 1 ≤ 2 ^ (a.dep + 1 + 1)
    rw [Nat.pow_succ]
    omega
  | .qf _ _ a => by
    obtain ⟨h1, h2⟩ := szN_dep a
    refine ⟨?_, by show dpN a + 1 = a.dep + 1 + 1; rw [h2]⟩
    show szN a + 1 + 1 ≤ 2 ^ (a.dep + 1 + 1)
    rw [Nat.pow_succ]
    omega
  | .bin _ a b => by
    obtain ⟨h1, h2⟩ := szN_dep a
    obtain ⟨h3, h4⟩ := szN_dep b
    have p1 : 2 ^ (a.dep + 1) ≤ 2 ^ (max a.dep b.dep + 1) := Nat.pow_le_pow_right (by decide) (by omega)
    have p2 : 2 ^ (b.dep + 1) ≤ 2 ^ (max a.dep b.dep + 1) := Nat.pow_le_pow_right (by decide) (by omega)
    refine ⟨?_, by show max (dpN a) (dpN b) + 1 = max a.dep b.dep + 1 + 1; rw [h2, h4]; omega⟩
    show szN a + szN b + 1 + 1 ≤ 2 ^ (max a.dep b.dep + 1 + 1)
    rw [Nat.pow_succ]
    omega
end Dw

namespace K05
open PySem PySem.Spec PyProof.Rows L2 SX Dw
def topS (i : Nat) : Stmt := PySem.Challenge.pw_digitwise_k05_formulas_read.main.body.getD i (.Pass ⟨0, 0, 0, 0⟩)
abbrev s_tokens : Stmt := topS 13
abbrev N_tokens : List Str := ["text", "found", "at", "kind", "value", "end"]
theorem sc_tokens : FnScope N_tokens ["text"] (C8.fnScope s_tokens) := C8.fnScope_by (by decide +kernel)
abbrev s_token_at : Stmt := topS 14
abbrev N_token_at : List Str := ["text", "at"]
theorem sc_token_at : FnScope N_token_at ["text", "at"] (C8.fnScope s_token_at) := C8.fnScope_by (by decide +kernel)
abbrev s_name_at : Stmt := topS 15
abbrev N_name_at : List Str := ["text", "at", "end", "value", "kind"]
theorem sc_name_at : FnScope N_name_at ["text", "at"] (C8.fnScope s_name_at) := C8.fnScope_by (by decide +kernel)
abbrev s_word_at : Stmt := topS 16
abbrev N_word_at : List Str := ["text", "at", "end"]
theorem sc_word_at : FnScope N_word_at ["text", "at"] (C8.fnScope s_word_at) := C8.fnScope_by (by decide +kernel)
abbrev s_number_at : Stmt := topS 17
abbrev N_number_at : List Str := ["text", "at", "end", "leading_zero"]
theorem sc_number_at : FnScope N_number_at ["text", "at"] (C8.fnScope s_number_at) := C8.fnScope_by (by decide +kernel)
abbrev s_sign_at : Stmt := topS 18
abbrev N_sign_at : List Str := ["text", "at", "sign"]
theorem sc_sign_at : FnScope N_sign_at ["text", "at"] (C8.fnScope s_sign_at) := C8.fnScope_by (by decide +kernel)
abbrev s_run_end : Stmt := topS 19
abbrev N_run_end : List Str := ["text", "at", "characters"]
theorem sc_run_end : FnScope N_run_end ["text", "at", "characters"] (C8.fnScope s_run_end) := C8.fnScope_by (by decide +kernel)
abbrev s_stands_at : Stmt := topS 20
abbrev N_stands_at : List Str := ["text", "at", "characters"]
theorem sc_stands_at : FnScope N_stands_at ["text", "at", "characters"] (C8.fnScope s_stands_at) := C8.fnScope_by (by decide +kernel)
abbrev s_linear : Stmt := topS 23
abbrev N_linear : List Str := ["pairs", "constant", "sums", "name", "coefficient", "kept", "coefficients", "pair", "number"]
theorem sc_linear : FnScope N_linear ["pairs", "constant"] (C8.fnScope s_linear) := C8.fnScope_by (by decide +kernel)
abbrev s_plus : Stmt := topS 24
abbrev N_plus : List Str := ["one", "two"]
theorem sc_plus : FnScope N_plus ["one", "two"] (C8.fnScope s_plus) := C8.fnScope_by (by decide +kernel)
abbrev s_minus : Stmt := topS 25
abbrev N_minus : List Str := ["one", "two", "negatives", "name", "coefficient"]
theorem sc_minus : FnScope N_minus ["one", "two"] (C8.fnScope s_minus) := C8.fnScope_by (by decide +kernel)
abbrev s_in_range : Stmt := topS 26
abbrev N_in_range : List Str := ["number"]
theorem sc_in_range : FnScope N_in_range ["number"] (C8.fnScope s_in_range) := C8.fnScope_by (by decide +kernel)
abbrev s_parts : Stmt := topS 33
abbrev N_parts : List Str := ["formula", "kind"]
theorem sc_parts : FnScope N_parts ["formula"] (C8.fnScope s_parts) := C8.fnScope_by (by decide +kernel)
abbrev s_nodes : Stmt := topS 34
abbrev N_nodes : List Str := ["formula", "found", "waiting", "node", "level", "part"]
theorem sc_nodes : FnScope N_nodes ["formula"] (C8.fnScope s_nodes) := C8.fnScope_by (by decide +kernel)
abbrev s_node_count : Stmt := topS 35
abbrev N_node_count : List Str := ["formula"]
theorem sc_node_count : FnScope N_node_count ["formula"] (C8.fnScope s_node_count) := C8.fnScope_by (by decide +kernel)
abbrev s_levels : Stmt := topS 36
abbrev N_levels : List Str := ["formula", "_", "level"]
theorem sc_levels : FnScope N_levels ["formula"] (C8.fnScope s_levels) := C8.fnScope_by (by decide +kernel)
abbrev s_parse_formula : Stmt := topS 40
abbrev N_parse_formula : List Str := ["text", "reader", "formula"]
theorem sc_parse_formula : FnScope N_parse_formula ["text"] (C8.fnScope s_parse_formula) := C8.fnScope_by (by decide +kernel)
abbrev s_check_size : Stmt := topS 41
abbrev N_check_size : List Str := ["formula"]
theorem sc_check_size : FnScope N_check_size ["formula"] (C8.fnScope s_check_size) := C8.fnScope_by (by decide +kernel)
abbrev s_read_output : Stmt := topS 42
abbrev N_read_output : List Str := ["reader", "at", "output"]
theorem sc_read_output : FnScope N_read_output ["reader"] (C8.fnScope s_read_output) := C8.fnScope_by (by decide +kernel)
abbrev s_read_names : Stmt := topS 43
abbrev N_read_names : List Str := ["reader", "names"]
theorem sc_read_names : FnScope N_read_names ["reader"] (C8.fnScope s_read_names) := C8.fnScope_by (by decide +kernel)
abbrev s_read_formula : Stmt := topS 44
abbrev N_read_formula : List Str := ["reader", "level", "formula"]
theorem sc_read_formula : FnScope N_read_formula ["reader", "level"] (C8.fnScope s_read_formula) := C8.fnScope_by (by decide +kernel)
abbrev s_read_implied : Stmt := topS 45
abbrev N_read_implied : List Str := ["reader", "level", "formula"]
theorem sc_read_implied : FnScope N_read_implied ["reader", "level"] (C8.fnScope s_read_implied) := C8.fnScope_by (by decide +kernel)
abbrev s_read_either : Stmt := topS 46
abbrev N_read_either : List Str := ["reader", "level", "formula"]
theorem sc_read_either : FnScope N_read_either ["reader", "level"] (C8.fnScope s_read_either) := C8.fnScope_by (by decide +kernel)
abbrev s_read_both : Stmt := topS 47
abbrev N_read_both : List Str := ["reader", "level", "formula"]
theorem sc_read_both : FnScope N_read_both ["reader", "level"] (C8.fnScope s_read_both) := C8.fnScope_by (by decide +kernel)
abbrev s_read_unit : Stmt := topS 48
abbrev N_read_unit : List Str := ["reader", "level", "formula"]
theorem sc_read_unit : FnScope N_read_unit ["reader", "level"] (C8.fnScope s_read_unit) := C8.fnScope_by (by decide +kernel)
abbrev s_read_quantified : Stmt := topS 49
abbrev N_read_quantified : List Str := ["reader", "level", "quantifier", "names", "formula", "name"]
theorem sc_read_quantified : FnScope N_read_quantified ["reader", "level"] (C8.fnScope s_read_quantified) := C8.fnScope_by (by decide +kernel)
abbrev s_read_power : Stmt := topS 50
abbrev N_read_power : List Str := ["reader", "name"]
theorem sc_read_power : FnScope N_read_power ["reader"] (C8.fnScope s_read_power) := C8.fnScope_by (by decide +kernel)
abbrev s_read_word : Stmt := topS 51
abbrev N_read_word : List Str := ["reader", "word", "name", "is_other", "formula"]
theorem sc_read_word : FnScope N_read_word ["reader"] (C8.fnScope s_read_word) := C8.fnScope_by (by decide +kernel)
abbrev s_read_call : Stmt := topS 52
abbrev N_read_call : List Str := ["reader", "name", "names"]
theorem sc_read_call : FnScope N_read_call ["reader"] (C8.fnScope s_read_call) := C8.fnScope_by (by decide +kernel)
abbrev s_read_comparison : Stmt := topS 53
abbrev N_read_comparison : List Str := ["reader", "left", "at", "sign", "right"]
theorem sc_read_comparison : FnScope N_read_comparison ["reader"] (C8.fnScope s_read_comparison) := C8.fnScope_by (by decide +kernel)
abbrev s_compared : Stmt := topS 54
abbrev N_compared : List Str := ["one", "sign", "two", "difference"]
theorem sc_compared : FnScope N_compared ["one", "sign", "two"] (C8.fnScope s_compared) := C8.fnScope_by (by decide +kernel)
abbrev s_read_sum : Stmt := topS 55
abbrev N_read_sum : List Str := ["reader", "pairs", "constant", "sign", "name", "factor"]
theorem sc_read_sum : FnScope N_read_sum ["reader"] (C8.fnScope s_read_sum) := C8.fnScope_by (by decide +kernel)
abbrev s_read_sign : Stmt := topS 56
abbrev N_read_sign : List Str := ["reader"]
theorem sc_read_sign : FnScope N_read_sign ["reader"] (C8.fnScope s_read_sign) := C8.fnScope_by (by decide +kernel)
abbrev s_read_part : Stmt := topS 57
abbrev N_read_part : List Str := ["reader", "factor"]
theorem sc_read_part : FnScope N_read_part ["reader"] (C8.fnScope s_read_part) := C8.fnScope_by (by decide +kernel)
abbrev s__law_wide : Stmt := topS 59
abbrev N__law_wide : List Str := ["script", "k", "cell", "mixed"]
theorem sc__law_wide : FnScope N__law_wide ["script", "k"] (C8.fnScope s__law_wide) := C8.fnScope_by (by decide +kernel)
abbrev s__law_take : Stmt := topS 60
abbrev N__law_take : List Str := ["pool", "most", "taken"]
theorem sc__law_take : FnScope N__law_take ["pool", "most"] (C8.fnScope s__law_take) := C8.fnScope_by (by decide +kernel)
abbrev s__law_pool : Stmt := topS 61
abbrev N__law_pool : List Str := ["script"]
theorem sc__law_pool : FnScope N__law_pool ["script"] (C8.fnScope s__law_pool) := C8.fnScope_by (by decide +kernel)
abbrev s__law_reserved : Stmt := topS 62
abbrev N__law_reserved : List Str := []
theorem sc__law_reserved : FnScope N__law_reserved [] (C8.fnScope s__law_reserved) := C8.fnScope_by (by decide +kernel)
abbrev s__law_signs : Stmt := topS 63
abbrev N__law_signs : List Str := ["first"]
theorem sc__law_signs : FnScope N__law_signs [] (C8.fnScope s__law_signs) := C8.fnScope_by (by decide +kernel)
abbrev s__law_name : Stmt := topS 64
abbrev N__law_name : List Str := ["pool", "letters", "name", "k"]
theorem sc__law_name : FnScope N__law_name ["pool"] (C8.fnScope s__law_name) := C8.fnScope_by (by decide +kernel)
abbrev s__law_word : Stmt := topS 65
abbrev N__law_word : List Str := ["pool", "letters", "name", "k"]
theorem sc__law_word : FnScope N__law_word ["pool"] (C8.fnScope s__law_word) := C8.fnScope_by (by decide +kernel)
abbrev s__law_joins : Stmt := topS 66
abbrev N__law_joins : List Str := ["left", "right", "sign"]
theorem sc__law_joins : FnScope N__law_joins ["left", "right"] (C8.fnScope s__law_joins) := C8.fnScope_by (by decide +kernel)
abbrev s__law_space : Stmt := topS 67
abbrev N__law_space : List Str := ["pool", "needed", "space"]
theorem sc__law_space : FnScope N__law_space ["pool", "needed"] (C8.fnScope s__law_space) := C8.fnScope_by (by decide +kernel)
abbrev s__law_text : Stmt := topS 68
abbrev N__law_text : List Str := ["pool", "parts_v", "text", "places", "k"]
theorem sc__law_text : FnScope N__law_text ["pool", "parts_v"] (C8.fnScope s__law_text) := C8.fnScope_by (by decide +kernel)
abbrev s__law_term : Stmt := topS 69
abbrev N__law_term : List Str := ["pool", "names", "pairs", "k", "name", "constant"]
theorem sc__law_term : FnScope N__law_term ["pool", "names"] (C8.fnScope s__law_term) := C8.fnScope_by (by decide +kernel)
abbrev s__law_worth : Stmt := topS 70
abbrev N__law_worth : List Str := ["term", "numbers", "total", "pair"]
theorem sc__law_worth : FnScope N__law_worth ["term", "numbers"] (C8.fnScope s__law_worth) := C8.fnScope_by (by decide +kernel)
abbrev s__law_formula : Stmt := topS 71
abbrev N__law_formula : List Str := ["pool", "names", "depth", "choice", "given", "head", "left", "k"]
theorem sc__law_formula : FnScope N__law_formula ["pool", "names", "depth"] (C8.fnScope s__law_formula) := C8.fnScope_by (by decide +kernel)
abbrev s__law_parts : Stmt := topS 72
abbrev N__law_parts : List Str := ["formula"]
theorem sc__law_parts : FnScope N__law_parts ["formula"] (C8.fnScope s__law_parts) := C8.fnScope_by (by decide +kernel)
abbrev s__law_own : Stmt := topS 73
abbrev N__law_own : List Str := ["formula", "pair"]
theorem sc__law_own : FnScope N__law_own ["formula"] (C8.fnScope s__law_own) := C8.fnScope_by (by decide +kernel)
abbrev s__law_free : Stmt := topS 74
abbrev N__law_free : List Str := ["formula", "found", "name", "part"]
theorem sc__law_free : FnScope N__law_free ["formula"] (C8.fnScope s__law_free) := C8.fnScope_by (by decide +kernel)
abbrev s__law_side : Stmt := topS 75
abbrev N__law_side : List Str := ["pairs", "constant", "parts_v", "pair"]
theorem sc__law_side : FnScope N__law_side ["pairs", "constant"] (C8.fnScope s__law_side) := C8.fnScope_by (by decide +kernel)
abbrev s__law_compare : Stmt := topS 76
abbrev N__law_compare : List Str := ["pool", "term", "sign", "left", "right", "pair", "constants"]
theorem sc__law_compare : FnScope N__law_compare ["pool", "term", "sign"] (C8.fnScope s__law_compare) := C8.fnScope_by (by decide +kernel)
abbrev s__law_turned : Stmt := topS 77
abbrev N__law_turned : List Str := ["term", "more", "pair"]
theorem sc__law_turned : FnScope N__law_turned ["term", "more"] (C8.fnScope s__law_turned) := C8.fnScope_by (by decide +kernel)
abbrev s__law_spell_atom : Stmt := topS 78
abbrev N__law_spell_atom : List Str := ["pool", "formula", "term", "style", "parts_v", "name"]
theorem sc__law_spell_atom : FnScope N__law_spell_atom ["pool", "formula"] (C8.fnScope s__law_spell_atom) := C8.fnScope_by (by decide +kernel)
abbrev s__law_spell_not : Stmt := topS 79
abbrev N__law_spell_not : List Str := ["pool", "part", "last"]
theorem sc__law_spell_not : FnScope N__law_spell_not ["pool", "part", "last"] (C8.fnScope s__law_spell_not) := C8.fnScope_by (by decide +kernel)
abbrev s__law_spell : Stmt := topS 80
abbrev N__law_spell : List Str := ["pool", "formula", "level", "last", "head", "levels_v", "own", "left", "sign", "parts_v", "body"]
theorem sc__law_spell : FnScope N__law_spell ["pool", "formula", "level", "last"] (C8.fnScope s__law_spell) := C8.fnScope_by (by decide +kernel)
abbrev s_law : Stmt := topS 81
abbrev N_law : List Str := ["script", "pool", "names", "formula", "text", "result", "k"]
theorem sc_law : FnScope N_law ["script"] (C8.fnScope s_law) := C8.fnScope_by (by decide +kernel)
abbrev s_Reader___init__ : Stmt := (C8.clsBody (topS 39)).getD 0 (.Pass ⟨0, 0, 0, 0⟩)
abbrev N_Reader___init__ : List Str := ["self", "text"]
theorem sc_Reader___init__ : FnScope N_Reader___init__ ["self", "text"] (C8.fnScope s_Reader___init__) := C8.fnScope_by (by decide +kernel)
abbrev s_Reader_is_done : Stmt := (C8.clsBody (topS 39)).getD 1 (.Pass ⟨0, 0, 0, 0⟩)
abbrev N_Reader_is_done : List Str := ["self"]
theorem sc_Reader_is_done : FnScope N_Reader_is_done ["self"] (C8.fnScope s_Reader_is_done) := C8.fnScope_by (by decide +kernel)
abbrev s_Reader_spot : Stmt := (C8.clsBody (topS 39)).getD 2 (.Pass ⟨0, 0, 0, 0⟩)
abbrev N_Reader_spot : List Str := ["self"]
theorem sc_Reader_spot : FnScope N_Reader_spot ["self"] (C8.fnScope s_Reader_spot) := C8.fnScope_by (by decide +kernel)
abbrev s_Reader_has_kind : Stmt := (C8.clsBody (topS 39)).getD 3 (.Pass ⟨0, 0, 0, 0⟩)
abbrev N_Reader_has_kind : List Str := ["self", "kind"]
theorem sc_Reader_has_kind : FnScope N_Reader_has_kind ["self", "kind"] (C8.fnScope s_Reader_has_kind) := C8.fnScope_by (by decide +kernel)
abbrev s_Reader_sees : Stmt := (C8.clsBody (topS 39)).getD 4 (.Pass ⟨0, 0, 0, 0⟩)
abbrev N_Reader_sees : List Str := ["self", "value", "ahead", "place"]
theorem sc_Reader_sees : FnScope N_Reader_sees ["self", "value", "ahead"] (C8.fnScope s_Reader_sees) := C8.fnScope_by (by decide +kernel)
abbrev s_Reader_passes : Stmt := (C8.clsBody (topS 39)).getD 5 (.Pass ⟨0, 0, 0, 0⟩)
abbrev N_Reader_passes : List Str := ["self", "value", "seen"]
theorem sc_Reader_passes : FnScope N_Reader_passes ["self", "value"] (C8.fnScope s_Reader_passes) := C8.fnScope_by (by decide +kernel)
abbrev s_Reader_skip : Stmt := (C8.clsBody (topS 39)).getD 6 (.Pass ⟨0, 0, 0, 0⟩)
abbrev N_Reader_skip : List Str := ["self", "value"]
theorem sc_Reader_skip : FnScope N_Reader_skip ["self", "value"] (C8.fnScope s_Reader_skip) := C8.fnScope_by (by decide +kernel)
abbrev s_Reader_take : Stmt := (C8.clsBody (topS 39)).getD 7 (.Pass ⟨0, 0, 0, 0⟩)
abbrev N_Reader_take : List Str := ["self", "kind", "value"]
theorem sc_Reader_take : FnScope N_Reader_take ["self", "kind"] (C8.fnScope s_Reader_take) := C8.fnScope_by (by decide +kernel)
section
local macro_rules | `(tactic| walk_at "rd") => `(tactic| simp only [tSeq, tNext, tAsg, gName, tRet, tRetN, tIfS, tDrop, tVar, tC, tOp, tUn, tTest, tCB, tCons, tNil, tB, tAnd, tOr, tNot, tAndV, tOrV, tNotV, tIf, tCall, tTup, tLst, tSl, tPart, tNoPart, tM0, tM1, tBM, tChain, tBreak, tCont, tNever, tAug, ipI, tPar, tyV_str,
  tFor_eq, tLc_eq, tMkO, tYes, wipe, ofStr_S, S_cat, one_S, len_S, S_iff, S_cps, Int.zero_add, gNil, gCons, gTup, gSub, iRng1, iRng2, iList, iTup, iStr, rI0, rI, rU, rEq, rNe, rIxL, rIxT, rIxS, Dw.rLen, rListOf, rTupOf, rNotB, rIsB, rMulS, rIn, rCat, rAppend, rCatA, rEqD, rNeD, C8.rSlX, tDGet, tDGet2, tDIn, tDNotIn, rSetD, rAll, rKIn, tBM0, rPop, rExtend, tAddT, rAddT, rSetT0, Dw.rSetL, rSortT, StX.tStar, tDNewK, tDisp, tPairs, L2.start, cxOf_K, cxOf_w, cxOf_prog,
  List.map_cons, List.map_nil, List.length_cons, List.length_nil, List.replicate, List.cons_append, List.nil_append, Nat.reduceAdd, Nat.reduceSub, Nat.zero_add, List.append_nil,
  List.set_cons_zero, List.set_cons_succ, List.getElem?_cons_zero, List.getElem?_cons_succ, Option.some.injEq, V.int.injEq, V.bl.injEq, V.ref.injEq, V.str.injEq, V.ty.injEq, List.cons.injEq, and_true, true_and, reduceCtorEq, false_and, exists_false, or_false, false_or, exists_eq_left, exists_eq_left', exists_eq', sw_S, an_S, exists_and_left, exists_const, exists_eq, decide_eq_true_eq, Bool.false_eq_true, if_true, if_false, Bool.not_eq_true', decide_eq_false_iff_not, Bool.not_true, Bool.not_false, ite_not, scal, and_false])
section
variable {P : Program} {w : World} {K : PySem.W.Frag} {mg : Str → Option Value} {base : Heap}
def sp_wide (K : PySem.W.Frag) : Sp := fun vs H Q _ => ∃ (q : Addr) (ns : List Int) (k : Int), vs = [.ref q, .int k] ∧ SqL K H q (ns.map V.int) ∧ 0 ≤ k ∧ ∀ r : Int, 0 ≤ r → Q (.int r) H
theorem c__law_wide {f : Addr} {fd : FuncData} (D : C8.Def K mg "_law_wide" s__law_wide f fd) (b : Binds K fd ["script", "k"] []) (z_len : mg "len" = none) (z_abs : mg "abs" = none) (z_int : mg "int" = none) : C8.Cal P w K mg base 1 "_law_wide" (sp_wide K) [] := by
  refine C8.cal0 D b .nil sc__law_wide (fun vs H Q E h => ?_) (fun cdv A outer s H vs Q E hr h => ?_)
  · obtain ⟨_, _, _, rfl, _⟩ := h
    rfl
  · obtain ⟨q, ns, k, rfl, hS, hk, ok⟩ := h
    refine ⟨_, (pss_cons (ps_set (i := 2) sc__law_wide.nd rfl (by first | exact Or.inl rfl | exact Or.inr rfl) pe_int) (C8.pss_cut (ps_if (pt_cmpR (op_lt) (pv 1) (pe_callB (lenS K) (by rfl) z_len PySem.boot_len (pa_cons (pv 0) pa_nil)) (nomark _)) (pss_one (ps_set (i := 2) sc__law_wide.nd rfl (by first | exact Or.inl rfl | exact Or.inr rfl) (pe_callB call_abs (by rfl) z_abs (by decide +kernel) (pa_cons (pe_ix (ixL K) (pv 0) (pv 1) (fun _ _ => rfl)) pa_nil)))) pss_nil) (pss_cons (ps_if (pt_cmpR (op_ge) (pv 2) pe_int (nomark _)) (pss_one (ps_ret (pv 2))) pss_nil) (pss_cons (ps_set (i := 3) sc__law_wide.nd rfl (by first | exact Or.inl rfl | exact Or.inr rfl) (pe_op op_mod (pe_callTy call_int1 (by rfl) z_int (by decide +kernel) (pa_cons (pe_op op_add (pe_op op_mul (pe_op op_add (pv 2) pe_int) pe_int) (pe_op op_mul (pe_op op_add (pv 1) pe_int) pe_int)) pa_nil)) pe_int)) (pss_one (ps_ret (pe_op op_mod (pe_callTy call_int1 (by rfl) z_int (by decide +kernel) (pa_cons (pe_op op_add (pe_op op_mul (pv 3) pe_int) (pe_op op_fdiv (pv 3) pe_int)) pa_nil)) pe_int))))))), ?_⟩
    walk_at "rd"
    obtain ⟨M, hM⟩ : ∃ M : L2.St → Hp → Prop, M = fun σ' H' => ∃ c : Int, 0 ≤ c ∧ σ' = [some (.ref q), some (.int k), some (.int c), none] ∧ H' = H := ⟨_, rfl⟩
    refine ⟨M, ?_, fun σ' H' hm => ?_⟩
    · walk_at "rd"
      refine ⟨_, .inl hS, ite2 (fun h1 => ?_) (fun h1 => ?_)⟩
      · rw [List.length_map] at h1
        refine ⟨_, hS, .int (ns.getD k.toNat 0), at_ints hk h1, ns.getD k.toNat 0, rfl, ?_⟩
        rw [hM]
        exact ⟨_, by split <;> omega, rfl, rfl⟩
      · rw [hM]
        exact ⟨0, Int.le_refl 0, rfl, rfl⟩
    · rw [hM] at hm
      obtain ⟨c, hc, rfl, rfl⟩ := hm
      walk_at "rd"
      refine ite2 (fun _ => ok c hc) (fun _ => ⟨.inr ⟨by decide, by decide⟩, .inr ⟨by decide, by decide⟩, by decide, .inr ⟨by decide, by decide⟩, ⟨by decide, by decide⟩, by decide, ok _ ?_⟩)
      exact Int.emod_nonneg _ (by decide)

def sp_take : Sp := fun vs H Q _ => ∃ (p q : Addr) (ns : List Int) (m : Int), vs = [.ref p, .int m] ∧ Pool H p q ns ∧ 0 < m ∧ m < 1073741824 ∧ ∀ (r : Int) H', 0 ≤ r → r < m → But p H H' → Pool H' p q ns → Q (.int r) H'
theorem c__law_take {f : Addr} {fd : FuncData} (D : C8.Def K mg "_law_take" s__law_take f fd) (b : Binds K fd ["pool", "most"] []) (z_int : mg "int" = none) (c__law_wide : C8.Cal P w K mg base 1 "_law_wide" (sp_wide K) []) : C8.Cal P w K mg base 2 "_law_take" sp_take [] := by
  refine C8.cal0 D b .nil sc__law_take (fun vs H Q E h => ?_) (fun cdv A outer s H vs Q E hr h => ?_)
  · obtain ⟨_, _, _, _, rfl, _⟩ := h
    rfl
  · obtain ⟨p, q, ns, m, rfl, ⟨hne, hq, a, k, hp, ha, hk⟩, hm0, hm1, ok⟩ := h
    refine ⟨_, (C8.pss_cut (ps_if (pt_cmpR (op_lt) (pe_ix (ixL K) (pv 0) pe_int (fun _ _ => rfl)) pe_int (nomark _)) (pss_cons (ps_asg (pe_op op_add (pe_ix (ixL K) (pv 0) pe_int (fun _ _ => rfl)) pe_int) (pg_sub (pv 0) pe_int set_list)) (pss_one (ps_asg (C8.pe_c c__law_wide hr (by decide) (by rfl) (pa_cons (pe_ix (ixL K) (pv 0) pe_int (fun _ _ => rfl)) (pa_cons (pe_ix (ixL K) (pv 0) pe_int (fun _ _ => rfl)) pa_nil))) (pg_sub (pv 0) pe_int set_list)))) pss_nil) (pss_cons (ps_set (i := 2) sc__law_take.nd rfl (by first | exact Or.inl rfl | exact Or.inr rfl) (pe_op op_mod (pe_callTy call_int1 (by rfl) z_int (by decide +kernel) (pa_cons (pe_ix (ixL K) (pv 0) pe_int (fun _ _ => rfl)) pa_nil)) (pv 1))) (pss_cons (ps_asg (pe_op op_fdiv (pe_ix (ixL K) (pv 0) pe_int (fun _ _ => rfl)) (pv 1)) (pg_sub (pv 0) pe_int set_list)) (pss_one (ps_ret (pv 2)))))), ?_⟩
    walk_at "rd"
    obtain ⟨M, hM⟩ : ∃ M : L2.St → Hp → Prop, M = fun σ' H' => But p H H' ∧ (∃ a k : Int, H' p = some (.lst [.int a, .ref q, .int k]) ∧ 0 ≤ a ∧ -1 ≤ k) ∧ σ' = [some (.ref p), some (.int m), none] := ⟨_, rfl⟩
    refine ⟨M, ?_, fun σ' H' hm => ?_⟩
    · walk_at "rd"
      refine ⟨_, SqL.of hp, _, rfl, ?_⟩
      walk_at "rd"
      refine ite2 (fun h1 => ?_) (fun h1 => ?_)
      · refine ⟨_, SqL.of hp, _, rfl, ?_⟩
        walk_at "rd"
        refine ⟨_, _, _, _, rfl, rfl, hp, rfl, ?_⟩
        refine ⟨_, SqL.of upd_same, _, rfl, _, SqL.of upd_same, _, rfl, ?_⟩
        have e2 : (upd H p (.lst ([V.int a, V.ref q, V.int k].set 2 (V.int (k + 1))))) q = some (.lst (ns.map V.int)) := by
          rw [upd_ne hne.symm]
          exact hq
        refine ⟨q, ns, k + 1, rfl, SqL.of e2, by omega, fun r hr0 => ?_⟩
        refine ⟨_, _, _, _, rfl, rfl, upd_same, rfl, ?_⟩
        rw [hM]
        exact ⟨But.upd.trans But.upd, ⟨r, k + 1, upd_same, hr0, by omega⟩, rfl⟩
      · rw [hM]
        exact ⟨But.refl _ _, ⟨a, k, hp, ha, hk⟩, rfl⟩
    · rw [hM] at hm
      obtain ⟨hB, ⟨a1, k1, hp1, ha1, hk1⟩, rfl⟩ := hm
      walk_at "rd"
      refine ⟨_, SqL.of hp1, _, rfl, ?_⟩
      walk_at "rd"
      refine ⟨hm0, _, SqL.of hp1, _, rfl, ?_⟩
      walk_at "rd"
      refine ⟨⟨hm0, hm1⟩, _, _, _, _, rfl, rfl, hp1, rfl, ?_⟩
      refine ok _ _ (Int.emod_nonneg _ (by omega)) (Int.emod_lt_of_pos _ hm0) (hB.trans But.upd) ⟨hne, ?_, a1 / m, k1, upd_same, Int.ediv_nonneg ha1 (by omega), hk1⟩
      rw [upd_ne hne.symm]
      exact hB _ _ hne.symm hq

def sp_pool (K : PySem.W.Frag) : Sp := fun vs H Q _ => ∃ (a : Addr) (ns : List Int), vs = [.ref a] ∧ SqL K H a (ns.map V.int) ∧ ∀ p q H', Same H H' → H p = none → H q = none → Pool H' p q ns → Q (.ref p) H'
theorem c__law_pool {f : Addr} {fd : FuncData} (D : C8.Def K mg "_law_pool" s__law_pool f fd) (b : Binds K fd ["script"] []) (z_list : mg "list" = none) : C8.Cal P w K mg base 1 "_law_pool" (sp_pool K) [] := by
  refine C8.cal0 D b .nil sc__law_pool (fun vs H Q E h => ?_) (fun cdv A outer s H vs Q E hr h => ?_)
  · obtain ⟨_, _, rfl, _⟩ := h
    rfl
  · obtain ⟨a, ns, rfl, hS, ok⟩ := h
    refine ⟨_, (pss_one (ps_ret (pe_lst (pa_cons pe_int (pa_cons (pe_callTy (listOf K) (by rfl) z_list (by decide +kernel) (pa_cons (pv 0) pa_nil)) (pa_cons (pe_un un_neg pe_int) pa_nil)))))), ?_⟩
    walk_at "rd"
    refine ⟨_, .inl hS, fun q hq => ⟨by show 3 ≤ sizeLine; decide, fun p hp => ?_⟩⟩
    have hne : p ≠ q := fun e => by
      subst e
      rw [upd_same] at hp
      cases hp
    have hp0 : H p = none := by
      rw [upd_ne hne] at hp
      exact hp
    refine ok p q _ ((same_upd hq).trans (same_upd hp)) hp0 hq ⟨hne, ?_, 0, -1, upd_same, by decide, by decide⟩
    rw [upd_ne hne.symm, upd_same]
/-- a written list, an item of it drawn -/
theorem menu {H : Hp} {p q l : Addr} {ns : List Int} {xs : List V} {Q : VK} {E : XK} (hP : Pool H p q ns) (hl : H l = none) (m : Int) (hm : m = xs.length) (hm0 : 0 < m) (hm1 : m < 1073741824) (ok : ∀ v H', v ∈ xs → But p H H' → Pool H' p q ns → Q v H') :
    sp_take [.ref p, .int m] (upd H l (.lst xs)) (fun y H2 => ∃ x x_1, y = V.int x_1 ∧ SqL K H2 l x ∧ ∃ x_2, atI x x_1 = some x_2 ∧ Q x_2 H2) E := by
  refine ⟨p, q, ns, m, rfl, hP.same (same_upd hl), hm0, hm1, fun r H1 r0 r1 hB hP1 => ?_⟩
  have hne : l ≠ p := by
    obtain ⟨_, _, _, _, hp, _⟩ := hP
    exact (ne_of_none hp hl).symm
  obtain ⟨v, hv, hm2⟩ := at_mem (xs := xs) r0 (by omega)
  exact ⟨_, r, rfl, SqL.of (hB l _ hne upd_same), v, hv, ok v H1 hm2 ((But.of (same_upd hl)).trans hB) hP1⟩
/-- a sign of a text drawn -/
theorem sign {H : Hp} {p q : Addr} {ns : List Int} {l : List Nat} {Q : Nat → Hp → Prop} {E : XK} (hP : Pool H p q ns) (m : Int) (hm : m = l.length) (hm0 : 0 < m) (hm1 : m < 10000) (ok : ∀ c H', c ∈ l → But p H H' → Pool H' p q ns → Q c H') :
    sp_take [.ref p, .int m] H (fun y H2 => ∃ x, y = V.int x ∧ l.length ≤ sizeLine ∧ ∃ c, atI l x = some c ∧ Q c H2) E := by
  refine ⟨p, q, ns, m, rfl, hP, hm0, by omega, fun r H1 r0 r1 hB hP1 => ?_⟩
  obtain ⟨v, hv, hm2⟩ := at_mem (xs := l) r0 (by omega)
  exact ⟨r, rfl, small (by omega), v, hv, ok v H1 hm2 hB hP1⟩
def sp_reserved : Sp := fun vs H Q _ => vs = [] ∧ ∀ p H', Same H H' → H p = none → H' p = some (.lst (RES.map vS)) → Q (.ref p) H'
theorem c__law_reserved {f : Addr} {fd : FuncData} (D : C8.Def K mg "_law_reserved" s__law_reserved f fd) (b : Binds K fd [] [])  : C8.Cal P w K mg base 1 "_law_reserved" sp_reserved [] := by
  refine C8.cal0 D b .nil sc__law_reserved (fun vs H Q E h => ?_) (fun cdv A outer s H vs Q E hr h => ?_)
  · obtain ⟨rfl, _⟩ := h
    rfl
  · obtain ⟨rfl, ok⟩ := h
    refine ⟨_, (pss_one (ps_ret (pe_lst (pa_cons pe_str (pa_cons pe_str (pa_cons pe_str (pa_cons pe_str (pa_cons pe_str pa_nil)))))))), ?_⟩
    walk_at "rd"
    refine ⟨by show 5 ≤ sizeLine; decide, fun p hp => ok p _ (same_upd hp) hp upd_same⟩
def sp_signs : Sp := fun vs H Q _ => vs = [] ∧ ∀ p H', Same H H' → H p = none → H' p = some (.lst (SGN.map vS)) → Q (.ref p) H'
theorem c__law_signs {f : Addr} {fd : FuncData} (D : C8.Def K mg "_law_signs" s__law_signs f fd) (b : Binds K fd [] [])  : C8.Cal P w K mg base 1 "_law_signs" sp_signs [] := by
  refine C8.cal0 D b .nil sc__law_signs (fun vs H Q E h => ?_) (fun cdv A outer s H vs Q E hr h => ?_)
  · obtain ⟨rfl, _⟩ := h
    rfl
  · obtain ⟨rfl, ok⟩ := h
    refine ⟨_, (pss_cons (ps_set (i := 0) sc__law_signs.nd rfl (by first | exact Or.inl rfl | exact Or.inr rfl) (pe_lst (pa_cons pe_str (pa_cons pe_str (pa_cons pe_str (pa_cons pe_str (pa_cons pe_str (pa_cons pe_str (pa_cons pe_str (pa_cons pe_str (pa_cons pe_str (pa_cons pe_str (pa_cons pe_str (pa_cons pe_str pa_nil)))))))))))))) (pss_one (ps_ret (pe_op op_cat (pv 0) (pe_lst (pa_cons pe_str (pa_cons pe_str (pa_cons pe_str (pa_cons pe_str (pa_cons pe_str (pa_cons pe_str (pa_cons pe_str (pa_cons pe_str (pa_cons pe_str (pa_cons pe_str (pa_cons pe_str (pa_cons pe_str pa_nil))))))))))))))))), ?_⟩
    walk_at "rd"
    refine ⟨by show 12 ≤ sizeLine; decide, fun p hp => ⟨by show 12 ≤ sizeLine; decide, fun r hr0 => ?_⟩⟩
    have nr : p ≠ r := ne_of_none upd_same hr0
    refine ⟨_, (by rw [upd_ne nr]; exact upd_same), _, upd_same, by show 24 ≤ sizeLine; decide, fun u hu => ?_⟩
    have hu0 : H u = none := ((same_upd hp).trans (same_upd hr0)).free hu
    exact ok u _ (((same_upd hp).trans (same_upd hr0)).trans (same_upd hu)) hu0 upd_same
def sp_name : Sp := fun vs H Q _ => ∃ (p q : Addr) (ns : List Int), vs = [.ref p] ∧ Pool H p q ns ∧ ∀ l H', GName l → But p H H' → Pool H' p q ns → Q (.str (S l)) H'
def NumL (L : List Int) : List V := L.map V.int
theorem c__law_name {f : Addr} {fd : FuncData} (D : C8.Def K mg "_law_name" s__law_name f fd) (b : Binds K fd ["pool"] []) (c__law_take : C8.Cal P w K mg base 2 "_law_take" sp_take []) (c__law_reserved : C8.Cal P w K mg base 1 "_law_reserved" sp_reserved []) (z_range : mg "range" = none) : C8.Cal P w K mg base 3 "_law_name" sp_name [] := by
  refine C8.cal0 D b .nil sc__law_name (fun vs H Q E h => ?_) (fun cdv A outer s H vs Q E hr h => ?_)
  · obtain ⟨_, _, _, rfl, _⟩ := h
    rfl
  · obtain ⟨p, q, ns, rfl, hP, ok⟩ := h
    refine ⟨_, (pss_cons (ps_set (i := 1) sc__law_name.nd rfl (by first | exact Or.inl rfl | exact Or.inr rfl) pe_str) (pss_cons (ps_set (i := 2) sc__law_name.nd rfl (by first | exact Or.inl rfl | exact Or.inr rfl) (pe_ix (ixL K) (pe_lst (pa_cons pe_str (pa_cons pe_str (pa_cons pe_str (pa_cons pe_str (pa_cons pe_str (pa_cons pe_str (pa_cons pe_str (pa_cons pe_str pa_nil))))))))) (C8.pe_c c__law_take hr (by decide) (by rfl) (pa_cons (pv 0) (pa_cons pe_int pa_nil))) (fun _ _ => rfl))) (C8.pss_cut (ps_if (pt_cmpR (op_eq) (C8.pe_c c__law_take hr (by decide) (by rfl) (pa_cons (pv 0) (pa_cons pe_int pa_nil))) pe_int (nomark _)) (pss_cons (ps_set (i := 2) sc__law_name.nd rfl (by first | exact Or.inl rfl | exact Or.inr rfl) (pe_ix ix_str (pv 1) (C8.pe_c c__law_take hr (by decide) (by rfl) (pa_cons (pv 0) (pa_cons pe_int pa_nil))) (fun _ _ => rfl))) (pss_one (ps_for PassesOwn.never rfl (pi_range1 (by rfl) z_range (pa_cons (pe_ix (ixL K) (pe_lst (pa_cons pe_int (pa_cons pe_int (pa_cons pe_int (pa_cons pe_int (pa_cons pe_int (pa_cons pe_int pa_nil))))))) (C8.pe_c c__law_take hr (by decide) (by rfl) (pa_cons (pv 0) (pa_cons pe_int pa_nil))) (fun _ _ => rfl)) pa_nil)) (pg_name (i := 3) sc__law_name.nd rfl (by first | exact Or.inl rfl | exact Or.inr rfl)) (pss_one (ps_set (i := 2) sc__law_name.nd rfl (by first | exact Or.inl rfl | exact Or.inr rfl) (pe_op op_add_str (pv 2) (pe_ix ix_str (pe_op op_add_str (pv 1) pe_str) (C8.pe_c c__law_take hr (by decide) (by rfl) (pa_cons (pv 0) (pa_cons pe_int pa_nil))) (fun _ _ => rfl)))))))) pss_nil) (C8.pss_cut (ps_if (pt_cmpR (inQ K) (pv 2) (pe_c0 c__law_reserved hr (by decide) (by rfl)) (by with_unfolding_all rfl)) (pss_one (ps_set (i := 2) sc__law_name.nd rfl (by first | exact Or.inl rfl | exact Or.inr rfl) (pe_op op_add_str (pv 2) pe_str))) pss_nil) (pss_one (ps_ret (pv 2))))))), ?_⟩
    walk_at "rd"
    refine ⟨by show 8 ≤ sizeLine; decide, fun l1 hl1 => menu hP hl1 8 rfl (by decide) (by decide) fun v H1 hv hB1 hP1 => ?_⟩
    obtain ⟨nm, hnm, rfl⟩ : ∃ nm ∈ NMS, vS (cs nm) = v := List.mem_map.mp (show v ∈ NMS.map fun s => vS (cs s) from hv)
    obtain ⟨M, hM⟩ : ∃ M : L2.St → Hp → Prop, M = fun σ' H' => ∃ (l : List Nat) (k : Option V), (∃ c r, l = c :: r ∧ c ∈ LOW) ∧ (∀ c ∈ l, c ∈ LOW ++ DIG) ∧ l.length ≤ 12 ∧ σ' = [some (.ref p), some (.str (S LOW)), some (.str (S l)), k] ∧ But p H H' ∧ Pool H' p q ns := ⟨_, rfl⟩
    refine ⟨M, ?_, fun σ' H' hm => ?_⟩
    · walk_at "rd"
      refine ⟨p, q, ns, 3, rfl, hP1, by decide, by decide, fun r H2 r0 r1 hB2 hP2 => ⟨rfl, ?_⟩⟩
      walk_at "rd"
      refine ite2 (fun _ => ?_) (fun _ => ?_)
      · refine sign hP2 26 (by exact congrArg Int.ofNat low_len.symm) (by decide) (by decide) (fun c H3 hc hB3 hP3 => ?_)
        refine ⟨by show 6 ≤ sizeLine; decide, fun l2 hl2 => menu hP3 hl2 6 rfl (by decide) (by decide) fun v H4 hv4 hB4 hP4 => ?_⟩
        obtain ⟨j, hj, rfl⟩ : ∃ j ∈ ([0, 1, 2, 3, 7, 11] : List Int), V.int j = v := List.mem_map.mp (show v ∈ ([0, 1, 2, 3, 7, 11] : List Int).map V.int from hv4)
        have hj2 : 0 ≤ j ∧ j ≤ 11 := by
          have : ∀ j ∈ ([0, 1, 2, 3, 7, 11] : List Int), 0 ≤ j ∧ j ≤ 11 := by decide
          exact this j hj
        refine ⟨j, rfl, by omega, by omega, ?_⟩
        have hBx : But p H H4 := ((hB1.trans hB2).trans hB3).trans hB4
        refine for_range (fun i σ H5 => ∃ (l : List Nat) (k : Option V), (∃ c r, l = c :: r ∧ c ∈ LOW) ∧ (∀ c ∈ l, c ∈ LOW ++ DIG) ∧ l.length = i + 1 ∧ σ = [some (.ref p), some (.str (S LOW)), some (.str (S l)), k] ∧ But p H H5 ∧ Pool H5 p q ns) ?_ ?_ ?_
        · exact ⟨[c], none, ⟨c, [], rfl, hc⟩, fun d hd => by rw [List.mem_singleton.mp hd]; exact List.mem_append_left _ hc, rfl, rfl, hBx, hP4⟩
        · rintro i σ H5 hi ⟨l, k, hd, al, le, rfl, hB5, hP5⟩
          have hle : l.length ≤ 11 := by omega
          walk_at "rd"
          refine ⟨by rw [low_len]; exact small (by decide), sign (l := LOW ++ DIG) hP5 36 (by rw [lowdig_len]; rfl) (by decide) (by decide) fun d H6 hd6 hB6 hP6 => ⟨small (by omega), l ++ [d], ?_, ?_, ?_, _, ⟨rfl, rfl⟩, hB5.trans hB6, hP6⟩⟩
          · obtain ⟨c0, r0', rfl, hc0⟩ := hd
            exact ⟨c0, r0' ++ [d], rfl, hc0⟩
          · intro x hx
            rcases List.mem_append.mp hx with hx | hx
            · exact al x hx
            · rw [List.mem_singleton.mp hx]
              exact hd6
          · rw [List.length_append, le]
            rfl
        · rintro σ H5 ⟨l, k, hd, al, le, rfl, hB5, hP5⟩
          rw [hM]
          exact ⟨l, k, hd, al, by omega, rfl, hB5, hP5⟩
      · rw [hM]
        obtain ⟨h1, h2, h3⟩ := nms_ok nm hnm
        exact ⟨cs nm, none, h1, h2, h3, rfl, hB1.trans hB2, hP2⟩
    · rw [hM] at hm
      obtain ⟨l, k, hd, al, le, rfl, hB, hP2⟩ := hm
      obtain ⟨M2, hM2⟩ : ∃ M : L2.St → Hp → Prop, M = fun σ' H' => ∃ (l : List Nat) (k : Option V), GName l ∧ σ' = [some (.ref p), some (.str (S LOW)), some (.str (S l)), k] ∧ But p H H' ∧ Pool H' p q ns := ⟨_, rfl⟩
      refine ⟨M2, ?_, fun σ' H' hm => ?_⟩
      · walk_at "rd"
        refine ⟨rfl, fun r1 H3 sm hr0 hr1 => ⟨r1, rfl, _, .inl (SqL.of hr1), rfl, flat_S RES, ?_⟩⟩
        obtain ⟨g1, g2⟩ := gname_of hd al le
        rw [inV_S]
        refine ite2 (fun h => ?_) (fun h => ?_)
        · have hm : l ∈ RES := of_decide_eq_true h
          refine ⟨small (by have := res_len l hm; have : (cs "0").length = 1 := by decide +kernel
                            omega), ?_⟩
          rw [hM2]
          exact ⟨l ++ cs "0", k, g1 hm, rfl, hB.trans (But.of sm), hP2.same sm⟩
        · have hm : l ∉ RES := fun e => h (decide_eq_true e)
          rw [hM2]
          exact ⟨l, k, g2 hm, rfl, hB.trans (But.of sm), hP2.same sm⟩
      · rw [hM2] at hm
        obtain ⟨l, k, hg, rfl, hB3, hP3⟩ := hm
        walk_at "rd"
        exact ok l _ hg hB3 hP3
def sp_word : Sp := fun vs H Q _ => ∃ (p q : Addr) (ns : List Int), vs = [.ref p] ∧ Pool H p q ns ∧ ∀ l H', GWord l → But p H H' → Pool H' p q ns → Q (.str (S l)) H'
theorem c__law_word {f : Addr} {fd : FuncData} (D : C8.Def K mg "_law_word" s__law_word f fd) (b : Binds K fd ["pool"] []) (c__law_take : C8.Cal P w K mg base 2 "_law_take" sp_take []) (z_range : mg "range" = none) : C8.Cal P w K mg base 3 "_law_word" sp_word [] := by
  refine C8.cal0 D b .nil sc__law_word (fun vs H Q E h => ?_) (fun cdv A outer s H vs Q E hr h => ?_)
  · obtain ⟨_, _, _, rfl, _⟩ := h
    rfl
  · obtain ⟨p, q, ns, rfl, hP, ok⟩ := h
    refine ⟨_, (pss_cons (ps_set (i := 1) sc__law_word.nd rfl (by first | exact Or.inl rfl | exact Or.inr rfl) pe_str) (pss_cons (ps_set (i := 2) sc__law_word.nd rfl (by first | exact Or.inl rfl | exact Or.inr rfl) (pe_ix ix_str (pv 1) (C8.pe_c c__law_take hr (by decide) (by rfl) (pa_cons (pv 0) (pa_cons pe_int pa_nil))) (fun _ _ => rfl))) (pss_cons (ps_for PassesOwn.never rfl (pi_range1 (by rfl) z_range (pa_cons (pe_ix (ixL K) (pe_lst (pa_cons pe_int (pa_cons pe_int (pa_cons pe_int (pa_cons pe_int pa_nil))))) (C8.pe_c c__law_take hr (by decide) (by rfl) (pa_cons (pv 0) (pa_cons pe_int pa_nil))) (fun _ _ => rfl)) pa_nil)) (pg_name (i := 3) sc__law_word.nd rfl (by first | exact Or.inl rfl | exact Or.inr rfl)) (pss_one (ps_set (i := 2) sc__law_word.nd rfl (by first | exact Or.inl rfl | exact Or.inr rfl) (pe_op op_add_str (pv 2) (pe_ix ix_str (pe_op op_add_str (pv 1) pe_str) (C8.pe_c c__law_take hr (by decide) (by rfl) (pa_cons (pv 0) (pa_cons pe_int pa_nil))) (fun _ _ => rfl)))))) (pss_one (ps_ret (pv 2)))))), ?_⟩
    walk_at "rd"
    refine sign hP 26 (by exact congrArg Int.ofNat upp_len.symm) (by decide) (by decide) (fun c H3 hc hB3 hP3 => ?_)
    refine ⟨by show 4 ≤ sizeLine; decide, fun l2 hl2 => menu hP3 hl2 4 rfl (by decide) (by decide) fun v H4 hv4 hB4 hP4 => ?_⟩
    obtain ⟨j, hj, rfl⟩ : ∃ j ∈ ([0, 1, 2, 11] : List Int), V.int j = v := List.mem_map.mp (show v ∈ ([0, 1, 2, 11] : List Int).map V.int from hv4)
    have hj2 : 0 ≤ j ∧ j ≤ 11 := by
      have : ∀ j ∈ ([0, 1, 2, 11] : List Int), 0 ≤ j ∧ j ≤ 11 := by decide
      exact this j hj
    refine ⟨j, rfl, by omega, by omega, ?_⟩
    refine for_range (fun i σ H5 => ∃ (l : List Nat) (k : Option V), (∃ c r, l = c :: r ∧ c ∈ UPP) ∧ (∀ c ∈ l, c ∈ UPP ++ DIG) ∧ l.length = i + 1 ∧ σ = [some (.ref p), some (.str (S UPP)), some (.str (S l)), k] ∧ But p H H5 ∧ Pool H5 p q ns) ?_ ?_ ?_
    · exact ⟨[c], none, ⟨c, [], rfl, hc⟩, fun d hd => by rw [List.mem_singleton.mp hd]; exact List.mem_append_left _ hc, rfl, rfl, hB3.trans hB4, hP4⟩
    · rintro i σ H5 hi ⟨l, k, hd, al, le, rfl, hB5, hP5⟩
      have hle : l.length ≤ 11 := by omega
      walk_at "rd"
      refine ⟨by rw [upp_len]; exact small (by decide), sign (l := UPP ++ DIG) hP5 36 (by rw [uppdig_len]; rfl) (by decide) (by decide) fun d H6 hd6 hB6 hP6 => ⟨small (by omega), l ++ [d], ?_, ?_, ?_, _, ⟨rfl, rfl⟩, hB5.trans hB6, hP6⟩⟩
      · obtain ⟨c0, r0', rfl, hc0⟩ := hd
        exact ⟨c0, r0' ++ [d], rfl, hc0⟩
      · intro x hx
        rcases List.mem_append.mp hx with hx | hx
        · exact al x hx
        · rw [List.mem_singleton.mp hx]
          exact hd6
      · rw [List.length_append, le]
        rfl
    · rintro σ H5 ⟨l, k, hd, al, le, rfl, hB5, hP5⟩
      walk_at "rd"
      exact ok l _ ⟨hd, al, by omega⟩ hB5 hP5
def sp_space : Sp := fun vs H Q _ => ∃ (p q : Addr) (ns : List Int) (nd : Bool), vs = [.ref p, .bl nd] ∧ Pool H p q ns ∧ ∀ l H', (∀ c ∈ l, c = 32 ∨ c = 10) → l.length ≤ 4 → (nd = true → l ≠ []) → But p H H' → Pool H' p q ns → Q (.str (S l)) H'
theorem c__law_space {f : Addr} {fd : FuncData} (D : C8.Def K mg "_law_space" s__law_space f fd) (b : Binds K fd ["pool", "needed"] []) (c__law_take : C8.Cal P w K mg base 2 "_law_take" sp_take []) : C8.Cal P w K mg base 3 "_law_space" sp_space [] := by
  refine C8.cal0 D b .nil sc__law_space (fun vs H Q E h => ?_) (fun cdv A outer s H vs Q E hr h => ?_)
  · obtain ⟨_, _, _, _, rfl, _⟩ := h
    rfl
  · obtain ⟨p, q, ns, nd, rfl, hP, ok⟩ := h
    refine ⟨_, (pss_cons (ps_set (i := 2) sc__law_space.nd rfl (by first | exact Or.inl rfl | exact Or.inr rfl) (pe_ix (ixL K) (pe_lst (pa_cons pe_str (pa_cons pe_str (pa_cons pe_str (pa_cons pe_str (pa_cons pe_str (pa_cons pe_str pa_nil))))))) (C8.pe_c c__law_take hr (by decide) (by rfl) (pa_cons (pv 0) (pa_cons pe_int pa_nil))) (fun _ _ => rfl))) (pss_cons (ps_if (PW.pt (pw_and (pt_val (pv 1)) (pw_and1 (pt_cmpR (op_eq) (pv 2) pe_str (nomark _))))) (pss_one (ps_ret pe_str)) pss_nil) (pss_one (ps_ret (pv 2))))), ?_⟩
    walk_at "rd"
    refine ⟨by show 6 ≤ sizeLine; decide, fun l1 hl1 => menu hP hl1 6 rfl (by decide) (by decide) fun v H1 hv hB1 hP1 => ?_⟩
    obtain ⟨nm, hnm, rfl⟩ : ∃ nm ∈ SPS, vS (cs nm) = v := List.mem_map.mp (show v ∈ SPS.map fun s => vS (cs s) from hv)
    obtain ⟨h1, h2⟩ := sps_ok nm hnm
    refine ite2 (fun hn => ⟨rfl, ite2 (fun he => ?_) (fun he => ?_)⟩) (fun hn => ?_)
    · exact ok _ _ (by decide +kernel) (by decide +kernel) (fun _ => by decide +kernel) hB1 hP1
    · refine ok _ _ h1 h2 (fun _ e0 => he ?_) hB1 hP1
      show V.str (S (cs nm)) = _
      rw [e0]
      rfl
    · exact ok _ _ h1 h2 (fun e => absurd e hn) hB1 hP1
def sp_joins : Sp := fun vs H Q _ => ∃ (a b : List Nat) (x y : Nat) (a' b' : List Nat), vs = [.str (S a), .str (S b)] ∧ a = a' ++ [x] ∧ b = y :: b' ∧ a.length ≤ 1000 ∧ b.length ≤ 1000 ∧ ∀ H', Same H H' → Q (.bl (joins a b)) H'
theorem c__law_joins {f : Addr} {fd : FuncData} (D : C8.Def K mg "_law_joins" s__law_joins f fd) (b : Binds K fd ["left", "right"] []) (c__law_signs : C8.Cal P w K mg base 1 "_law_signs" sp_signs []) (z_len : mg "len" = none) : C8.Cal P w K mg base 2 "_law_joins" sp_joins [] := by
  refine C8.cal0 D b .nil sc__law_joins (fun vs H Q E h => ?_) (fun cdv A outer s H vs Q E hr h => ?_)
  · obtain ⟨_, _, _, _, _, _, rfl, _⟩ := h
    rfl
  · obtain ⟨a, b, x, y, a', b', rfl, ea, eb, la, lb, ok⟩ := h
    refine ⟨_, (C8.pss_cut (ps_if (PW.pt (pw_and (pt_val (pe_m0 PySem.F.slot_str_isalnum PySem.F.type_str_isalnum mt_isalnum (pe_ix ix_str (pv 0) (pe_un un_neg pe_int) (fun _ _ => rfl)))) (pw_and1 (pt_val (pe_m0 PySem.F.slot_str_isalnum PySem.F.type_str_isalnum mt_isalnum (pe_ix ix_str (pv 1) pe_int (fun _ _ => rfl))))))) (pss_one (ps_ret pe_bl)) pss_nil) (pss_cons (ps_for PassesOwn.never rfl (piL K (pe_c0 c__law_signs hr (by decide) (by rfl))) (pg_name (i := 2) sc__law_joins.nd rfl (by first | exact Or.inl rfl | exact Or.inr rfl)) (pss_one (ps_if (PW.pt (pw_and (pt_cmpR (op_gt) (pe_callB call_len_str (by rfl) z_len PySem.boot_len (pa_cons (pv 2) pa_nil)) (pe_callB call_len_str (by rfl) z_len PySem.boot_len (pa_cons (pv 0) pa_nil)) (nomark _)) (pw_and (pt_val (pe_m1 PySem.F.slot_str_startswith PySem.F.type_str_startswith mt_startswith (pv 2) (pv 0))) (pw_and1 (pt_val (pe_m1 PySem.F.slot_str_startswith PySem.F.type_str_startswith mt_startswith (pe_op op_add_str (pv 0) (pv 1)) (pv 2))))))) (pss_one (ps_ret pe_bl)) pss_nil))) (pss_one (ps_ret pe_bl)))), ?_⟩
    walk_at "rd"
    obtain ⟨M, hM⟩ : ∃ M : L2.St → Hp → Prop, M = fun σ' H' => (isAN x && isAN y) = false ∧ σ' = [some (.str (S a)), some (.str (S b)), none] ∧ H' = H := ⟨_, rfl⟩
    refine ⟨M, ?_, fun σ' H' hm => ?_⟩
    · walk_at "rd"
      have ea2 : atI a (-1) = some x := by rw [ea]; exact atI_last _ _
      have eb2 : atI b 0 = some y := by rw [eb]; exact atI_nat (j := 0) rfl
      refine ⟨small (by omega), x, ea2, ?_⟩
      refine ite2 (fun h1 => ⟨small (by omega), y, eb2, ?_⟩) (fun h1 => ?_)
      · refine ite2 (fun h2 => ?_) (fun h2 => ?_)
        · have ej : joins a b = true := by
            unfold joins
            rw [ea, eb]
            simp [h1, h2]
          rw [← ej]
          exact ok H (Same.refl H)
        · rw [hM]
          exact ⟨by simp [h1, h2], rfl, rfl⟩
      · rw [hM]
        exact ⟨by simp [h1], rfl, rfl⟩
    · rw [hM] at hm
      obtain ⟨han, rfl, rfl⟩ := hm
      walk_at "rd"
      refine ⟨rfl, fun r H1 sm hr0 hr1 => ⟨r, rfl, ⟨_, SqL.of hr1⟩, ?_⟩⟩
      obtain ⟨Pv, hPv⟩ : ∃ Pv : Nat → L2.St → Hp → Prop, Pv = fun i σ H2 => ∃ k, σ = [some (.str (S a)), some (.str (S b)), k] ∧ H1 = H2 ∧ (SGN.take i).any (fun s => decide (a.length < s.length) && pfx a s && pfx s (a ++ b)) = false := ⟨_, rfl⟩
      refine for_list (xs := SGN.map vS) Pv ?_ ?_ ?_ ?_
      · rw [hPv]
        exact ⟨none, rfl, rfl, rfl⟩
      · rw [hPv]
        rintro i σ H2 hi ⟨k, rfl, rfl, _⟩
        exact SqL.of hr1
      · intro i v σ H2 hv hp
        rw [hPv] at hp
        obtain ⟨k, rfl, rfl, hany⟩ := hp
        rw [List.getElem?_map] at hv
        obtain ⟨s, hs, rfl⟩ := Option.map_eq_some_iff.mp hv
        have hsm : s ∈ SGN := List.mem_of_getElem? hs
        have hsl : s.length ≤ 3 := sgn_len s hsm
        unfold vS
        walk_at "rd"
        have hnext : (decide (a.length < s.length) && pfx a s && pfx s (a ++ b)) = false → Pv (i + 1) [some (.str (S a)), some (.str (S b)), some (.str (S s))] H1 := by
          intro h
          rw [hPv]
          refine ⟨_, rfl, rfl, ?_⟩
          rw [List.take_add_one, hs, List.any_append, hany]
          simp [h]
        have hstop : (decide (a.length < s.length) && pfx a s && pfx s (a ++ b)) = true → Q (V.bl true) H1 := by
          intro h
          have ej : joins a b = true := by
            unfold joins
            rw [List.any_eq_true.mpr ⟨s, hsm, h⟩]
            simp
          rw [← ej]
          exact ok _ sm
        refine ⟨small (by omega), small (by omega), ite2 (fun h1 => ite2 (fun h2 => ⟨small (by omega), ite2 (fun h3 => hstop ?_) (fun h3 => hnext ?_)⟩) (fun h2 => hnext ?_)) (fun h1 => hnext ?_)⟩
        · have h1' : a.length < s.length := by omega
          simp [h1', h2, h3]
        · simp [h3]
        · simp [h2]
        · have h1' : ¬ a.length < s.length := by omega
          simp [h1']
      · intro σ H2 hp
        rw [hPv] at hp
        obtain ⟨k, rfl, rfl, hany⟩ := hp
        walk_at "rd"
        rw [List.length_map, List.take_length] at hany
        have ej : joins a b = false := by
          unfold joins
          rw [hany, ea, eb]
          simpa using han
        rw [← ej]
        exact ok _ sm

end
end
section
local macro_rules | `(tactic| walk_at "rd") => `(tactic| simp only [tSeq, tNext, tAsg, gName, tRet, tRetN, tIfS, tDrop, tVar, tC, tOp, tUn, tTest, tCB, tCons, tNil, tB, tAnd, tOr, tNot, tAndV, tOrV, tNotV, tIf, tCall, tTup, tLst, tSl, tPart, tNoPart, tM0, tM1, tBM, tChain, tBreak, tCont, tNever, tAug, ipI, tPar, tyV_str,
  tFor_eq, tLc_eq, tMkO, tYes, wipe, ofStr_S, S_cat, one_S, len_S, S_iff, S_cps, Int.zero_add, gNil, gCons, gTup, gSub, iRng1, iRng2, iList, iTup, iStr, rI0, rI, rU, rEq, rNe, rIxL, rIxT, rIxS, Dw.rLen, rListOf, rTupOf, rNotB, rIsB, rMulS, rIn, rCat, rAppend, rCatA, rEqD, rNeD, C8.rSlX, tDGet, tDGet2, tDIn, tDNotIn, rSetD, rAll, rKIn, tBM0, rPop, rExtend, tAddT, rAddT, rSetT0, Dw.rSetL, rSortT, StX.tStar, tDNewK, tDisp, tPairs, L2.start, cxOf_K, cxOf_w, cxOf_prog,
  List.map_cons, List.map_nil, List.length_cons, List.length_nil, List.replicate, List.cons_append, List.nil_append, Nat.reduceAdd, Nat.reduceSub, Nat.zero_add, List.append_nil,
  List.set_cons_zero, List.set_cons_succ, List.getElem?_cons_zero, List.getElem?_cons_succ, Option.some.injEq, V.int.injEq, V.bl.injEq, V.ref.injEq, V.str.injEq, V.ty.injEq, List.cons.injEq, and_true, true_and, reduceCtorEq, false_and, exists_false, or_false, false_or, exists_eq_left, exists_eq_left', exists_eq', sw_S, an_S, exists_and_left, exists_const, exists_eq, decide_eq_true_eq, Bool.false_eq_true, if_true, if_false, Bool.not_eq_true', decide_eq_false_iff_not, Bool.not_true, Bool.not_false, ite_not, scal, and_false])
section
variable {P : Program} {w : World} {K : PySem.W.Frag} {mg : Str → Option Value} {base : Heap}
theorem put_spec {D : Prs} {z : Str} {i : Int} (nd : (keys D).Nodup) : (keys (put D z i)).Nodup ∧ (∀ y, y ∈ keys (put D z i) ↔ y ∈ keys D ∨ y = z) ∧ (put D z i).length ≤ D.length + 1 ∧ ∀ e ∈ put D z i, e ∈ D ∨ e = (z, i) := by
  have h := add1_keys (p := (z, i - (look D z).getD 0)) nd
  have e : add1 D (z, i - (look D z).getD 0) = put D z i := by
    show put D z ((look D z).getD 0 + (i - (look D z).getD 0)) = _
    congr 1
    omega
  rw [e] at h
  refine ⟨h.1, h.2.1, h.2.2, fun x hx => ?_⟩
  unfold put at hx
  split at hx
  · obtain ⟨y, hy, rfl⟩ := List.mem_map.mp hx
    by_cases q : y.1 = z
    · rw [if_pos q]
      exact .inr (by rw [q])
    · rw [if_neg q]
      exact .inl hy
  · rcases List.mem_append.mp hx with q | q
    · exact .inl q
    · exact .inr (List.mem_singleton.mp q)
theorem look_mem {D : Prs} {z : Str} {i : Int} (h : look D z = some i) : (z, i) ∈ D := by
  unfold look at h
  obtain ⟨e, he, rfl⟩ := Option.map_eq_some_iff.mp h
  have h1 := List.mem_of_find?_eq_some he
  have h2 : e.1 = z := by
    have := List.find?_some (p := fun p : Str × Int => decide (p.1 = z)) he
    exact of_decide_eq_true this
  rw [← h2]
  exact h1
def sp_term : Sp := fun vs H Q _ => ∃ (p q : Addr) (ns : List Int) (N : Addr) (ls : List (List Nat)), vs = [.ref p, .ref N] ∧ Pool H p q ns ∧ N ≠ p ∧ H N = some (.lst ((ls.map S).map V.str)) ∧ 0 < ls.length ∧ ls.length ≤ 10 ∧ (∀ l ∈ ls, GName l) ∧
  ∀ (t : Addr) (ps : Prs) (c : Int) H', But p H H' → Pool H' p q ns → H t = none → TermAt H' t ps c → (Fm.cmp true ps c).Good → smT ps c → (∀ x ∈ ps, x.1 ∈ ls.map S) → Q (.ref t) H'
theorem c__law_term {f : Addr} {fd : FuncData} (D : C8.Def K mg "_law_term" s__law_term f fd) (b : Binds K fd ["pool", "names"] []) (c__law_take : C8.Cal P w K mg base 2 "_law_take" sp_take []) (z_range : mg "range" = none) (z_len : mg "len" = none) (z_sorted : mg "sorted" = none) (z_tuple : mg "tuple" = none) : C8.Cal P w K mg base 3 "_law_term" sp_term [] := by
  refine C8.cal0 D b .nil sc__law_term (fun vs H Q E h => ?_) (fun cdv A outer s H vs Q E hr h => ?_)
  · obtain ⟨_, _, _, _, _, rfl, _⟩ := h
    rfl
  · obtain ⟨p, q, ns, N, ls, rfl, hP, hNp, hN0, z0, z1, hg, ok⟩ := h
    refine ⟨_, (pss_cons (ps_set (i := 2) sc__law_term.nd rfl (by first | exact Or.inl rfl | exact Or.inr rfl) pe_dnewK) (pss_cons (ps_for PassesOwn.never rfl (pi_range1 (by rfl) z_range (pa_cons (C8.pe_c c__law_take hr (by decide) (by rfl) (pa_cons (pv 0) (pa_cons pe_int pa_nil))) pa_nil)) (pg_name (i := 3) sc__law_term.nd rfl (by first | exact Or.inl rfl | exact Or.inr rfl)) (pss_cons (ps_set (i := 4) sc__law_term.nd rfl (by first | exact Or.inl rfl | exact Or.inr rfl) (pe_ix (ixL K) (pv 1) (C8.pe_c c__law_take hr (by decide) (by rfl) (pa_cons (pv 0) (pa_cons (pe_callB (lenS K) (by rfl) z_len PySem.boot_len (pa_cons (pv 1) pa_nil)) pa_nil))) (fun _ _ => rfl))) (pss_one (ps_asg (pe_ix (ixL K) (pe_lst (pa_cons pe_int (pa_cons (pe_un un_neg pe_int) (pa_cons pe_int (pa_cons (pe_un un_neg pe_int) (pa_cons pe_int (pa_cons pe_int (pa_cons (pe_un un_neg pe_int) (pa_cons pe_int pa_nil))))))))) (C8.pe_c c__law_take hr (by decide) (by rfl) (pa_cons (pv 0) (pa_cons pe_int pa_nil))) (fun _ _ => rfl)) (pg_sub (pv 2) (pv 4) (set_dict (hu1 hr))))))) (pss_cons (ps_set (i := 5) sc__law_term.nd rfl (by first | exact Or.inl rfl | exact Or.inr rfl) (pe_ix (ixL K) (pe_lst (pa_cons pe_int (pa_cons pe_int (pa_cons pe_int (pa_cons (pe_un un_neg pe_int) (pa_cons pe_int (pa_cons (pe_un un_neg pe_int) (pa_cons pe_int (pa_cons (pe_un un_neg pe_int) pa_nil))))))))) (C8.pe_c c__law_take hr (by decide) (by rfl) (pa_cons (pv 0) (pa_cons pe_int pa_nil))) (fun _ _ => rfl))) (pss_one (ps_ret (pe_tup (pa_cons (pe_callTy (tupOf K) (by rfl) z_tuple (by decide +kernel) (pa_cons (pe_lc (own := [("name", 4)]) (g := (gName 4)) (tt := tYes) rfl sc__law_term.nd (piL K (pe_callB (call_sortedD rfl) (by rfl) z_sorted (by decide +kernel) (pa_cons (pv 2) pa_nil))) (blkOk_by (N := N__law_term) (sc := C8.fnScope s__law_term) (by decide +kernel)) (fun _ _ _ _ _ => (pg_name (i := 4) sc__law_term.nd rfl (by first | exact Or.inl rfl | exact Or.inr rfl))) (fun _ _ _ _ _ => pts_nil) (fun _ _ _ _ _ => (pe_tup (pa_cons (pv 4) (pa_cons (pe_dget (hu1 hr) (pv 2) (pv 4) (fun _ _ => rfl)) pa_nil))))) pa_nil)) (pa_cons (pv 5) pa_nil)))))))), ?_⟩
    walk_at "rd"
    intro D hD
    have hDp : D ≠ p := hP.ne hD
    have hDq : D ≠ q := hP.neq hD
    refine ⟨p, q, ns, 4, rfl, hP.same (same_upd hD), by decide, by decide, fun u H3 u0 u1 hB3 hP3 => ⟨_, rfl, by omega, by omega, ?_⟩⟩
    refine for_rangeN (fun i σ H4 => ∃ (E : Prs) (x y : Option V), σ = [some (V.ref p), some (V.ref N), some (V.ref D), x, y, none] ∧ H4 D = some (.dK (E.map ent)) ∧ (keys E).Nodup ∧ E.length ≤ i ∧ (∀ e ∈ E, e.1 ∈ ls.map S ∧ okC e.2 = true ∧ e.2 ≠ 0 ∧ e.2.natAbs ≤ 64) ∧ Pool H4 p q ns ∧ But p H H4) ?_ ?_ ?_
    · exact ⟨[], none, none, rfl, hB3 D _ hDp upd_same, List.nodup_nil, Nat.le_refl _, (fun _ h => nomatch h), hP3, (But.of (same_upd hD)).trans hB3⟩
    · rintro i σ H4 M hi ⟨E, x, y, rfl, h4, nd, hl, he, hP4, hB4⟩ hM
      walk_at "rd"
      have hN4 := hB4 N _ hNp hN0
      refine ⟨_, .inl (SqL.of hN4), p, q, ns, _, rfl, hP4, by rw [List.length_map, List.length_map]; omega, by rw [List.length_map, List.length_map]; omega, fun e H5 e0 e1 hB5 hP5 => ?_⟩
      obtain ⟨zv, hat, hzm⟩ := at_mem (xs := (ls.map S).map V.str) e0 e1
      obtain ⟨z, hz, rfl⟩ := List.mem_map.mp hzm
      refine ⟨_, e, rfl, SqL.of (hB5 N _ hNp hN4), .str z, hat, by show 8 ≤ sizeLine; decide, fun l3 hl3 => menu hP5 hl3 8 rfl (by decide) (by decide) fun v H6 hv hB6 hP6 => ?_⟩
      obtain ⟨n, rfl, n0, n1⟩ : ∃ n : Int, v = .int n ∧ okC n = true ∧ n ≠ 0 ∧ n.natAbs ≤ 64 := by
        simp only [List.mem_cons, List.not_mem_nil, or_false] at hv
        rcases hv with h | h | h | h | h | h | h | h <;> exact ⟨_, h, by decide, by decide, by decide⟩
      have h6 := hB6 D _ hDp (hB5 D _ hDp h4)
      refine ⟨_, DPut.k (k := Sum.inr z) h6 (by rw [List.length_map]; exact smallt (by omega)), ?_⟩
      rw [put_ent]
      obtain ⟨k1, k2, k3, k4⟩ := put_spec (D := E) (z := z) (i := n) nd
      refine hM _ _ ⟨put E z n, _, _, rfl, upd_same, k1, by omega, fun x hx => ?_, hP6.set hDp hDq, ((hB4.trans hB5).trans hB6).new hD⟩
      rcases k4 x hx with h | h
      · exact he x h
      · rw [h]
        exact ⟨hz, n0, n1⟩
    · rintro σ H4 ⟨E, x, y, rfl, h4, nd, hl, he, hP4, hB4⟩
      walk_at "rd"
      refine ⟨by show 8 ≤ sizeLine; decide, fun l3 hl3 => menu hP4 hl3 8 rfl (by decide) (by decide) fun v H5 hv hB5 hP5 => ?_⟩
      obtain ⟨c, rfl, hc, hc100⟩ : ∃ n : Int, v = .int n ∧ okC n = true ∧ n.natAbs ≤ 100 := by
        simp only [List.mem_cons, List.not_mem_nil, or_false] at hv
        rcases hv with h | h | h | h | h | h | h | h <;> exact ⟨_, h, by decide, by decide⟩
      have h5 := hB5 D _ hDp h4
      have hB5' := hB4.trans hB5
      have kl : (keys E).length = E.length := by simp [keys]
      refine ⟨_, .of h5, keys E, by simp [keys, ent], by omega, fun ys Y hperm hsort hY => ?_⟩
      have hyl : ys.length ≤ 4 := by
        rw [hperm.length_eq]
        omega
      obtain ⟨HY, hHY⟩ : ∃ HY, HY = upd H5 Y (.lst (ys.map V.str)) := ⟨_, rfl⟩
      have sY : Same H5 HY := by
        rw [hHY]
        exact same_upd hY
      have hYY : HY Y = some (.lst (ys.map V.str)) := by rw [hHY, upd_same]
      rw [← hHY]
      refine ⟨⟨_, SqL.of hYY⟩, fun G hG => ?_⟩
      obtain ⟨F, hF⟩ : ∃ F : Str → Str × Int, F = fun z => (z, (look E z).getD 0) := ⟨_, rfl⟩
      refine lc_listN (xs := ys.map V.str) (fun i H6 => ∃ bs : List Addr, H6 G = some (.lst (bs.map V.ref)) ∧ PrsAt H6 bs ((ys.take i).map F) ∧ Same HY H6) ?_ ?_ ?_ ?_
      · exact ⟨[], upd_same, trivial, same_upd hG⟩
      · rintro i H6 _ ⟨bs, _, _, s6⟩
        exact SqL.of (s6 _ _ hYY)
      · rintro i x H6 M hx ⟨bs, h6, p6, s6⟩ hM
        rw [List.getElem?_map] at hx
        obtain ⟨z, hz, rfl⟩ := Option.map_eq_some_iff.mp hx
        obtain ⟨v, hv⟩ := look_some (hperm.mem_iff.mp (List.mem_of_getElem? hz))
        have hil := (List.getElem?_eq_some_iff.mp hz).1
        have hbl := p6.len
        rw [List.length_map, List.length_take] at hbl
        have hget : DGet H6 D (.str z) (some (.int v)) := by
          have e := DGet.k (k := Sum.inr z) (s6 _ _ (sY _ _ h5))
          rw [val_ent, hv] at e
          exact e
        walk_at "rd"
        refine ⟨.int v, hget, by decide, fun T hT => ⟨_, (same_upd hT) _ _ h6, smallt (by rw [List.length_map]; omega), hM _ ⟨bs ++ [T], ?_, ?_, ?_⟩⟩⟩
        · rw [upd_same, List.map_append]
          rfl
        · have hTG : T ≠ G := (ne_of_none h6 hT).symm
          rw [List.take_add_one, hz, List.map_append]
          refine PrsAt.snoc (PrsAt.keep ?_ But.upd (p6.same (same_upd hT))) ?_
          · intro x y e
            rw [(same_upd hT) _ _ h6] at e
            cases e
          · have e : F z = (z, v) := by rw [hF]; simp [hv]
            rw [upd_ne hTG, upd_same]
            show some (HO.tup [V.str z, V.int v]) = some (HO.tup [V.str (F z).1, V.int (F z).2])
            rw [e]
        · exact Dw.Same.new (s6.trans (same_upd hT)) hG
      · rintro H6 ⟨bs, h6, p6, s6⟩
        rw [List.length_map, List.take_length] at p6
        have hkF : keys (ys.map F) = ys := by
          unfold keys
          rw [List.map_map, hF]
          show ys.map (fun z => z) = ys
          rw [List.map_id']
        have hin : ∀ x ∈ ys.map F, x ∈ E := fun x hx => by
          obtain ⟨z, hz, rfl⟩ := List.mem_map.mp hx
          obtain ⟨v, hv⟩ := look_some (hperm.mem_iff.mp hz)
          rw [hF]
          show (z, (look E z).getD 0) ∈ E
          rw [hv]
          exact look_mem hv
        have s56 := sY.trans s6
        refine ⟨_, .inl ⟨SqL.of h6, fun qa hqa => ⟨by decide, fun t ht => ?_⟩⟩⟩
        have ht0 : H6 t = none := by
          have hne : t ≠ qa := (ne_of_none upd_same ht).symm
          rw [upd_ne hne] at ht
          exact ht
        have sq := (same_upd (o := .tup (bs.map V.ref)) hqa).trans (same_upd (o := .tup [V.ref qa, V.int c]) ht)
        refine ok t (ys.map F) c _ (hB5'.trans (But.of (s56.trans sq))) ((hP5.same s56).same sq) ?_ ⟨qa, bs, upd_same, (same_upd ht) _ _ upd_same, p6.same sq⟩ ⟨?_, ?_, ?_, ?_, hc, ?_⟩ ⟨?_, ?_, hc100⟩ ?_
        · exact hB5'.free hP5 (s56.free ht0)
        · intro x hx
          obtain ⟨l, hl', e⟩ := List.mem_map.mp (he x (hin x hx)).1
          exact ⟨l, hg l hl', e.symm⟩
        · rw [hkF]
          exact hsort
        · rw [hkF]
          exact hperm.nodup_iff.mpr nd
        · exact fun x hx => ⟨(he x (hin x hx)).2.1, (he x (hin x hx)).2.2.1⟩
        · rw [List.length_map]
          omega
        · rw [List.length_map, hperm.length_eq]
          omega
        · exact fun x hx => (he x (hin x hx)).2.2.2
        · exact fun x hx => (he x (hin x hx)).1

end
end
section
local macro_rules | `(tactic| walk_at "rd") => `(tactic| simp only [tSeq, tNext, tAsg, gName, tRet, tRetN, tIfS, tDrop, tVar, tC, tOp, tUn, tTest, tCB, tCons, tNil, tB, tAnd, tOr, tNot, tAndV, tOrV, tNotV, tIf, tCall, tTup, tLst, tSl, tPart, tNoPart, tM0, tM1, tBM, tChain, tBreak, tCont, tNever, tAug, ipI, tPar, tyV_str,
  tFor_eq, tLc_eq, tMkO, tYes, wipe, ofStr_S, S_cat, one_S, len_S, S_iff, S_cps, Int.zero_add, gNil, gCons, gTup, gSub, iRng1, iRng2, iList, iTup, iStr, rI0, rI, rU, rEq, rNe, rIxL, rIxT, rIxS, Dw.rLen, rListOf, rTupOf, rNotB, rIsB, rMulS, rIn, rCat, rAppend, rCatA, rEqD, rNeD, C8.rSlX, tDGet, tDGet2, tDIn, tDNotIn, rSetD, rAll, rKIn, tBM0, rPop, rExtend, tAddT, rAddT, rSetT0, Dw.rSetL, rSortT, StX.tStar, tDNewK, tDisp, tPairs, L2.start, cxOf_K, cxOf_w, cxOf_prog,
  List.map_cons, List.map_nil, List.length_cons, List.length_nil, List.replicate, List.cons_append, List.nil_append, Nat.reduceAdd, Nat.reduceSub, Nat.zero_add, List.append_nil,
  List.set_cons_zero, List.set_cons_succ, List.getElem?_cons_zero, List.getElem?_cons_succ, Option.some.injEq, V.int.injEq, V.bl.injEq, V.ref.injEq, V.str.injEq, V.ty.injEq, List.cons.injEq, and_true, true_and, reduceCtorEq, false_and, exists_false, or_false, false_or, exists_eq_left, exists_eq_left', exists_eq', sw_S, an_S, exists_and_left, exists_const, exists_eq, decide_eq_true_eq, Bool.false_eq_true, if_true, if_false, Bool.not_eq_true', decide_eq_false_iff_not, Bool.not_true, Bool.not_false, ite_not, scal, and_false])
section
variable {P : Program} {w : World} {K : PySem.W.Frag} {mg : Str → Option Value} {base : Heap}
theorem pick {K : PySem.W.Frag} {H : Hp} {p q N : Addr} {ns : List Int} {ls : List (List Nat)} {Q : V → Hp → Prop} {E : XK} (hP : Pool H p q ns) (hNp : N ≠ p) (hN : H N = some (.lst ((ls.map S).map V.str))) (z0 : 0 < ls.length) (z1 : ls.length ≤ 10)
    (ok : ∀ l H', l ∈ ls → But p H H' → Pool H' p q ns → Q (.str (S l)) H') :
    ∃ x, (SqL K H N x ∨ SqT K H N x) ∧ sp_take [.ref p, .int (x.length : Nat)] H (fun y H2 => ∃ x x_1, y = V.int x_1 ∧ SqL K H2 N x ∧ ∃ x_2, atI x x_1 = some x_2 ∧ Q x_2 H2) E := by
  refine ⟨_, .inl (SqL.of hN), p, q, ns, _, rfl, hP, by rw [List.length_map, List.length_map]; omega, by rw [List.length_map, List.length_map]; omega, fun e H5 e0 e1 hB5 hP5 => ?_⟩
  obtain ⟨zv, hat, hzm⟩ := at_mem (xs := (ls.map S).map V.str) e0 e1
  obtain ⟨z, hz, rfl⟩ := List.mem_map.mp hzm
  obtain ⟨l, hl, rfl⟩ := List.mem_map.mp hz
  exact ⟨_, e, rfl, SqL.of (hB5 N _ hNp hN), _, hat, ok l H5 hl hB5 hP5⟩
theorem words_ok : ∀ s ∈ ["T", "W2", "BIG"], (∃ c r, cs s = c :: r ∧ c ∈ UPP) ∧ (∀ c ∈ cs s, c ∈ UPP ++ DIG) ∧ (cs s).length ≤ 12 := by
  intro s hs
  simp only [List.mem_cons, List.not_mem_nil, or_false] at hs
  rcases hs with rfl | rfl | rfl
  · exact ⟨⟨84, [], by decide +kernel, by decide +kernel⟩, by decide +kernel, by decide +kernel⟩
  · exact ⟨⟨87, [50], by decide +kernel, by decide +kernel⟩, by decide +kernel, by decide +kernel⟩
  · exact ⟨⟨66, [73, 71], by decide +kernel, by decide +kernel⟩, by decide +kernel, by decide +kernel⟩
theorem calls_ok : ∀ s ∈ ["near", "f", "odd2"], (∃ c r, cs s = c :: r ∧ c ∈ LOW) ∧ (∀ c ∈ cs s, c ∈ LOW ++ DIG) ∧ (cs s).length ≤ 12 ∧ cs s ∉ RES := by decide +kernel
def SpF : Nat → Sp
  | 0 => fun _ _ _ _ => False
  | n + 1 => fun vs H Q _ => ∃ (p q : Addr) (ns : List Int) (N : Addr) (ls : List (List Nat)), vs = [.ref p, .ref N, .int (n : Nat)] ∧ Pool H p q ns ∧ N ≠ p ∧ H N = some (.lst ((ls.map S).map V.str)) ∧ 0 < ls.length ∧ ls.length ≤ 10 ∧ (∀ l ∈ ls, GName l) ∧
    ∀ (t : Addr) (f : Fm) H', But p H H' → Pool H' p q ns → FmAt H' t f → f.Good → f.Sm → f.dep ≤ n → (∀ z ∈ allN f, z ∈ ls.map S) → Q (.ref t) H'
theorem c__law_formula {f : Addr} {fd : FuncData} (D : C8.Def K mg "_law_formula" s__law_formula f fd) (b : Binds K fd ["pool", "names", "depth"] []) (c__law_take : C8.Cal P w K mg base 2 "_law_take" sp_take []) (c__law_term : C8.Cal P w K mg base 3 "_law_term" sp_term []) (z_range : mg "range" = none) (z_len : mg "len" = none) (z_tuple : mg "tuple" = none) : ∀ n : Nat, C8.Cal P w K mg base (n + 3) "_law_formula" (SpF n) []
  | 0 => C8.cal0 (k := 2) D b .nil sc__law_formula (fun vs H Q E h => h.elim) (fun cdv A outer s H vs Q E hr h => h.elim)
  | n + 1 => by
    have c__law_formula := c__law_formula D b c__law_take c__law_term z_range z_len z_tuple n
    refine C8.cal0 (k := n + 3) D b .nil sc__law_formula (fun vs H Q E h => ?_) (fun cdv A outer s H vs Q E hr h => ?_)
    · obtain ⟨_, _, _, _, _, rfl, _⟩ := h
      rfl
    · obtain ⟨p, q, ns, N, ls, rfl, hP, hNp, hN0, z0, z1, hg, ok⟩ := h
      refine ⟨_, (pss_cons (ps_set (i := 3) sc__law_formula.nd rfl (by first | exact Or.inl rfl | exact Or.inr rfl) (C8.pe_c c__law_take hr (by omega) (by rfl) (pa_cons (pv 0) (pa_cons pe_int pa_nil)))) (pss_cons (ps_if (PW.pt (pw_or (pt_cmpR (op_eq) (pv 2) pe_int (nomark _)) (pw_or1 (pt_cmpR (op_lt) (pv 3) pe_int (nomark _))))) (pss_cons (ps_if (pt_cmpR (op_eq) (pe_op op_mod (pv 3) pe_int) pe_int (nomark _)) (pss_one (ps_ret (pe_tup (pa_cons pe_str (pa_cons (pe_ix (ixL K) (pv 1) (C8.pe_c c__law_take hr (by omega) (by rfl) (pa_cons (pv 0) (pa_cons (pe_callB (lenS K) (by rfl) z_len PySem.boot_len (pa_cons (pv 1) pa_nil)) pa_nil))) (fun _ _ => rfl)) pa_nil))))) pss_nil) (pss_cons (ps_if (pt_cmpR (op_eq) (pe_op op_mod (pv 3) pe_int) pe_int (nomark _)) (pss_one (ps_ret (pe_tup (pa_cons pe_str (pa_cons (pe_ix (ixL K) (pe_lst (pa_cons pe_str (pa_cons pe_str (pa_cons pe_str pa_nil)))) (C8.pe_c c__law_take hr (by omega) (by rfl) (pa_cons (pv 0) (pa_cons pe_int pa_nil))) (fun _ _ => rfl)) (pa_cons (pe_ix (ixL K) (pv 1) (C8.pe_c c__law_take hr (by omega) (by rfl) (pa_cons (pv 0) (pa_cons (pe_callB (lenS K) (by rfl) z_len PySem.boot_len (pa_cons (pv 1) pa_nil)) pa_nil))) (fun _ _ => rfl)) (pa_cons (C8.pe_c c__law_take hr (by omega) (by rfl) (pa_cons (pv 0) (pa_cons pe_int pa_nil))) pa_nil))))))) pss_nil) (pss_one (ps_ret (pe_tup (pa_cons (pe_ix (ixL K) (pe_lst (pa_cons pe_str (pa_cons pe_str pa_nil))) (pe_op op_mod (pv 3) pe_int) (fun _ _ => rfl)) (pa_cons (C8.pe_c c__law_term hr (by omega) (by rfl) (pa_cons (pv 0) (pa_cons (pv 1) pa_nil))) pa_nil))))))) pss_nil) (pss_cons (ps_if (pt_cmpR (op_lt) (pv 3) pe_int (nomark _)) (pss_one (ps_ret (pe_tup (pa_cons pe_str (pa_cons (C8.pe_c c__law_formula hr (by omega) (by rfl) (pa_cons (pv 0) (pa_cons (pv 1) (pa_cons (pe_op op_sub (pv 2) pe_int) pa_nil)))) pa_nil))))) pss_nil) (pss_cons (ps_if (pt_cmpR (op_lt) (pv 3) pe_int (nomark _)) (pss_one (ps_ret (pe_tup (pa_cons (pe_ix (ixL K) (pe_lst (pa_cons pe_str (pa_cons pe_str (pa_cons pe_str pa_nil)))) (pe_op op_sub (pv 3) pe_int) (fun _ _ => rfl)) (pa_cons (pe_ix (ixL K) (pv 1) (C8.pe_c c__law_take hr (by omega) (by rfl) (pa_cons (pv 0) (pa_cons (pe_callB (lenS K) (by rfl) z_len PySem.boot_len (pa_cons (pv 1) pa_nil)) pa_nil))) (fun _ _ => rfl)) (pa_cons (C8.pe_c c__law_formula hr (by omega) (by rfl) (pa_cons (pv 0) (pa_cons (pv 1) (pa_cons (pe_op op_sub (pv 2) pe_int) pa_nil)))) pa_nil)))))) pss_nil) (pss_cons (ps_if (pt_cmpR (op_eq) (pv 3) pe_int (nomark _)) (pss_cons (ps_setLc (i := 4) (own := [("k", 7)]) (g := (gName 7)) (tt := tYes) rfl sc__law_formula.nd rfl rfl (sw_true rfl rfl rfl (by decide +kernel)) (pi_range1 (by rfl) z_range (pa_cons (pe_op op_add pe_int (C8.pe_c c__law_take hr (by omega) (by rfl) (pa_cons (pv 0) (pa_cons pe_int pa_nil)))) pa_nil)) (blkOk_by (N := N__law_formula) (sc := C8.fnScope s__law_formula) (by decide +kernel)) (fun _ _ _ _ _ => (pg_name (i := 7) sc__law_formula.nd rfl (by first | exact Or.inl rfl | exact Or.inr rfl))) (fun _ _ _ _ _ => pts_nil) (fun _ _ _ _ _ => (pe_ix (ixL K) (pv 1) (C8.pe_c c__law_take hr (by omega) (by rfl) (pa_cons (pv 0) (pa_cons (pe_callB (lenS K) (by rfl) z_len PySem.boot_len (pa_cons (pv 1) pa_nil)) pa_nil))) (fun _ _ => rfl)))) (pss_one (ps_ret (pe_tup (pa_cons pe_str (pa_cons (pe_ix (ixL K) (pe_lst (pa_cons pe_str (pa_cons pe_str (pa_cons pe_str pa_nil)))) (C8.pe_c c__law_take hr (by omega) (by rfl) (pa_cons (pv 0) (pa_cons pe_int pa_nil))) (fun _ _ => rfl)) (pa_cons (pe_callTy (tupOf K) (by rfl) z_tuple (by decide +kernel) (pa_cons (pv 4) pa_nil)) pa_nil))))))) pss_nil) (pss_cons (ps_set (i := 5) sc__law_formula.nd rfl (by first | exact Or.inl rfl | exact Or.inr rfl) (pe_ix (ixL K) (pe_lst (pa_cons pe_str (pa_cons pe_str (pa_cons pe_str (pa_cons pe_str pa_nil))))) (pe_op op_sub (pv 3) pe_int) (fun _ _ => rfl))) (pss_cons (ps_set (i := 6) sc__law_formula.nd rfl (by first | exact Or.inl rfl | exact Or.inr rfl) (C8.pe_c c__law_formula hr (by omega) (by rfl) (pa_cons (pv 0) (pa_cons (pv 1) (pa_cons (pe_op op_sub (pv 2) pe_int) pa_nil))))) (pss_one (ps_ret (pe_tup (pa_cons (pv 5) (pa_cons (pv 6) (pa_cons (C8.pe_c c__law_formula hr (by omega) (by rfl) (pa_cons (pv 0) (pa_cons (pv 1) (pa_cons (pe_op op_sub (pv 2) pe_int) pa_nil)))) pa_nil))))))))))))), ?_⟩
      walk_at "rd"
      refine ⟨p, q, ns, 14, rfl, hP, by decide, by decide, fun c H1 c0 c1 hB1 hP1 => ?_⟩
      have hN1 := hB1 N _ hNp hN0
      refine ite2 (fun hn0 => ?_) (fun hn0 => ⟨c, rfl, ite2 (fun hc4 => ?_) (fun hc4 => ⟨c, rfl, ite2 (fun hc6 => ?_) (fun hc6 => ⟨c, rfl, ite2 (fun hc9 => ?_) (fun hc9 => ⟨rfl, ite2 (fun hcc => ?_) (fun hcc => ?_)⟩)⟩)⟩)⟩)
      · refine ⟨c, rfl, by decide, ite2 (fun h0 => ?_) (fun h0 => ⟨c, rfl, by decide, ite2 (fun h1 => ?_) (fun h1 => ?_)⟩)⟩
        · exact pick hP1 hNp hN1 z0 z1 fun l H2 hl hB2 hP2 => ⟨by decide, fun t ht => ok t (.pow l) _ ((hB1.trans hB2).upd2 ht) (hP2.same (same_upd ht)) upd_same (hg l hl) trivial (Nat.zero_le _) (nm1 hl)⟩
        · refine ⟨by show 3 ≤ sizeLine; decide, fun l3 hl3 => menu hP1 hl3 3 rfl (by decide) (by decide) fun v H2 hv hB2 hP2 => ?_⟩
          obtain ⟨w, hw, rfl⟩ : ∃ w ∈ ["T", "W2", "BIG"], vS (cs w) = v := List.mem_map.mp (show v ∈ ["T", "W2", "BIG"].map fun s => vS (cs s) from hv)
          obtain ⟨w1, w2, w3⟩ := words_ok w hw
          refine pick hP2 hNp (hB2 N _ hNp hN1) z0 z1 fun l H3 hl hB3 hP3 => ⟨p, q, ns, 10, rfl, hP3, by decide, by decide, fun o H4 o0 o1 hB4 hP4 => ⟨by decide, fun t ht => ?_⟩⟩
          exact ok t (.word (cs w) l o) _ ((((hB1.trans hB2).trans hB3).trans hB4).upd2 ht) (hP4.same (same_upd ht)) upd_same ⟨⟨w1, w2, w3⟩, hg l hl, o0, by omega⟩ trivial (Nat.zero_le _) (nm1 hl)
        · refine ⟨by decide, fun l3 hl3 => ⟨_, rfl, by decide, _, SqL.of upd_same, ?_⟩⟩
          obtain ⟨kk, hat⟩ : ∃ kk : Bool, atI [V.str (S (cs "eq")), V.str (S (cs "le"))] (c % 2) = some (.str (S (kCmp kk))) := by
            have : c % 2 = 0 ∨ c % 2 = 1 := by omega
            rcases this with e | e
            · rw [e]; exact ⟨true, atI_nat (j := 0) rfl⟩
            · rw [e]; exact ⟨false, atI_nat (j := 1) rfl⟩
          refine ⟨_, hat, p, q, ns, N, ls, rfl, hP1.same (same_upd hl3), hNp, (same_upd hl3) _ _ hN1, z0, z1, hg, fun u ps cc H2 hB2 hP2 hu ht2 hgood hsm hsub => ⟨by decide, fun t ht => ?_⟩⟩
          exact ok t (.cmp kk ps cc) _ ((hB1.trans ((But.of (same_upd hl3)).trans hB2)).upd2 ht) (hP2.same (same_upd ht)) ⟨u, upd_same, ht2.tups (Tups.same (same_upd ht))⟩ hgood hsm (Nat.zero_le _) (nmK hsub)
      · refine ⟨c, rfl, by decide, ite2 (fun h0 => ?_) (fun h0 => ⟨c, rfl, by decide, ite2 (fun h1 => ?_) (fun h1 => ?_)⟩)⟩
        · exact pick hP1 hNp hN1 z0 z1 fun l H2 hl hB2 hP2 => ⟨by decide, fun t ht => ok t (.pow l) _ ((hB1.trans hB2).upd2 ht) (hP2.same (same_upd ht)) upd_same (hg l hl) trivial (Nat.zero_le _) (nm1 hl)⟩
        · refine ⟨by show 3 ≤ sizeLine; decide, fun l3 hl3 => menu hP1 hl3 3 rfl (by decide) (by decide) fun v H2 hv hB2 hP2 => ?_⟩
          obtain ⟨w, hw, rfl⟩ : ∃ w ∈ ["T", "W2", "BIG"], vS (cs w) = v := List.mem_map.mp (show v ∈ ["T", "W2", "BIG"].map fun s => vS (cs s) from hv)
          obtain ⟨w1, w2, w3⟩ := words_ok w hw
          refine pick hP2 hNp (hB2 N _ hNp hN1) z0 z1 fun l H3 hl hB3 hP3 => ⟨p, q, ns, 10, rfl, hP3, by decide, by decide, fun o H4 o0 o1 hB4 hP4 => ⟨by decide, fun t ht => ?_⟩⟩
          exact ok t (.word (cs w) l o) _ ((((hB1.trans hB2).trans hB3).trans hB4).upd2 ht) (hP4.same (same_upd ht)) upd_same ⟨⟨w1, w2, w3⟩, hg l hl, o0, by omega⟩ trivial (Nat.zero_le _) (nm1 hl)
        · refine ⟨by decide, fun l3 hl3 => ⟨_, rfl, by decide, _, SqL.of upd_same, ?_⟩⟩
          obtain ⟨kk, hat⟩ : ∃ kk : Bool, atI [V.str (S (cs "eq")), V.str (S (cs "le"))] (c % 2) = some (.str (S (kCmp kk))) := by
            have : c % 2 = 0 ∨ c % 2 = 1 := by omega
            rcases this with e | e
            · rw [e]; exact ⟨true, atI_nat (j := 0) rfl⟩
            · rw [e]; exact ⟨false, atI_nat (j := 1) rfl⟩
          refine ⟨_, hat, p, q, ns, N, ls, rfl, hP1.same (same_upd hl3), hNp, (same_upd hl3) _ _ hN1, z0, z1, hg, fun u ps cc H2 hB2 hP2 hu ht2 hgood hsm hsub => ⟨by decide, fun t ht => ?_⟩⟩
          exact ok t (.cmp kk ps cc) _ ((hB1.trans ((But.of (same_upd hl3)).trans hB2)).upd2 ht) (hP2.same (same_upd ht)) ⟨u, upd_same, ht2.tups (Tups.same (same_upd ht))⟩ hgood hsm (Nat.zero_le _) (nmK hsub)
      · obtain ⟨m, rfl⟩ : ∃ m, n = m + 1 := ⟨n - 1, by omega⟩
        rw [show ((m + 1 : Nat) : Int) - 1 = (m : Nat) by omega]
        exact ⟨p, q, ns, N, ls, rfl, hP1, hNp, hN1, z0, z1, hg, fun t1 f1 H2 hB2 hP2 hF1 hG1 hS1 hd1 hn1 => ⟨by decide, fun t ht =>
          ok t (.not f1) _ ((hB1.trans hB2).upd2 ht) (hP2.same (same_upd ht)) ⟨t1, upd_same, hF1.tups (Tups.same (same_upd ht))⟩ hG1 hS1 (Nat.succ_le_succ hd1) hn1⟩⟩
      · obtain ⟨m, rfl⟩ : ∃ m, n = m + 1 := ⟨n - 1, by omega⟩
        rw [show ((m + 1 : Nat) : Int) - 1 = (m : Nat) by omega]
        refine ⟨by show 3 ≤ sizeLine; decide, fun l3 hl3 => ⟨_, rfl, _, SqL.of upd_same, ?_⟩⟩
        obtain ⟨kk, hat⟩ : ∃ kk : Bool, atI [V.str (S (cs "some")), V.str (S (cs "all")), V.str (S (cs "some"))] (c - 6) = some (.str (S (kQf kk))) := by
          have : c - 6 = 0 ∨ c - 6 = 1 ∨ c - 6 = 2 := by omega
          rcases this with e | e | e
          · rw [e]; exact ⟨true, atI_nat (j := 0) rfl⟩
          · rw [e]; exact ⟨false, atI_nat (j := 1) rfl⟩
          · rw [e]; exact ⟨true, atI_nat (j := 2) rfl⟩
        refine ⟨_, hat, pick (hP1.same (same_upd hl3)) hNp ((same_upd hl3) _ _ hN1) z0 z1 fun l H2 hl hB2 hP2 => ?_⟩
        refine ⟨p, q, ns, N, ls, rfl, hP2, hNp, hB2 N _ hNp ((same_upd hl3) _ _ hN1), z0, z1, hg, fun t1 f1 H3 hB3 hP3 hF1 hG1 hS1 hd1 hn1 => ⟨by decide, fun t ht => ?_⟩⟩
        exact ok t (.qf kk l f1) _ (((hB1.trans ((But.of (same_upd hl3)).trans hB2)).trans hB3).upd2 ht) (hP3.same (same_upd ht)) ⟨t1, upd_same, hF1.tups (Tups.same (same_upd ht))⟩ ⟨hg l hl, hG1⟩ hS1 (Nat.succ_le_succ hd1) (nmQ hl hn1)
      · refine ⟨p, q, ns, 3, rfl, hP1, by decide, by decide, fun u H2 u0 u1 hB2 hP2 => ⟨_, rfl, by omega, by omega, fun G hG => ?_⟩⟩
        have hGp : G ≠ p := hP2.ne hG
        have hGq : G ≠ q := hP2.neq hG
        obtain ⟨cnt, hcnt⟩ : ∃ cnt : Nat, cnt = (1 + u).toNat := ⟨_, rfl⟩
        rw [← hcnt]
        have hc3 : 1 ≤ cnt ∧ cnt ≤ 3 := by omega
        refine lc_rangeN (fun i H3 => ∃ gs : List (List Nat), gs.length = i ∧ (∀ l ∈ gs, l ∈ ls) ∧ H3 G = some (.lst (gs.map vS)) ∧ But p H2 H3 ∧ Pool H3 p q ns) ?_ ?_ ?_
        · exact ⟨[], rfl, (fun _ h => nomatch h), upd_same, But.of (same_upd hG), hP2.same (same_upd hG)⟩
        · rintro i H3 M hi ⟨gs, hl, hgs, h3, hB3, hP3⟩ hM
          walk_at "rd"
          refine pick hP3 hNp (hB3 N _ hNp (hB2 N _ hNp hN1)) z0 z1 fun l H4 hl4 hB4 hP4 => ⟨_, hB4 G _ hGp h3, smallt (by rw [List.length_map]; omega), hM _ ⟨gs ++ [l], by rw [List.length_append, hl]; rfl, fun x hx => ?_, ?_, (hB3.trans hB4).new hG, hP4.set hGp hGq⟩⟩
          · rcases List.mem_append.mp hx with h | h
            · exact hgs x h
            · rw [List.mem_singleton.mp h]; exact hl4
          · rw [upd_same, List.map_append]
            rfl
        · rintro H3 ⟨gs, hl, hgs, h3, hB3, hP3⟩
          refine ⟨by show 3 ≤ sizeLine; decide, fun l3 hl3 => menu hP3 hl3 3 rfl (by decide) (by decide) fun v H4 hv hB4 hP4 => ?_⟩
          obtain ⟨w, hw, rfl⟩ : ∃ w ∈ ["near", "f", "odd2"], vS (cs w) = v := List.mem_map.mp (show v ∈ ["near", "f", "odd2"].map fun s => vS (cs s) from hv)
          obtain ⟨w1, w2, w3, w4⟩ := calls_ok w hw
          refine ⟨_, .inl ⟨SqL.of (hB4 G _ hGp h3), fun l hl5 => ⟨by decide, fun t ht => ?_⟩⟩⟩
          exact ok t (.call (cs w) gs) _ (((((hB1.trans hB2).trans hB3).trans hB4).upd2 hl5).upd2 ht) ((hP4.same (same_upd hl5)).same (same_upd ht)) ⟨l, upd_same, (same_upd ht) _ _ upd_same⟩ ⟨⟨w1, w2, w3, w4⟩, (by intro e; rw [e] at hl; simp at hl; omega), by omega, fun z hz => hg z (hgs z hz)⟩ (by rw [show Fm.Sm (.call (cs w) gs) = (gs.length ≤ 3) from rfl, hl]; omega) (Nat.zero_le _) (nmC hgs)
      · obtain ⟨m, rfl⟩ : ∃ m, n = m + 1 := ⟨n - 1, by omega⟩
        rw [show ((m + 1 : Nat) : Int) - 1 = (m : Nat) by omega]
        refine ⟨by show 4 ≤ sizeLine; decide, fun l3 hl3 => ⟨_, rfl, _, SqL.of upd_same, ?_⟩⟩
        obtain ⟨kk, hat⟩ : ∃ kk : Fin 4, atI [V.str (S (cs "and")), V.str (S (cs "or")), V.str (S (cs "imp")), V.str (S (cs "iff"))] (c - 10) = some (.str (S (kBin kk))) := by
          have hne : c ≠ 9 := fun e => hcc (by rw [e])
          have : c - 10 = 0 ∨ c - 10 = 1 ∨ c - 10 = 2 ∨ c - 10 = 3 := by omega
          rcases this with e | e | e | e
          · rw [e]; exact ⟨0, atI_nat (j := 0) rfl⟩
          · rw [e]; exact ⟨1, atI_nat (j := 1) rfl⟩
          · rw [e]; exact ⟨2, atI_nat (j := 2) rfl⟩
          · rw [e]; exact ⟨3, atI_nat (j := 3) rfl⟩
        refine ⟨_, hat, p, q, ns, N, ls, rfl, hP1.same (same_upd hl3), hNp, (same_upd hl3) _ _ hN1, z0, z1, hg, fun t1 f1 H2 hB2 hP2 hF1 hG1 hS1 hd1 hn1 => ?_⟩
        refine ⟨p, q, ns, N, ls, rfl, hP2, hNp, hB2 N _ hNp ((same_upd hl3) _ _ hN1), z0, z1, hg, fun t2 f2 H3 hB3 hP3 hF2 hG2 hS2 hd2 hn2 => ⟨by decide, fun t ht => ?_⟩⟩
        exact ok t (.bin kk f1 f2) _ (((hB1.trans ((But.of (same_upd hl3)).trans hB2)).trans hB3).upd2 ht) (hP3.same (same_upd ht)) ⟨t1, t2, upd_same, (hF1.tups (Tups.pool hP2 hB3)).tups (Tups.same (same_upd ht)), hF2.tups (Tups.same (same_upd ht))⟩ ⟨hG1, hG2⟩ ⟨hS1, hS2⟩ (Nat.succ_le_succ (Nat.max_le.mpr ⟨hd1, hd2⟩)) (nmB hn1 hn2)

end
end
section
local macro_rules | `(tactic| walk_at "rd") => `(tactic| simp only [tSeq, tNext, tAsg, gName, tRet, tRetN, tIfS, tDrop, tVar, tC, tOp, tUn, tTest, tCB, tCons, tNil, tB, tAnd, tOr, tNot, tAndV, tOrV, tNotV, tIf, tCall, tTup, tLst, tSl, tPart, tNoPart, tM0, tM1, tBM, tChain, tBreak, tCont, tNever, tAug, ipI, tPar, tyV_str,
  tFor_eq, tLc_eq, tMkO, tYes, wipe, ofStr_S, S_cat, one_S, len_S, S_iff, S_cps, Int.zero_add, gNil, gCons, gTup, gSub, iRng1, iRng2, iList, iTup, iStr, rI0, rI, rU, rEq, rNe, rIxL, rIxT, rIxS, Dw.rLen, rListOf, rTupOf, rNotB, rIsB, rMulS, rIn, rCat, rAppend, rCatA, rEqD, rNeD, C8.rSlX, tDGet, tDGet2, tDIn, tDNotIn, rSetD, rAll, rKIn, tBM0, rPop, rExtend, tAddT, rAddT, rSetT0, Dw.rSetL, rSortT, StX.tStar, tDNewK, tDisp, tPairs, L2.start, cxOf_K, cxOf_w, cxOf_prog,
  List.map_cons, List.map_nil, List.length_cons, List.length_nil, List.replicate, List.cons_append, List.nil_append, Nat.reduceAdd, Nat.reduceSub, Nat.zero_add, List.append_nil,
  List.set_cons_zero, List.set_cons_succ, List.getElem?_cons_zero, List.getElem?_cons_succ, Option.some.injEq, V.int.injEq, V.bl.injEq, V.ref.injEq, V.str.injEq, V.ty.injEq, List.cons.injEq, and_true, true_and, reduceCtorEq, false_and, exists_false, or_false, false_or, exists_eq_left, exists_eq_left', exists_eq', sw_S, an_S, exists_and_left, exists_const, exists_eq, decide_eq_true_eq, Bool.false_eq_true, if_true, if_false, Bool.not_eq_true', decide_eq_false_iff_not, Bool.not_true, Bool.not_false, ite_not, scal, and_false])
section
variable {P : Program} {w : World} {K : PySem.W.Frag} {mg : Str → Option Value} {base : Heap}
def sp_text (K : PySem.W.Frag) : Sp := fun vs H Q _ => ∃ (p q a : Addr) (ns : List Int) (ps : List (List Nat)), vs = [.ref p, .ref a] ∧ Pool H p q ns ∧ a ≠ p ∧ SqL K H a (ps.map vS) ∧ (∀ l ∈ ps, l ≠ [] ∧ l.length ≤ 100) ∧ ps.length ≤ 900 ∧
  ∀ (l0 : List Nat) (rows : List TRow) (r t : Addr) H', rows.map (·.1) = ps → Blank l0 → (∀ x ∈ rows, Blank x.2) → Sepd rows → But p H H' → Pool H' p q ns → H r = none → H t = none → r ≠ t →
    H' r = some (.lst [.str (S (l0 ++ flat rows)), .ref t]) → H' t = some (.lst (places l0.length rows)) → Q (.ref r) H'
theorem c__law_text {f : Addr} {fd : FuncData} (D : C8.Def K mg "_law_text" s__law_text f fd) (b : Binds K fd ["pool", "parts_v"] []) (c__law_space : C8.Cal P w K mg base 3 "_law_space" sp_space []) (c__law_joins : C8.Cal P w K mg base 2 "_law_joins" sp_joins []) (z_range : mg "range" = none) (z_len : mg "len" = none) (z_min : mg "min" = none) : C8.Cal P w K mg base 4 "_law_text" (sp_text K) [] := by
  refine C8.cal0 D b .nil sc__law_text (fun vs H Q E h => ?_) (fun cdv A outer s H vs Q E hr h => ?_)
  · obtain ⟨_, _, _, _, _, rfl, _⟩ := h
    rfl
  · obtain ⟨p, q, a, ns, ps, rfl, hP, hap, hA, hps, hpl, ok⟩ := h
    refine ⟨_, (pss_cons (ps_set (i := 2) sc__law_text.nd rfl (by first | exact Or.inl rfl | exact Or.inr rfl) (C8.pe_c c__law_space hr (by decide) (by rfl) (pa_cons (pv 0) (pa_cons pe_bl pa_nil)))) (pss_cons (ps_set (i := 3) sc__law_text.nd rfl (by first | exact Or.inl rfl | exact Or.inr rfl) (pe_lst pa_nil)) (pss_cons (ps_for PassesOwn.never rfl (pi_range1 (by rfl) z_range (pa_cons (pe_callB (lenS K) (by rfl) z_len PySem.boot_len (pa_cons (pv 1) pa_nil)) pa_nil)) (pg_name (i := 4) sc__law_text.nd rfl (by first | exact Or.inl rfl | exact Or.inr rfl)) (pss_cons (ps_expr (pe_bm PySem.F.plainAttrs_list PySem.F.slot_list_append PySem.F.type_list_append mt_append (pv 3) (pa_cons (pe_callB call_len_str (by rfl) z_len PySem.boot_len (pa_cons (pv 2) pa_nil)) pa_nil))) (pss_cons (ps_set (i := 2) sc__law_text.nd rfl (by first | exact Or.inl rfl | exact Or.inr rfl) (pe_op op_add_str (pv 2) (pe_ix (ixL K) (pv 1) (pv 4) (fun _ _ => rfl)))) (pss_one (ps_set (i := 2) sc__law_text.nd rfl (by first | exact Or.inl rfl | exact Or.inr rfl) (pe_op op_add_str (pv 2) (C8.pe_c c__law_space hr (by decide) (by rfl) (pa_cons (pv 0) (pa_cons (pe_and (pe_cmpR (op_lt) (pe_op op_add (pv 4) pe_int) (pe_callB (lenS K) (by rfl) z_len PySem.boot_len (pa_cons (pv 1) pa_nil)) (nomark _)) (pe_one (C8.pe_c c__law_joins hr (by decide) (by rfl) (pa_cons (pe_ix (ixL K) (pv 1) (pv 4) (fun _ _ => rfl)) (pa_cons (pe_ix (ixL K) (pv 1) (pe_callB (call_min2 rfl) (by rfl) z_min (by decide +kernel) (pa_cons (pe_op op_add (pv 4) pe_int) (pa_cons (pe_op op_sub (pe_callB (lenS K) (by rfl) z_len PySem.boot_len (pa_cons (pv 1) pa_nil)) pe_int) pa_nil))) (fun _ _ => rfl)) pa_nil))))) pa_nil))))))))) (pss_one (ps_ret (pe_lst (pa_cons (pv 2) (pa_cons (pv 3) pa_nil)))))))), ?_⟩
    walk_at "rd"
    refine ⟨p, q, ns, false, rfl, hP, fun l0 H1 bl0 bl1 _ hB1 hP1 => ⟨Nat.zero_le _, fun t ht1 => ⟨_, .inl ((same_upd ht1).seq (hB1.list hap hA)), ?_⟩⟩⟩
    have ht0 : H t = none := hB1.free hP1 ht1
    have htp : t ≠ p := hP1.ne ht1
    rw [List.length_map]
    refine ⟨by omega, by omega, ?_⟩
    rw [Int.toNat_natCast]
    obtain ⟨Pv, hPv⟩ : ∃ Pv : Nat → L2.St → Hp → Prop, Pv = fun i σ H2 => ∃ (rows : List TRow) (k : Option V), σ = [some (.ref p), some (.ref a), some (.str (S (l0 ++ flat rows))), some (.ref t), k] ∧ rows.map (·.1) = ps.take i ∧ (∀ x ∈ rows, Blank x.2) ∧
      (∀ (k : Nat) (x : TRow) (y : List Nat), rows[k]? = some x → ps[k + 1]? = some y → joins x.1 y = true → x.2 ≠ []) ∧ But p H H2 ∧ Pool H2 p q ns ∧ H2 t = some (.lst (places l0.length rows)) := ⟨_, rfl⟩
    refine for_range Pv ?_ ?_ ?_
    · rw [hPv]
      exact ⟨[], none, by simp [flat], rfl, (fun _ h => nomatch h), (fun _ _ _ h => by simp at h), hB1.trans (But.of (same_upd ht1)), hP1.same (same_upd ht1), upd_same⟩
    · intro i σ H2 hi hp
      rw [hPv] at hp
      obtain ⟨rows, k0, rfl, hfst, hbl, hsep, hB2, hP2, hT⟩ := hp
      have hrl : rows.length = i := by
        have := congrArg List.length hfst
        rw [List.length_map, List.length_take] at this
        omega
      have hA2 := hB2.list hap hA
      have hpi : ps[i]? = some ps[i] := List.getElem?_eq_getElem hi
      have hmem : ps[i] ∈ ps := List.getElem_mem hi
      have hrow : ∀ x ∈ rows, x.1.length ≤ 100 ∧ x.2.length ≤ 4 := fun x hx => by
        refine ⟨(hps x.1 ?_).2, (hbl x hx).2⟩
        have : x.1 ∈ rows.map (·.1) := List.mem_map_of_mem hx
        rw [hfst] at this
        exact List.mem_of_mem_take this
      have hfl := flat_len rows hrow
      have htx : (l0 ++ flat rows).length ≤ 100000 := by
        rw [List.length_append]
        omega
      have htq : t ≠ q := hP1.neq ht1
      have hpil := hps _ hmem
      have hA3 : ∀ o, SqL K (upd H2 t o) a (ps.map vS) := fun o => (hB2.new ht0).list hap hA
      have hplc : (places l0.length rows).length ≤ 900 := by
        rw [places_len]
        omega
      have fin : ∀ (sp : List Nat) (H3 : Hp), Blank sp → ((∀ y, ps[i + 1]? = some y → joins ps[i] y = true → sp ≠ [])) → But p (upd H2 t (.lst (places l0.length rows ++ [V.int ((l0 ++ flat rows).length : Nat)]))) H3 → Pool H3 p q ns →
          Pv (i + 1) [some (.ref p), some (.ref a), some (.str (S (l0 ++ flat rows ++ ps[i] ++ sp))), some (.ref t), some (.int i)] H3 := by
        intro sp H3 hb hs hB3 hP3
        rw [hPv]
        refine ⟨rows ++ [(ps[i], sp)], some (.int i), ?_, ?_, ?_, ?_, (hB2.new ht0).trans hB3, hP3, ?_⟩
        · rw [flat_snoc]
          simp only [List.append_assoc]
        · rw [List.map_append, hfst, List.take_add_one, hpi]
          rfl
        · intro x hx
          rcases List.mem_append.mp hx with h | h
          · exact hbl x h
          · rw [List.mem_singleton.mp h]
            exact hb
        · intro k x y hx hy hj
          by_cases hk : k < i
          · rw [List.getElem?_append_left (by omega)] at hx
            exact hsep k x y hx hy hj
          · rw [List.getElem?_append_right (by omega)] at hx
            have hk2 : k = i := by
              have : k - rows.length = 0 := by
                cases e : k - rows.length with
                | zero => rfl
                | succ n => rw [e] at hx; simp at hx
              omega
            subst hk2
            rw [hrl, Nat.sub_self] at hx
            obtain rfl : (ps[k], sp) = x := Option.some.inj hx
            exact hs y hy hj
        · refine (hB3 t _ htp upd_same).trans ?_
          rw [places_snoc, List.length_append]
      walk_at "rd"
      refine ⟨tyL hT, smallB (by omega), _, hT, smalltB (by omega), _, hA3 _, _, at_map hpi, S ps[i], rfl, ?_⟩
      walk_at "rd"
      refine ⟨smallB (by omega), _, .inl (hA3 _), ?_⟩
      rw [List.length_map]
      refine ite2 (fun h1 => ?_) (fun h1 => ?_)
      · have hi2 : i + 1 < ps.length := by omega
        have hpi2 : ps[i + 1]? = some ps[i + 1] := List.getElem?_eq_getElem hi2
        have hm2 : ps[i + 1] ∈ ps := List.getElem_mem hi2
        refine ⟨_, hA3 _, _, at_map hpi, _, .inl (hA3 _), ((i + 1 : Nat) : Int), ((ps.length - 1 : Nat) : Int), ⟨by omega, by rw [List.length_map]; omega⟩, _, hA3 _, vS ps[i + 1], ?_, ?_⟩
        · have e : (if ((ps.length - 1 : Nat) : Int) < ((i + 1 : Nat) : Int) then ((ps.length - 1 : Nat) : Int) else ((i + 1 : Nat) : Int)) = ((i + 1 : Nat) : Int) := by
            split <;> omega
          rw [e]
          exact at_map hpi2
        · obtain ⟨a', x, ea⟩ := snoc_of hpil.1
          obtain ⟨y, b', eb⟩ := cons_of (hps _ hm2).1
          refine ⟨ps[i], ps[i + 1], x, y, a', b', rfl, ea, eb, by omega, by have := (hps _ hm2).2; omega, fun H3 sm => ?_⟩
          refine ⟨p, q, ns, _, rfl, (hP2.set htp htq).same sm, fun sp H4 b0 b1 hne hB4 hP4 => ⟨S sp, rfl, ?_, ?_⟩⟩
          · rw [len_S, List.length_append]
            exact smallB (by omega)
          · rw [S_cat]
            refine fin sp H4 ⟨b0, b1⟩ (fun y2 hy2 hj => ?_) ((But.of sm).trans hB4) hP4
            rw [hpi2] at hy2
            obtain rfl := Option.some.inj hy2
            exact hne hj
      · refine ⟨p, q, ns, false, rfl, hP2.set htp htq, fun sp H4 b0 b1 _ hB4 hP4 => ⟨S sp, rfl, ?_, ?_⟩⟩
        · rw [len_S, List.length_append]
          exact smallB (by omega)
        · rw [S_cat]
          refine fin sp H4 ⟨b0, b1⟩ (fun y2 hy2 hj => ?_) hB4 hP4
          rw [List.getElem?_eq_none (by omega)] at hy2
          cases hy2
    · intro σ H2 hp
      rw [hPv] at hp
      obtain ⟨rows, k0, rfl, hfst, hbl, hsep, hB2, hP2, hT⟩ := hp
      rw [List.take_length] at hfst
      walk_at "rd"
      refine ⟨by show 2 ≤ sizeLine; decide, fun r hr0 => ?_⟩
      have hrt : r ≠ t := (ne_of_none hT hr0).symm
      refine ok l0 rows r t _ hfst ⟨bl0, bl1⟩ hbl (fun k x y hx hy hj => ?_) (hB2.trans (But.of (same_upd hr0))) (hP2.same (same_upd hr0)) (hB2.free hP2 hr0) ht0 hrt upd_same ?_
      · refine hsep k x y.1 hx ?_ hj
        rw [← hfst, List.getElem?_map, hy]
        rfl
      · rw [upd_ne hrt.symm]
        exact hT

end
end
section
local macro_rules | `(tactic| walk_at "rd") => `(tactic| simp only [tSeq, tNext, tAsg, gName, tRet, tRetN, tIfS, tDrop, tVar, tC, tOp, tUn, tTest, tCB, tCons, tNil, tB, tAnd, tOr, tNot, tAndV, tOrV, tNotV, tIf, tCall, tTup, tLst, tSl, tPart, tNoPart, tM0, tM1, tBM, tChain, tBreak, tCont, tNever, tAug, ipI, tPar, tyV_str,
  tFor_eq, tLc_eq, tMkO, tYes, wipe, ofStr_S, S_cat, one_S, len_S, S_iff, S_cps, Int.zero_add, gNil, gCons, gTup, gSub, iRng1, iRng2, iList, iTup, iStr, rI0, rI, rU, rEq, rNe, rIxL, rIxT, rIxS, Dw.rLen, rListOf, rTupOf, rNotB, rIsB, rMulS, rIn, rCat, rAppend, rCatA, rEqD, rNeD, C8.rSlX, tDGet, tDGet2, tDIn, tDNotIn, rSetD, rAll, rKIn, tBM0, rPop, rExtend, tAddT, rAddT, rSetT0, Dw.rSetL, rSortT, StX.tStar, tDNewK, tDisp, tPairs, L2.start, cxOf_K, cxOf_w, cxOf_prog,
  List.map_cons, List.map_nil, List.length_cons, List.length_nil, List.replicate, List.cons_append, List.nil_append, Nat.reduceAdd, Nat.reduceSub, Nat.zero_add, List.append_nil,
  List.set_cons_zero, List.set_cons_succ, List.getElem?_cons_zero, List.getElem?_cons_succ, Option.some.injEq, V.int.injEq, V.bl.injEq, V.ref.injEq, V.str.injEq, V.ty.injEq, List.cons.injEq, and_true, true_and, reduceCtorEq, false_and, exists_false, or_false, false_or, exists_eq_left, exists_eq_left', exists_eq', sw_S, an_S, exists_and_left, exists_const, exists_eq, decide_eq_true_eq, Bool.false_eq_true, if_true, if_false, Bool.not_eq_true', decide_eq_false_iff_not, Bool.not_true, Bool.not_false, ite_not, scal, and_false])
section
variable {P : Program} {w : World} {K : PySem.W.Frag} {mg : Str → Option Value} {base : Heap}
def sp_stands_at : Sp := fun vs H Q _ => ∃ (pre rest ch : List Nat), vs = [.str (S (pre ++ rest)), .int (pre.length : Nat), .str (S ch)] ∧ (pre ++ rest).length ≤ 10000 ∧ Q (.bl (hdIn ch rest)) H
theorem c_stands_at {f : Addr} {fd : FuncData} (D : C8.Def K mg "stands_at" s_stands_at f fd) (b : Binds K fd ["text", "at", "characters"] []) (z_len : mg "len" = none) : C8.Cal P w K mg base 1 "stands_at" sp_stands_at [] := by
  refine C8.cal0 D b .nil sc_stands_at (fun vs H Q E h => ?_) (fun cdv A outer s H vs Q E hr h => ?_)
  · obtain ⟨_, _, _, rfl, _⟩ := h
    rfl
  · obtain ⟨pre, rest, ch, rfl, hl, ok⟩ := h
    refine ⟨_, (pss_one (ps_ret (pe_and (pe_cmpR (op_lt) (pv 1) (pe_callB call_len_str (by rfl) z_len PySem.boot_len (pa_cons (pv 0) pa_nil)) (nomark _)) (pe_one (pe_cmpR (op_in_sign) (pe_ix ix_str (pv 0) (pv 1) (fun _ _ => rfl)) (pv 2) (by with_unfolding_all rfl)))))), ?_⟩
    walk_at "rd"
    refine ⟨small hl, ?_⟩
    cases rest with
    | nil =>
      rw [if_neg (by rw [List.append_nil]; omega)]
      exact ok
    | cons c r =>
      rw [if_pos (by rw [List.length_append, List.length_cons]; omega)]
      exact ⟨small hl, c, at_app, ok⟩
def sp_run_end : Sp := fun vs H Q _ => ∃ (pre l rest ch : List Nat), vs = [.str (S (pre ++ (l ++ rest))), .int (pre.length : Nat), .str (S ch)] ∧ (pre ++ (l ++ rest)).length ≤ 10000 ∧ (∀ c ∈ l, c ∈ ch) ∧ hdIn ch rest = false ∧ Q (.int ((pre.length + l.length : Nat) : Int)) H
theorem c_run_end {f : Addr} {fd : FuncData} (D : C8.Def K mg "run_end" s_run_end f fd) (b : Binds K fd ["text", "at", "characters"] []) (c_stands_at : C8.Cal P w K mg base 1 "stands_at" sp_stands_at []) : C8.Cal P w K mg base 2 "run_end" sp_run_end [] := by
  refine C8.cal0 D b .nil sc_run_end (fun vs H Q E h => ?_) (fun cdv A outer s H vs Q E hr h => ?_)
  · obtain ⟨_, _, _, _, rfl, _⟩ := h
    rfl
  · obtain ⟨pre, l, rest, ch, rfl, hl, hin, hout, ok⟩ := h
    refine ⟨_, (pss_cons (ps_while PassesOwn.never (pt_val (C8.pe_c c_stands_at hr (by decide) (by rfl) (pa_cons (pv 0) (pa_cons (pv 1) (pa_cons (pv 2) pa_nil))))) (pss_one (ps_aug (i := 1) sc_run_end.nd rfl (by first | exact Or.inl rfl | exact Or.inr rfl) pe_int ip_add))) (pss_one (ps_ret (pv 1)))), ?_⟩
    walk_at "rd"
    refine while_W (fun m σ H2 => ∃ l1 l2, l = l1 ++ l2 ∧ m = l2.length ∧ σ = [some (.str (S (pre ++ (l ++ rest)))), some (.int ((pre.length + l1.length : Nat) : Int)), some (.str (S ch))] ∧ H = H2) ⟨l.length, [], l, rfl, rfl, rfl, rfl⟩ ?_
    rintro m σ H2 ⟨l1, l2, rfl, rfl, rfl, rfl⟩
    walk_at "rd"
    refine ⟨pre ++ l1, l2 ++ rest, ch, by simp [List.append_assoc], by simpa [List.append_assoc] using hl, ?_⟩
    cases l2 with
    | nil =>
      refine ⟨_, rfl, ?_⟩
      rw [List.nil_append, hout, if_neg (by decide)]
      rw [List.append_nil] at ok
      exact ok
    | cons c r =>
      have hc : hdIn ch (c :: r ++ rest) = true := decide_eq_true (hin c (by simp))
      refine ⟨_, rfl, ?_⟩
      rw [hc, if_pos rfl]
      refine nxw_of fun N hN => ?_
      walk_at "rd"
      refine hN r.length _ _ (Nat.lt_succ_self _) ⟨l1 ++ [c], r, by simp, rfl, ?_, rfl⟩
      rw [List.length_append]
      congr 4

end
end
section
local macro_rules | `(tactic| walk_at "rd") => `(tactic| simp only [tSeq, tNext, tAsg, gName, tRet, tRetN, tIfS, tDrop, tVar, tC, tOp, tUn, tTest, tCB, tCons, tNil, tB, tAnd, tOr, tNot, tAndV, tOrV, tNotV, tIf, tCall, tTup, tLst, tSl, tPart, tNoPart, tM0, tM1, tBM, tChain, tBreak, tCont, tNever, tAug, ipI, tPar, tyV_str,
  tFor_eq, tLc_eq, tMkO, tYes, wipe, ofStr_S, S_cat, one_S, len_S, S_iff, S_cps, Int.zero_add, gNil, gCons, gTup, gSub, iRng1, iRng2, iList, iTup, iStr, rI0, rI, rU, rEq, rNe, rIxL, rIxT, rIxS, Dw.rLen, rListOf, rTupOf, rNotB, rIsB, rMulS, rIn, rCat, rAppend, rCatA, rEqD, rNeD, C8.rSlX, tDGet, tDGet2, tDIn, tDNotIn, rSetD, rAll, rKIn, tBM0, rPop, rExtend, tAddT, rAddT, rSetT0, Dw.rSetL, rSortT, StX.tStar, tDNewK, tDisp, tPairs, L2.start, cxOf_K, cxOf_w, cxOf_prog,
  List.map_cons, List.map_nil, List.length_cons, List.length_nil, List.replicate, List.cons_append, List.nil_append, Nat.reduceAdd, Nat.reduceSub, Nat.zero_add, List.append_nil,
  List.set_cons_zero, List.set_cons_succ, List.getElem?_cons_zero, List.getElem?_cons_succ, Option.some.injEq, V.int.injEq, V.bl.injEq, V.ref.injEq, V.str.injEq, V.ty.injEq, List.cons.injEq, and_true, true_and, reduceCtorEq, false_and, exists_false, or_false, false_or, exists_eq_left, exists_eq_left', exists_eq', sw_S, an_S, exists_and_left, exists_const, exists_eq, decide_eq_true_eq, Bool.false_eq_true, if_true, if_false, Bool.not_eq_true', decide_eq_false_iff_not, Bool.not_true, Bool.not_false, ite_not, scal, and_false])
section
variable {P : Program} {w : World} {K : PySem.W.Frag} {mg : Str → Option Value} {base : Heap}
def sp_name_at : Sp := fun vs H Q _ => ∃ (pre l rest : List Nat), vs = [.str (S (pre ++ (l ++ rest))), .int (pre.length : Nat)] ∧ (pre ++ (l ++ rest)).length ≤ 10000 ∧ (∀ c ∈ l, c ∈ LOW ++ DIG) ∧ l.length ≤ 12 ∧ hdIn (LOW ++ DIG) rest = false ∧ hdIn UPP rest = false ∧
  ∀ t H', Same H H' → H t = none → H' t = some (.tup [.str (S (if l ∈ RES then cs "reserved" else cs "name")), .str (S l), .int ((pre.length + l.length : Nat) : Int)]) → Q (.ref t) H'
theorem regroup (pre l rest : List Nat) : pre ++ (l ++ rest) = (pre ++ l) ++ rest := (List.append_assoc _ _ _).symm
theorem c_name_at {f : Addr} {fd : FuncData} (D : C8.Def K mg "name_at" s_name_at f fd) (b : Binds K fd ["text", "at"] []) (c_stands_at : C8.Cal P w K mg base 1 "stands_at" sp_stands_at []) (c_run_end : C8.Cal P w K mg base 2 "run_end" sp_run_end []) (g_LOWER : ∃ u, mg "LOWER" = some u ∧ RelV (.str (S LOW)) u) (g_UPPER : ∃ u, mg "UPPER" = some u ∧ RelV (.str (S UPP)) u) (g_DIGITS : ∃ u, mg "DIGITS" = some u ∧ RelV (.str (S DIG)) u) (g_LENGTH_LIMIT : ∃ u, mg "LENGTH_LIMIT" = some u ∧ RelV (.int 12) u) {aR : Addr} (g_RESERVED : ∃ u, mg "RESERVED" = some u ∧ RelV (.ref aR) u) (kR : ∀ H, SqT K H aR (RES.map vS)) : C8.Cal P w K mg base 3 "name_at" sp_name_at [] := by
  refine C8.cal0 D b .nil sc_name_at (fun vs H Q E h => ?_) (fun cdv A outer s H vs Q E hr h => ?_)
  · obtain ⟨_, _, _, rfl, _⟩ := h
    rfl
  · obtain ⟨pre, l, rest, rfl, hlen, hin, hl12, h1, h2, ok⟩ := h
    refine ⟨_, (pss_cons (ps_set (i := 2) sc_name_at.nd rfl (by first | exact Or.inl rfl | exact Or.inr rfl) (C8.pe_c c_run_end hr (by decide) (by rfl) (pa_cons (pv 0) (pa_cons (pv 1) (pa_cons (pe_op op_add_str (C8.pe_gc (by rfl) g_LOWER) (C8.pe_gc (by rfl) g_DIGITS)) pa_nil))))) (pss_cons (ps_if (PW.pt (pw_or (pt_cmpR (op_gt) (pe_op op_sub (pv 2) (pv 1)) (C8.pe_gc (by rfl) g_LENGTH_LIMIT) (nomark _)) (pw_or1 (pt_val (C8.pe_c c_stands_at hr (by decide) (by rfl) (pa_cons (pv 0) (pa_cons (pv 2) (pa_cons (C8.pe_gc (by rfl) g_UPPER) pa_nil)))))))) (pss_one ps_never) pss_nil) (pss_cons (ps_set (i := 3) sc_name_at.nd rfl (by first | exact Or.inl rfl | exact Or.inr rfl) (pe_slice C8.sl_txt (pv 0) (po_some (pv 1)) (po_some (pv 2)))) (pss_cons (ps_set (i := 4) sc_name_at.nd rfl (by first | exact Or.inl rfl | exact Or.inr rfl) (pe_ifExp (pt_cmpR (inQ K) (pv 3) (C8.pe_gc (by rfl) g_RESERVED) (by with_unfolding_all rfl)) pe_str pe_str)) (pss_one (ps_ret (pe_tup (pa_cons (pv 4) (pa_cons (pv 3) (pa_cons (pv 2) pa_nil)))))))))), ?_⟩
    walk_at "rd"
    refine ⟨by decide +kernel, pre, l, rest, LOW ++ DIG, rfl, hlen, hin, h1, ?_⟩
    walk_at "rd"
    rw [if_neg (by omega)]
    refine ⟨pre ++ l, rest, UPP, by rw [regroup, List.length_append], by rw [← regroup]; exact hlen, _, rfl, ?_⟩
    rw [h2, if_neg (by decide)]
    refine ⟨small hlen, _, .inr (kR _), rfl, flat_S RES, ?_⟩
    rw [cut_mid, inV_S]
    refine ite2 (fun h => ⟨by decide, fun t ht => ok t _ (same_upd ht) ht ?_⟩) (fun h => ⟨by decide, fun t ht => ok t _ (same_upd ht) ht ?_⟩)
    · rw [if_pos (of_decide_eq_true h)]
      exact upd_same
    · rw [if_neg (fun e => h (decide_eq_true e))]
      exact upd_same
def sp_word_at : Sp := fun vs H Q _ => ∃ (pre l rest : List Nat), vs = [.str (S (pre ++ (l ++ rest))), .int (pre.length : Nat)] ∧ (pre ++ (l ++ rest)).length ≤ 10000 ∧ (∀ c ∈ l, c ∈ UPP ++ DIG) ∧ l.length ≤ 12 ∧ hdIn (UPP ++ DIG) rest = false ∧ hdIn LOW rest = false ∧
  ∀ t H', Same H H' → H t = none → H' t = some (.tup [.str (S (cs "word")), .str (S l), .int ((pre.length + l.length : Nat) : Int)]) → Q (.ref t) H'
theorem c_word_at {f : Addr} {fd : FuncData} (D : C8.Def K mg "word_at" s_word_at f fd) (b : Binds K fd ["text", "at"] []) (c_stands_at : C8.Cal P w K mg base 1 "stands_at" sp_stands_at []) (c_run_end : C8.Cal P w K mg base 2 "run_end" sp_run_end []) (g_LOWER : ∃ u, mg "LOWER" = some u ∧ RelV (.str (S LOW)) u) (g_UPPER : ∃ u, mg "UPPER" = some u ∧ RelV (.str (S UPP)) u) (g_DIGITS : ∃ u, mg "DIGITS" = some u ∧ RelV (.str (S DIG)) u) (g_LENGTH_LIMIT : ∃ u, mg "LENGTH_LIMIT" = some u ∧ RelV (.int 12) u) : C8.Cal P w K mg base 3 "word_at" sp_word_at [] := by
  refine C8.cal0 D b .nil sc_word_at (fun vs H Q E h => ?_) (fun cdv A outer s H vs Q E hr h => ?_)
  · obtain ⟨_, _, _, rfl, _⟩ := h
    rfl
  · obtain ⟨pre, l, rest, rfl, hlen, hin, hl12, h1, h2, ok⟩ := h
    refine ⟨_, (pss_cons (ps_set (i := 2) sc_word_at.nd rfl (by first | exact Or.inl rfl | exact Or.inr rfl) (C8.pe_c c_run_end hr (by decide) (by rfl) (pa_cons (pv 0) (pa_cons (pv 1) (pa_cons (pe_op op_add_str (C8.pe_gc (by rfl) g_UPPER) (C8.pe_gc (by rfl) g_DIGITS)) pa_nil))))) (pss_cons (ps_if (PW.pt (pw_or (pt_cmpR (op_gt) (pe_op op_sub (pv 2) (pv 1)) (C8.pe_gc (by rfl) g_LENGTH_LIMIT) (nomark _)) (pw_or1 (pt_val (C8.pe_c c_stands_at hr (by decide) (by rfl) (pa_cons (pv 0) (pa_cons (pv 2) (pa_cons (C8.pe_gc (by rfl) g_LOWER) pa_nil)))))))) (pss_one ps_never) pss_nil) (pss_one (ps_ret (pe_tup (pa_cons pe_str (pa_cons (pe_slice C8.sl_txt (pv 0) (po_some (pv 1)) (po_some (pv 2))) (pa_cons (pv 2) pa_nil)))))))), ?_⟩
    walk_at "rd"
    refine ⟨by decide +kernel, pre, l, rest, UPP ++ DIG, rfl, hlen, hin, h1, ?_⟩
    walk_at "rd"
    rw [if_neg (by omega)]
    refine ⟨pre ++ l, rest, LOW, by rw [regroup, List.length_append], by rw [← regroup]; exact hlen, _, rfl, ?_⟩
    rw [h2, if_neg (by decide)]
    refine ⟨small hlen, by decide, fun t ht => ok t _ (same_upd ht) ht ?_⟩
    rw [cut_mid]
    exact upd_same
def sp_number_at : Sp := fun vs H Q _ => ∃ (pre rest : List Nat) (n : Nat), vs = [.str (S (pre ++ (num n ++ rest))), .int (pre.length : Nat)] ∧ (pre ++ (num n ++ rest)).length ≤ 10000 ∧ n < 256 ∧ hdIn DIG rest = false ∧ hdIn (LOW ++ UPP) rest = false ∧
  ∀ t H', Same H H' → H t = none → H' t = some (.tup [.str (S (cs "number")), .int (n : Nat), .int ((pre.length + (num n).length : Nat) : Int)]) → Q (.ref t) H'
theorem c_number_at {f : Addr} {fd : FuncData} (D : C8.Def K mg "number_at" s_number_at f fd) (b : Binds K fd ["text", "at"] []) (c_stands_at : C8.Cal P w K mg base 1 "stands_at" sp_stands_at []) (c_run_end : C8.Cal P w K mg base 2 "run_end" sp_run_end []) (g_LOWER : ∃ u, mg "LOWER" = some u ∧ RelV (.str (S LOW)) u) (g_UPPER : ∃ u, mg "UPPER" = some u ∧ RelV (.str (S UPP)) u) (g_DIGITS : ∃ u, mg "DIGITS" = some u ∧ RelV (.str (S DIG)) u) (g_NUMBER_LIMIT : ∃ u, mg "NUMBER_LIMIT" = some u ∧ RelV (.int 255) u) (z_int : mg "int" = none) : C8.Cal P w K mg base 3 "number_at" sp_number_at [] := by
  refine C8.cal0 D b .nil sc_number_at (fun vs H Q E h => ?_) (fun cdv A outer s H vs Q E hr h => ?_)
  · obtain ⟨_, _, _, rfl, _⟩ := h
    rfl
  · obtain ⟨pre, rest, n, rfl, hlen, hn, h1, h2, ok⟩ := h
    obtain ⟨n1, n2, n3, n4, n5, n6⟩ := num_ok n hn
    obtain ⟨c, r, ec⟩ := cons_of n1
    have hat : atI (pre ++ (num n ++ rest)) ((pre.length : Nat) : Int) = some c := by
      rw [ec]
      exact at_app
    have hz : c = 48 → (num n).length = 1 := fun e => n4 (by rw [ec, e]; rfl)
    refine ⟨_, (pss_cons (ps_set (i := 2) sc_number_at.nd rfl (by first | exact Or.inl rfl | exact Or.inr rfl) (C8.pe_c c_run_end hr (by decide) (by rfl) (pa_cons (pv 0) (pa_cons (pv 1) (pa_cons (C8.pe_gc (by rfl) g_DIGITS) pa_nil))))) (pss_cons (ps_set (i := 3) sc_number_at.nd rfl (by first | exact Or.inl rfl | exact Or.inr rfl) (pe_and (pe_cmpR (op_eq) (pe_ix ix_str (pv 0) (pv 1) (fun _ _ => rfl)) pe_str (nomark _)) (pe_one (pe_cmpR (op_gt) (pe_op op_sub (pv 2) (pv 1)) pe_int (nomark _))))) (pss_cons (ps_if (PW.pt (pw_or (pt_val (pv 3)) (pw_or (pt_val (C8.pe_c c_stands_at hr (by decide) (by rfl) (pa_cons (pv 0) (pa_cons (pv 2) (pa_cons (pe_op op_add_str (C8.pe_gc (by rfl) g_LOWER) (C8.pe_gc (by rfl) g_UPPER)) pa_nil))))) (pw_or1 (pt_cmpR (op_gt) (pe_callTy call_int_str (by rfl) z_int (by decide +kernel) (pa_cons (pe_slice C8.sl_txt (pv 0) (po_some (pv 1)) (po_some (pv 2))) pa_nil)) (C8.pe_gc (by rfl) g_NUMBER_LIMIT) (nomark _)))))) (pss_one ps_never) pss_nil) (pss_one (ps_ret (pe_tup (pa_cons pe_str (pa_cons (pe_callTy call_int_str (by rfl) z_int (by decide +kernel) (pa_cons (pe_slice C8.sl_txt (pv 0) (po_some (pv 1)) (po_some (pv 2))) pa_nil)) (pa_cons (pv 2) pa_nil))))))))), ?_⟩
    walk_at "rd"
    refine ⟨pre, num n, rest, DIG, rfl, hlen, n2, h1, ?_⟩
    walk_at "rd"
    refine ⟨small hlen, c, hat, ite2 (fun h => ?_) (fun h => ?_)⟩
    · have e0 : c = 48 := by
        have : cs "0" = [48] := by decide +kernel
        rw [this] at h
        exact (List.cons.inj h).1
      have e1 := hz e0
      rw [if_neg (by rw [e1]; omega)]
      refine ⟨by decide +kernel, pre ++ num n, rest, LOW ++ UPP, by rw [regroup, List.length_append], by rw [← regroup]; exact hlen, _, rfl, ?_⟩
      rw [h2, if_neg (by decide), cut_mid]
      refine ⟨small hlen, n, num_int hn, by rw [len_S]; omega, ?_⟩
      rw [if_neg (by omega)]
      exact ⟨small hlen, n, num_int hn, by rw [len_S]; omega, by decide, fun t ht => ok t _ (same_upd ht) ht upd_same⟩
    · skip
      refine ⟨by decide +kernel, pre ++ num n, rest, LOW ++ UPP, by rw [regroup, List.length_append], by rw [← regroup]; exact hlen, _, rfl, ?_⟩
      rw [h2, if_neg (by decide), cut_mid]
      refine ⟨small hlen, n, num_int hn, by rw [len_S]; omega, ?_⟩
      rw [if_neg (by omega)]
      exact ⟨small hlen, n, num_int hn, by rw [len_S]; omega, by decide, fun t ht => ok t _ (same_upd ht) ht upd_same⟩
def sp_sign_at : Sp := fun vs H Q _ => ∃ (pre l rest : List Nat), vs = [.str (S (pre ++ (l ++ rest))), .int (pre.length : Nat)] ∧ (pre ++ (l ++ rest)).length ≤ 10000 ∧ l ∈ SGN ∧ (∀ s ∈ SGN, l.length < s.length → pfx l s = true → pfx s (l ++ rest) = false) ∧
  ∀ t H', Same H H' → H t = none → H' t = some (.tup [.str (S (cs "sign")), .str (S l), .int ((pre.length + l.length : Nat) : Int)]) → Q (.ref t) H'
theorem c_sign_at {f : Addr} {fd : FuncData} (D : C8.Def K mg "sign_at" s_sign_at f fd) (b : Binds K fd ["text", "at"] []) {aS : Addr} (g_SIGNS : ∃ u, mg "SIGNS" = some u ∧ RelV (.ref aS) u) (kS : ∀ H, SqT K H aS (SGN.map vS)) (z_len : mg "len" = none) : C8.Cal P w K mg base 1 "sign_at" sp_sign_at [] := by
  refine C8.cal0 D b .nil sc_sign_at (fun vs H Q E h => ?_) (fun cdv A outer s H vs Q E hr h => ?_)
  · obtain ⟨_, _, _, rfl, _⟩ := h
    rfl
  · obtain ⟨pre, l, rest, rfl, hlen, hl, hsg, ok⟩ := h
    refine ⟨_, (pss_cons (ps_for PassesOwn.never rfl (piT K (C8.pe_gc (by rfl) g_SIGNS)) (pg_name (i := 2) sc_sign_at.nd rfl (by first | exact Or.inl rfl | exact Or.inr rfl)) (pss_one (ps_if (pt_val (pe_bm PySem.F.plainAttrs_str PySem.F.slot_str_startswith PySem.F.type_str_startswith mt_startswith3 (pv 0) (pa_cons (pv 2) (pa_cons (pv 1) pa_nil)))) (pss_one (ps_ret (pe_tup (pa_cons pe_str (pa_cons (pv 2) (pa_cons (pe_op op_add (pv 1) (pe_callB call_len_str (by rfl) z_len PySem.boot_len (pa_cons (pv 2) pa_nil))) pa_nil)))))) pss_nil))) (pss_one ps_never)), ?_⟩
    walk_at "rd"
    obtain ⟨jl, hjl⟩ := List.getElem?_of_mem hl
    have hself : pfx l (l ++ rest) = true := pfx_iff.mpr ⟨rest, rfl⟩
    refine ⟨⟨_, kS H⟩, for_tupN (xs := SGN.map vS) (fun i σ H2 => (∃ k, σ = [some (V.str (S (pre ++ (l ++ rest)))), some (V.int (pre.length : Nat)), k]) ∧ H = H2 ∧ ∀ j, j < i → ∀ s, SGN[j]? = some s → pfx s (l ++ rest) = false) ?_ ?_ ?_ ?_⟩
    · exact ⟨⟨none, rfl⟩, rfl, fun j hj => absurd hj (Nat.not_lt_zero _)⟩
    · exact fun i σ H2 _ _ => kS H2
    · rintro i v σ H2 N hv ⟨⟨k, rfl⟩, rfl, hno⟩ hN
      rw [List.getElem?_map] at hv
      obtain ⟨s, hs, rfl⟩ := Option.map_eq_some_iff.mp hv
      have hsm : s ∈ SGN := List.mem_of_getElem? hs
      have hsl := sgn_len s hsm
      unfold vS
      walk_at "rd"
      refine ⟨_, _, ⟨rfl, rfl⟩, ?_⟩
      rw [sw3_S _ _ _ (by rw [List.length_append]; omega), List.drop_left]
      refine ite2 (fun h => ?_) (fun h => ?_)
      · have e : s = l := by
          by_cases hij : jl < i
          · rw [hno jl hij l hjl] at hself
            cases hself
          · by_cases hij2 : i < jl
            · have h3 := sgn_before hij2 hs hjl
              by_cases hle : s.length ≤ l.length
              · rw [pfx_short h hle] at h3
                cases h3
              · have := hsg s hsm (by omega) (pfx_two h (by omega))
                rw [h] at this
                cases this
            · have : i = jl := by omega
              subst this
              rw [hjl] at hs
              exact (Option.some.inj hs).symm
        subst e
        exact ⟨small (by omega), by decide, fun t ht => ok t _ (same_upd ht) ht upd_same⟩
      · refine hN _ _ ⟨⟨_, rfl⟩, rfl, fun j hj s2 hs2 => ?_⟩
        by_cases hji : j < i
        · exact hno j hji s2 hs2
        · have : j = i := by omega
          subst this
          rw [hs] at hs2
          rw [← Option.some.inj hs2]
          exact Bool.eq_false_iff.mpr h
    · rintro σ H2 ⟨⟨k, rfl⟩, rfl, hno⟩
      have hlt : jl < (SGN.map vS).length := by
        rw [List.length_map]
        exact (List.getElem?_eq_some_iff.mp hjl).1
      have := hno jl hlt l hjl
      rw [hself] at this
      cases this
def sp_token_at : Sp := fun vs H Q _ => ∃ (pre l rest k : List Nat) (v : V), vs = [.str (S (pre ++ (l ++ rest))), .int (pre.length : Nat)] ∧ (pre ++ (l ++ rest)).length ≤ 10000 ∧ Piece l k v ∧ After l rest ∧
  ∀ t H', Same H H' → H t = none → H' t = some (.tup [.str (S k), v, .int ((pre.length + l.length : Nat) : Int)]) → Q (.ref t) H'
theorem c_token_at {f : Addr} {fd : FuncData} (D : C8.Def K mg "token_at" s_token_at f fd) (b : Binds K fd ["text", "at"] []) (c_name_at : C8.Cal P w K mg base 3 "name_at" sp_name_at []) (c_word_at : C8.Cal P w K mg base 3 "word_at" sp_word_at []) (c_number_at : C8.Cal P w K mg base 3 "number_at" sp_number_at []) (c_sign_at : C8.Cal P w K mg base 1 "sign_at" sp_sign_at []) (g_LOWER : ∃ u, mg "LOWER" = some u ∧ RelV (.str (S LOW)) u) (g_UPPER : ∃ u, mg "UPPER" = some u ∧ RelV (.str (S UPP)) u) (g_DIGITS : ∃ u, mg "DIGITS" = some u ∧ RelV (.str (S DIG)) u) : C8.Cal P w K mg base 4 "token_at" sp_token_at [] := by
  refine C8.cal0 D b .nil sc_token_at (fun vs H Q E h => ?_) (fun cdv A outer s H vs Q E hr h => ?_)
  · obtain ⟨_, _, _, _, _, rfl, _⟩ := h
    rfl
  · obtain ⟨pre, l, rest, k, v, rfl, hlen, hp, ha, ok⟩ := h
    refine ⟨_, (pss_cons (ps_if (pt_cmpR (op_in_sign) (pe_ix ix_str (pv 0) (pv 1) (fun _ _ => rfl)) (C8.pe_gc (by rfl) g_LOWER) (by with_unfolding_all rfl)) (pss_one (ps_ret (C8.pe_c c_name_at hr (by decide) (by rfl) (pa_cons (pv 0) (pa_cons (pv 1) pa_nil))))) pss_nil) (pss_cons (ps_if (pt_cmpR (op_in_sign) (pe_ix ix_str (pv 0) (pv 1) (fun _ _ => rfl)) (C8.pe_gc (by rfl) g_UPPER) (by with_unfolding_all rfl)) (pss_one (ps_ret (C8.pe_c c_word_at hr (by decide) (by rfl) (pa_cons (pv 0) (pa_cons (pv 1) pa_nil))))) pss_nil) (pss_cons (ps_if (pt_cmpR (op_in_sign) (pe_ix ix_str (pv 0) (pv 1) (fun _ _ => rfl)) (C8.pe_gc (by rfl) g_DIGITS) (by with_unfolding_all rfl)) (pss_one (ps_ret (C8.pe_c c_number_at hr (by decide) (by rfl) (pa_cons (pv 0) (pa_cons (pv 1) pa_nil))))) pss_nil) (pss_one (ps_ret (C8.pe_c c_sign_at hr (by decide) (by rfl) (pa_cons (pv 0) (pa_cons (pv 1) pa_nil)))))))), ?_⟩
    walk_at "rd"
    have first : ∀ c r, l = c :: r → atI (pre ++ (l ++ rest)) ((pre.length : Nat) : Int) = some c := fun c r e => by
      rw [e]
      exact at_app
    have an0 : ∀ ch : List Nat, (∀ c ∈ ch, c ∈ LOW ++ DIG ∨ c ∈ UPP ++ DIG) → ∀ c ∈ ch, isAN c = true := fun ch h c hc => by
      rcases h c hc with e | e
      · exact an_ld c e
      · exact an_ud c e
    have in1 : ∀ c ∈ LOW ++ DIG, c ∈ LOW ++ DIG ∨ c ∈ UPP ++ DIG := fun c hc => .inl hc
    have in2 : ∀ c ∈ UPP ++ DIG, c ∈ LOW ++ DIG ∨ c ∈ UPP ++ DIG := fun c hc => .inr hc
    have in3 : ∀ c ∈ LOW, c ∈ LOW ++ DIG ∨ c ∈ UPP ++ DIG := fun c hc => .inl (List.mem_append_left _ hc)
    have in4 : ∀ c ∈ UPP, c ∈ LOW ++ DIG ∨ c ∈ UPP ++ DIG := fun c hc => .inr (List.mem_append_left _ hc)
    have in5 : ∀ c ∈ DIG, c ∈ LOW ++ DIG ∨ c ∈ UPP ++ DIG := fun c hc => .inr (List.mem_append_right _ hc)
    have in6 : ∀ c ∈ LOW ++ UPP, c ∈ LOW ++ DIG ∨ c ∈ UPP ++ DIG := fun c hc => by
      rcases List.mem_append.mp hc with e | e
      · exact in3 c e
      · exact in4 c e
    have named : (∃ c r, l = c :: r ∧ c ∈ LOW) → (∀ c ∈ l, c ∈ LOW ++ DIG) → l.length ≤ 12 → (if l ∈ RES then cs "reserved" else cs "name") = k → v = .str (S l) → ∃ x, atI (pre ++ (l ++ rest)) ((pre.length : Nat) : Int) = some x ∧ x ∈ LOW ∧ sp_name_at [V.str (S (pre ++ (l ++ rest))), V.int (pre.length : Nat)] H Q C8.E0 := by
      rintro ⟨c, r, e, hc⟩ al le hk hv
      have hne : l ≠ [] := by rw [e]; exact List.cons_ne_nil _ _
      refine ⟨c, first c r e, hc, pre, l, rest, rfl, hlen, al, le, ha.hd hne (fun d hd => an_ld d (al d hd)) (an0 _ in1), ha.hd hne (fun d hd => an_ld d (al d hd)) (an0 _ in4), ?_⟩
      rw [hk, ← hv]
      exact ok
    refine ⟨small hlen, ?_⟩
    cases hp with
    | res h =>
      obtain ⟨h1, h2, h3⟩ := res_ok l h
      obtain ⟨x, hx, hxl, q⟩ := named h1 h2 h3 (if_pos h) rfl
      exact ⟨x, hx, by rw [if_pos hxl]; exact q⟩
    | name h =>
      obtain ⟨x, hx, hxl, q⟩ := named h.hd h.all h.le (if_neg h.nr) rfl
      exact ⟨x, hx, by rw [if_pos hxl]; exact q⟩
    | word h =>
      obtain ⟨c, r, e, hc⟩ := h.hd
      have hne : l ≠ [] := by rw [e]; exact List.cons_ne_nil _ _
      have hat := first c r e
      refine ⟨c, hat, ?_⟩
      rw [if_neg (upp_ok c hc).1]
      refine ⟨small hlen, c, hat, ?_⟩
      rw [if_pos hc]
      exact ⟨pre, l, rest, rfl, hlen, h.all, h.le, ha.hd hne (fun d hd => an_ud d (h.all d hd)) (an0 _ in2), ha.hd hne (fun d hd => an_ud d (h.all d hd)) (an0 _ in3), ok⟩
    | num n h =>
      obtain ⟨n1, n2, n3, n4, n5, n6⟩ := num_ok n h
      obtain ⟨c, r, e⟩ := cons_of n1
      have hc : c ∈ DIG := n2 c (by rw [e]; exact List.mem_cons_self)
      have hat := first c r e
      refine ⟨c, hat, ?_⟩
      rw [if_neg (dig_ok c hc).1]
      refine ⟨small hlen, c, hat, ?_⟩
      rw [if_neg (dig_ok c hc).2.1]
      refine ⟨small hlen, c, hat, ?_⟩
      rw [if_pos hc]
      exact ⟨pre, rest, n, rfl, hlen, h, ha.hd n1 (fun d hd => an0 _ in5 d (n2 d hd)) (an0 _ in5), ha.hd n1 (fun d hd => an0 _ in5 d (n2 d hd)) (an0 _ in6), ok⟩
    | sign h =>
      obtain ⟨n1, n2, n3, n4, n5⟩ := sgn_ok l h
      obtain ⟨c, r, e⟩ := cons_of n1
      have hat := first c r e
      rw [e] at n2 n3 n4
      have h2 : c ∉ LOW := of_decide_eq_false n2
      have h3 : c ∉ UPP := of_decide_eq_false n3
      have h4 : c ∉ DIG := of_decide_eq_false n4
      refine ⟨c, hat, ?_⟩
      rw [if_neg h2]
      refine ⟨small hlen, c, hat, ?_⟩
      rw [if_neg h3]
      refine ⟨small hlen, c, hat, ?_⟩
      rw [if_neg h4]
      exact ⟨pre, l, rest, rfl, hlen, h, ha.sg, ok⟩

end
end
section
local macro_rules | `(tactic| walk_at "rd") => `(tactic| simp only [tSeq, tNext, tAsg, gName, tRet, tRetN, tIfS, tDrop, tVar, tC, tOp, tUn, tTest, tCB, tCons, tNil, tB, tAnd, tOr, tNot, tAndV, tOrV, tNotV, tIf, tCall, tTup, tLst, tSl, tPart, tNoPart, tM0, tM1, tBM, tChain, tBreak, tCont, tNever, tAug, ipI, tPar, tyV_str,
  tFor_eq, tLc_eq, tMkO, tYes, wipe, ofStr_S, S_cat, one_S, len_S, S_iff, S_cps, Int.zero_add, gNil, gCons, gTup, gSub, iRng1, iRng2, iList, iTup, iStr, rI0, rI, rU, rEq, rNe, rIxL, rIxT, rIxS, Dw.rLen, rListOf, rTupOf, rNotB, rIsB, rMulS, rIn, rCat, rAppend, rCatA, rEqD, rNeD, C8.rSlX, tDGet, tDGet2, tDIn, tDNotIn, rSetD, rAll, rKIn, tBM0, rPop, rExtend, tAddT, rAddT, rSetT0, Dw.rSetL, rSortT, StX.tStar, tDNewK, tDisp, tPairs, L2.start, cxOf_K, cxOf_w, cxOf_prog,
  List.map_cons, List.map_nil, List.length_cons, List.length_nil, List.replicate, List.cons_append, List.nil_append, Nat.reduceAdd, Nat.reduceSub, Nat.zero_add, List.append_nil,
  List.set_cons_zero, List.set_cons_succ, List.getElem?_cons_zero, List.getElem?_cons_succ, Option.some.injEq, V.int.injEq, V.bl.injEq, V.ref.injEq, V.str.injEq, V.ty.injEq, List.cons.injEq, and_true, true_and, reduceCtorEq, false_and, exists_false, or_false, false_or, exists_eq_left, exists_eq_left', exists_eq', sw_S, an_S, exists_and_left, exists_const, exists_eq, decide_eq_true_eq, Bool.false_eq_true, if_true, if_false, Bool.not_eq_true', decide_eq_false_iff_not, Bool.not_true, Bool.not_false, ite_not, scal, and_false])
section
variable {P : Program} {w : World} {K : PySem.W.Frag} {mg : Str → Option Value} {base : Heap}
def sp_tokens : Sp := fun vs H Q _ => ∃ (l0 : List Nat) (is : List Itm), vs = [.str (S (l0 ++ iflat is))] ∧ Blank l0 ∧ Goods is ∧ is.length ≤ 4000 ∧ (l0 ++ iflat is).length ≤ 4000 ∧
  ∀ r as H', Same H H' → H r = none → H' r = some (.lst (as.map V.ref)) → Toks H' l0.length is as → Q (.ref r) H'
theorem blank_cs : cs " \n" = [32, 10] := by decide +kernel
theorem c_tokens {f : Addr} {fd : FuncData} (D : C8.Def K mg "tokens" s_tokens f fd) (b : Binds K fd ["text"] []) (c_token_at : C8.Cal P w K mg base 4 "token_at" sp_token_at []) (g_TEXT_LIMIT : ∃ u, mg "TEXT_LIMIT" = some u ∧ RelV (.int 4000) u) (z_len : mg "len" = none) : C8.Cal P w K mg base 5 "tokens" sp_tokens [] := by
  refine C8.cal0 D b .nil sc_tokens (fun vs H Q E h => ?_) (fun cdv A outer s H vs Q E hr h => ?_)
  · obtain ⟨_, _, rfl, _⟩ := h
    rfl
  · obtain ⟨l0, is, rfl, hb0, hg, hil, hlen, ok⟩ := h
    refine ⟨_, (pss_cons (ps_if (pt_cmpR (op_gt) (pe_callB call_len_str (by rfl) z_len PySem.boot_len (pa_cons (pv 0) pa_nil)) (C8.pe_gc (by rfl) g_TEXT_LIMIT) (nomark _)) (pss_one ps_never) pss_nil) (pss_cons (ps_set (i := 1) sc_tokens.nd rfl (by first | exact Or.inl rfl | exact Or.inr rfl) (pe_lst pa_nil)) (pss_cons (ps_set (i := 2) sc_tokens.nd rfl (by first | exact Or.inl rfl | exact Or.inr rfl) pe_int) (pss_cons (ps_while PassesOwn.never (pt_cmpR (op_lt) (pv 2) (pe_callB call_len_str (by rfl) z_len PySem.boot_len (pa_cons (pv 0) pa_nil)) (nomark _)) (pss_one (ps_if (pt_cmpR (op_in_sign) (pe_ix ix_str (pv 0) (pv 2) (fun _ _ => rfl)) pe_str (by with_unfolding_all rfl)) (pss_one (ps_aug (i := 2) sc_tokens.nd rfl (by first | exact Or.inl rfl | exact Or.inr rfl) pe_int ip_add)) (pss_cons (ps_asg (C8.pe_c c_token_at hr (by decide) (by rfl) (pa_cons (pv 0) (pa_cons (pv 2) pa_nil))) (pg_tup (n := 3) rfl (pgs_cons (pg_name (i := 3) sc_tokens.nd rfl (by first | exact Or.inl rfl | exact Or.inr rfl)) (pgs_cons (pg_name (i := 4) sc_tokens.nd rfl (by first | exact Or.inl rfl | exact Or.inr rfl)) (pgs_cons (pg_name (i := 5) sc_tokens.nd rfl (by first | exact Or.inl rfl | exact Or.inr rfl)) pgs_nil))))) (pss_cons (ps_expr (pe_bm PySem.F.plainAttrs_list PySem.F.slot_list_append PySem.F.type_list_append mt_append (pv 1) (pa_cons (pe_tup (pa_cons (pv 3) (pa_cons (pv 4) (pa_cons (pv 2) pa_nil)))) pa_nil))) (pss_one (ps_set (i := 2) sc_tokens.nd rfl (by first | exact Or.inl rfl | exact Or.inr rfl) (pv 5)))))))) (pss_one (ps_ret (pv 1))))))), ?_⟩
    walk_at "rd"
    refine ⟨small (by omega), ?_⟩
    rw [if_neg (by omega)]
    refine ⟨Nat.zero_le _, fun r hr0 => ?_⟩
    obtain ⟨W, hW⟩ : ∃ W : Nat → L2.St → Hp → Prop, W = fun m σ H2 => ∃ (pre b : List Nat) (d rest : List Itm) (as : List Addr) (x y z : Option V), is = d ++ rest ∧ l0 ++ iflat is = pre ++ (b ++ iflat rest) ∧ m = (b ++ iflat rest).length ∧ (∀ c ∈ b, c = 32 ∨ c = 10) ∧
      pre.length + b.length = l0.length + (iflat d).length ∧ σ = [some (V.str (S (l0 ++ iflat is))), some (.ref r), some (.int (pre.length : Nat)), x, y, z] ∧ Same H H2 ∧ H2 r = some (.lst (as.map V.ref)) ∧ Toks H2 l0.length d as := ⟨_, rfl⟩
    refine while_W W ?_ ?_
    · rw [hW]
      exact ⟨_, [], l0, [], is, [], none, none, none, rfl, rfl, rfl, hb0.1, by simp [iflat, flat], rfl, same_upd hr0, upd_same, trivial⟩
    intro m σ H2 hw
    rw [hW] at hw
    obtain ⟨pre, b, d, rest, as, x, y, z, hds, htx, rfl, hbl, hpl, rfl, sm, hrr, htk⟩ := hw
    rw [htx] at hlen
    rw [htx]
    walk_at "rd"
    refine ⟨small (by omega), ite2 (fun h1 => ?_) (fun h1 => ?_)⟩
    · refine nxw_of fun N hN => ?_
      walk_at "rd"
      refine ⟨small (by omega), ?_⟩
      rw [blank_cs]
      cases b with
      | cons c b' =>
        refine ⟨c, at_app, ?_⟩
        rw [if_pos (by rcases hbl c List.mem_cons_self with e | e <;> simp [e])]
        refine hN (b' ++ iflat rest).length _ _ (Nat.lt_succ_self _) ?_
        rw [hW]
        refine ⟨pre ++ [c], b', d, rest, as, x, y, z, hds, by rw [htx]; simp, rfl, fun q hq => hbl q (List.mem_cons_of_mem _ hq), by simp at hpl ⊢; omega, ?_, sm, hrr, htk⟩
        rw [htx]
        simp
      | nil =>
        cases rest with
        | nil =>
          exact absurd h1 (by simp [iflat, flat])
        | cons it rest' =>
          obtain ⟨hp, hbsp, haf, hgr⟩ := Goods.append (a := d) (hds ▸ hg)
          obtain ⟨c, l', el, hc1, hc2⟩ := piece_hd hp
          have hat : atI (pre ++ ([] ++ iflat (it :: rest'))) ((pre.length : Nat) : Int) = some c := by
            rw [List.nil_append, iflat_cons, el]
            exact at_app
          refine ⟨c, hat, ?_⟩
          rw [if_neg (by simp [hc1, hc2])]
          refine ⟨pre, it.l, it.sp ++ iflat rest', it.k, it.v, by rw [List.nil_append, iflat_cons], by rw [← iflat_cons, ← List.nil_append (iflat _)]; omega, hp, haf, fun t H3 sm3 ht0 ht => ?_⟩
          have hr3 := sm3 _ _ hrr
          have h5 : as.length ≤ 4000 := by
            have := htk.len
            have := congrArg List.length hds
            rw [List.length_append] at this
            omega
          walk_at "rd"
          refine ⟨_, SqT.of ht, rfl, _, _, rfl, _, _, rfl, _, _, rfl, rfl, tyL hr3, by decide, fun p hp => ?_⟩
          have hrp : r ≠ p := ne_of_none hr3 hp
          have h4 : ∀ o, (upd H3 p o) r = some (.lst (as.map V.ref)) := fun o => by
            rw [upd_ne hrp]
            exact hr3
          refine ⟨_, h4 _, smallt (by rw [List.length_map]; omega), ?_⟩
          refine hN (it.sp ++ iflat rest').length _ _ ?_ ?_
          · simp only [List.nil_append, iflat_cons, el, List.cons_append, List.length_cons, List.length_append]
            omega
          · rw [hW]
            rw [iflat_cons] at htx
            refine ⟨pre ++ it.l, it.sp, d ++ [it], rest', as ++ [p], some (V.str (S it.k)), some it.v, some (V.int ((pre.length + it.l.length : Nat) : Int)), by rw [hds]; simp, by rw [htx]; simp, rfl, hbsp.1, ?_, ?_, ?_, ?_, ?_⟩
            · have e : iflat (d ++ [it]) = iflat d ++ (it.l ++ it.sp) := by simp [iflat, flat, irow]
              rw [e, List.length_append, List.length_append, List.length_append]
              rw [List.length_nil] at hpl
              omega
            · rw [htx, List.length_append, iflat_cons]
              rfl
            · exact Dw.Same.new ((sm.trans sm3).trans (same_upd hp)) hr0
            · rw [upd_same, List.map_append]
              rfl
            · refine Toks.snoc ((((htk.same sm3).same (same_upd hp)).but But.upd) (fun xs e => ?_)) ?_
              · rw [h4] at e
                cases e
              · rw [upd_ne hrp.symm, upd_same]
                rw [List.length_nil, Nat.add_zero] at hpl
                rw [hpl]
    · have he : (b ++ iflat rest).length = 0 := by
        rw [List.length_append (as := pre)] at h1
        omega
      have he2 : rest = [] := by
        cases rest with
        | nil => rfl
        | cons it rest' =>
          obtain ⟨hp, _⟩ := Goods.append (a := d) (hds ▸ hg)
          obtain ⟨c, l', el, _⟩ := piece_hd hp
          rw [iflat_cons, el] at he
          simp at he
      rw [he2, List.append_nil] at hds
      exact ok r as H2 sm hr0 hrr (hds ▸ htk)

end
end
section
local macro_rules | `(tactic| walk_at "rd") => `(tactic| simp only [tSeq, tNext, tAsg, gName, tRet, tRetN, tIfS, tDrop, tVar, tC, tOp, tUn, tTest, tCB, tCons, tNil, tB, tAnd, tOr, tNot, tAndV, tOrV, tNotV, tIf, tCall, tTup, tLst, tSl, tPart, tNoPart, tM0, tM1, tBM, tChain, tBreak, tCont, tNever, tAug, ipI, tPar, tyV_str,
  tFor_eq, tLc_eq, tMkO, tYes, wipe, ofStr_S, S_cat, one_S, len_S, S_iff, S_cps, Int.zero_add, gNil, gCons, gTup, gSub, iRng1, iRng2, iList, iTup, iStr, rI0, rI, rU, rEq, rNe, rIxL, rIxT, rIxS, Dw.rLen, rListOf, rTupOf, rNotB, rIsB, rMulS, rIn, rCat, rAppend, rCatA, rEqD, rNeD, C8.rSlX, tDGet, tDGet2, tDIn, tDNotIn, rSetD, rAll, rKIn, tBM0, rPop, rExtend, tAddT, rAddT, rSetT0, Dw.rSetL, rSortT, StX.tStar, tDNewK, tDisp, tPairs, L2.start, cxOf_K, cxOf_w, cxOf_prog,
  List.map_cons, List.map_nil, List.length_cons, List.length_nil, List.replicate, List.cons_append, List.nil_append, Nat.reduceAdd, Nat.reduceSub, Nat.zero_add, List.append_nil,
  List.set_cons_zero, List.set_cons_succ, List.getElem?_cons_zero, List.getElem?_cons_succ, Option.some.injEq, V.int.injEq, V.bl.injEq, V.ref.injEq, V.str.injEq, V.ty.injEq, List.cons.injEq, and_true, true_and, reduceCtorEq, false_and, exists_false, or_false, false_or, exists_eq_left, exists_eq_left', exists_eq', sw_S, an_S, exists_and_left, exists_const, exists_eq, decide_eq_true_eq, Bool.false_eq_true, if_true, if_false, Bool.not_eq_true', decide_eq_false_iff_not, Bool.not_true, Bool.not_false, ite_not, scal, and_false])
section
variable {P : Program} {w : World} {K : PySem.W.Frag} {mg : Str → Option Value} {base : Heap}
def sp_in_range : Sp := fun vs H Q _ => ∃ i : Int, vs = [.int i] ∧ Q (.bl (okC i)) H
theorem c_in_range {f : Addr} {fd : FuncData} (D : C8.Def K mg "in_range" s_in_range f fd) (b : Binds K fd ["number"] []) (g_COEFFICIENT_LIMIT : ∃ u, mg "COEFFICIENT_LIMIT" = some u ∧ RelV (.int 255) u) : C8.Cal P w K mg base 1 "in_range" sp_in_range [] := by
  refine C8.cal0 D b .nil sc_in_range (fun vs H Q E h => ?_) (fun cdv A outer s H vs Q E hr h => ?_)
  · obtain ⟨_, rfl, _⟩ := h
    rfl
  · obtain ⟨i, rfl, ok⟩ := h
    refine ⟨_, (pss_one (ps_ret (pe_chain op_le op_le (pe_un un_neg (C8.pe_gc (by rfl) g_COEFFICIENT_LIMIT)) (pv 0) (C8.pe_gc (by rfl) g_COEFFICIENT_LIMIT)))), ?_⟩
    walk_at "rd"
    by_cases h : -255 ≤ i
    · rw [if_pos h]
      have e : okC i = decide (i ≤ 255) := by simp [okC, h]
      rw [← e]
      exact ok
    · rw [if_neg h]
      have e : okC i = false := by simp [okC, h]
      rw [← e]
      exact ok
def sp_linear (K : PySem.W.Frag) (CO : Addr) : Sp := fun vs H Q E => ∃ (l : Addr) (as : List Addr) (ps : Prs) (c : Int), vs = [.ref l, .int c] ∧ SqL K H l (as.map V.ref) ∧ PrsAt H as ps ∧ ps.length ≤ 30 ∧
  (linOk ps c = true → ∀ t H', Same H H' → TermAt H' t (lin ps) c → Q (.ref t) H') ∧ (linOk ps c = false → Rz CO "limit" (.str (S (cs "term"))) H E)
theorem c_linear {f : Addr} {fd : FuncData} (D : C8.Def K mg "linear" s_linear f fd) (b : Binds K fd ["pairs", "constant"] []) {CO : Addr} (x_Oversized : ExF P w K mg base "Oversized" CO "limit") (c_in_range : C8.Cal P w K mg base 1 "in_range" sp_in_range []) (z_sorted : mg "sorted" = none) (z_all : mg "all" = none) (z_tuple : mg "tuple" = none) : CalX P w K mg base 3 "linear" (sp_linear K CO) := by
  refine calX0 D b sc_linear (fun vs H Q E h => ?_) (fun cdv A outer s H vs Q E hr h => ?_)
  · obtain ⟨_, _, _, _, rfl, _⟩ := h
    rfl
  · obtain ⟨l, as, ps, c, rfl, hl, hp, hn, ok, bad⟩ := h
    refine ⟨_, (pss_cons (ps_set (i := 2) sc_linear.nd rfl (by first | exact Or.inl rfl | exact Or.inr rfl) pe_dnewK) (pss_cons (ps_for (passes_of rfl) rfl (piL K (pv 0)) (pg_tup (n := 2) rfl (pgs_cons (pg_name (i := 3) sc_linear.nd rfl (by first | exact Or.inl rfl | exact Or.inr rfl)) (pgs_cons (pg_name (i := 4) sc_linear.nd rfl (by first | exact Or.inl rfl | exact Or.inr rfl)) pgs_nil))) (pss_one (ps_asg (pe_op op_add (pe_dget2 (hu1 hr) (pv 2) (pv 3) pe_int ⟨by rfl, by rfl, by rfl, by rfl⟩) (pv 4)) (pg_sub (pv 2) (pv 3) (set_dict (hu1 hr)))))) (pss_cons (ps_setLc (i := 5) (own := [("name", 3)]) (g := (gName 3)) (tt := _) rfl sc_linear.nd rfl rfl (sw_true rfl rfl rfl (by decide +kernel)) (piL K (pe_callB (call_sortedD rfl) (by rfl) z_sorted (by decide +kernel) (pa_cons (pv 2) pa_nil))) (blkOk_by (N := N_linear) (sc := C8.fnScope s_linear) (by decide +kernel)) (fun _ _ _ _ _ => (pg_name (i := 3) sc_linear.nd rfl (by first | exact Or.inl rfl | exact Or.inr rfl))) (fun _ _ _ _ _ => (pts_one (pt_cmpR (op_ne) (pe_dget (hu1 hr) (pv 2) (pv 3) (fun _ _ => rfl)) pe_int (nomark _)))) (fun _ _ _ _ _ => (pe_tup (pa_cons (pv 3) (pa_cons (pe_dget (hu1 hr) (pv 2) (pv 3) (fun _ _ => rfl)) pa_nil))))) (pss_cons (ps_setLc (i := 6) (own := [("pair", 7)]) (g := (gName 7)) (tt := tYes) rfl sc_linear.nd rfl rfl (sw_true rfl rfl rfl (by decide +kernel)) (piL K (pv 5)) (blkOk_by (N := N_linear) (sc := C8.fnScope s_linear) (by decide +kernel)) (fun _ _ _ _ _ => (pg_name (i := 7) sc_linear.nd rfl (by first | exact Or.inl rfl | exact Or.inr rfl))) (fun _ _ _ _ _ => pts_nil) (fun _ _ _ _ _ => (pe_ix (ixT K) (pv 7) pe_int (fun _ _ => rfl)))) (pss_cons (ps_if (pt_not (pt_val (pe_callB (allQ K) (by rfl) z_all (by decide +kernel) (pa_cons (pe_lc (own := [("number", 8)]) (g := (gName 8)) (tt := tYes) rfl sc_linear.nd (piL K (pe_lst (pa_cons (pv 1) (StX.pa_star (pv 6) pa_nil)))) (blkOk_by (N := N_linear) (sc := C8.fnScope s_linear) (by decide +kernel)) (fun _ _ _ _ _ => (pg_name (i := 8) sc_linear.nd rfl (by first | exact Or.inl rfl | exact Or.inr rfl))) (fun _ _ _ _ _ => pts_nil) (fun _ _ _ _ _ => (C8.pe_c c_in_range hr (by decide) (by rfl) (pa_cons (pv 8) pa_nil)))) pa_nil)))) (pss_one (ps_raise rfl (takes_of rfl rfl rfl rfl) (pmk_ex x_Oversized hr (by decide) (by rfl) (pa_cons pe_str pa_nil)))) pss_nil) (pss_one (ps_ret (pe_tup (pa_cons (pe_callTy (tupOf K) (by rfl) z_tuple (by decide +kernel) (pa_cons (pv 5) pa_nil)) (pa_cons (pv 1) pa_nil)))))))))), ?_⟩
    walk_at "rd"
    intro D hD
    have hlD : SqL K (L2.upd H D (.dK [])) l (as.map V.ref) := (same_upd hD).seq hl
    have hal := hp.len
    obtain ⟨sm, hsm⟩ : ∃ sm : Prs, sm = sums ps := ⟨_, rfl⟩
    obtain ⟨k1, k2, k3⟩ := sums_keys ps
    rw [← hsm] at k1 k2 k3
    refine ⟨⟨_, hlD⟩, for_listN (xs := as.map V.ref) (fun i σ H2 => ∃ n k, σ = [some (V.ref l), some (V.int c), some (V.ref D), n, k, none, none, none, none] ∧ H2 D = some (.dK ((sums (ps.take i)).map ent)) ∧ Same H H2) ?_ ?_ ?_ ?_⟩
    · exact ⟨none, none, rfl, upd_same, same_upd hD⟩
    · rintro i σ H2 hi ⟨n, k, rfl, h2, s2⟩
      exact s2.seq hl
    · rintro i x σ H2 N hx ⟨n, k, rfl, h2, s2⟩ hN
      obtain ⟨a, p, ha, rfl, hpi, hpa⟩ := (hp.same s2).at hx
      have hlen : (sums (ps.take i)).length ≤ 30 := Nat.le_trans (sums_keys _).2.2 (by rw [List.length_take]; omega)
      walk_at "rd"
      refine ⟨_, SqT.of hpa, rfl, _, _, rfl, _, _, rfl, rfl, .inl ⟨_, .inl h2⟩, _, DGet.k (k := Sum.inr p.1) h2, ?_⟩
      rw [val_ent, getD_int]
      refine ⟨_, rfl, _, rfl, _, DPut.k (k := Sum.inr p.1) h2 (by rw [List.length_map]; exact smallt (by omega)), ?_⟩
      refine hN _ _ ⟨_, _, rfl, ?_, Dw.Same.new s2 hD⟩
      rw [upd_same, put_ent, List.take_add_one, hpi]
      show _ = some (HO.dK ((sums (ps.take i ++ [p])).map ent))
      rw [sums_snoc]
      rfl
    · rintro σ H2 ⟨n, k, rfl, h2, s2⟩
      rw [List.length_map, hal, List.take_length, ← hsm] at h2
      walk_at "rd"
      refine ⟨_, .of h2, keys sm, by simp [keys, ent], by simp only [keys, List.length_map]; omega, fun ys Y hperm hsort hY => ?_⟩
      have hks : ∀ z ∈ ys, ∃ v, look sm z = some v := fun z hz => look_some (hperm.mem_iff.mp hz)
      have hyl : ys.length ≤ 30 := by
        rw [hperm.length_eq]
        simp only [keys, List.length_map]
        omega
      have h2Y : (upd H2 Y (.lst (ys.map V.str))) D = some (.dK (sm.map ent)) := (same_upd hY) _ _ h2
      have s2Y : Same H (upd H2 Y (.lst (ys.map V.str))) := s2.trans (same_upd hY)
      refine ⟨⟨_, SqL.of upd_same⟩, fun G hG => ?_⟩
      obtain ⟨HY, hHY⟩ : ∃ HY, HY = upd H2 Y (.lst (ys.map V.str)) := ⟨_, rfl⟩
      have hYY : HY Y = some (.lst (ys.map V.str)) := by rw [hHY, upd_same]
      rw [← hHY] at h2Y s2Y hG ⊢
      obtain ⟨F, hF⟩ : ∃ F : Str → Str × Int, F = fun z => (z, (look sm z).getD 0) := ⟨_, rfl⟩
      refine lc_listN (xs := ys.map V.str) (fun i H4 => ∃ bs : List Addr, H4 G = some (.lst (bs.map V.ref)) ∧ PrsAt H4 bs (((ys.take i).map F).filter fun p => decide (p.2 ≠ 0)) ∧ bs.length ≤ i ∧ Same HY H4) ?_ ?_ ?_ ?_
      · exact ⟨[], upd_same, trivial, Nat.le_refl _, same_upd hG⟩
      · rintro i H4 _ ⟨bs, h4, p4, b4, s4⟩
        exact SqL.of (s4 _ _ hYY)
      · rintro i x H4 N hx ⟨bs, h4, p4, b4, s4⟩ hN
        rw [List.getElem?_map] at hx
        obtain ⟨z, hz, rfl⟩ := Option.map_eq_some_iff.mp hx
        obtain ⟨v, hv⟩ := hks z (List.mem_of_getElem? hz)
        have hil := (List.getElem?_eq_some_iff.mp hz).1
        have hget : DGet H4 D (.str z) (some (.int v)) := by
          have e := DGet.k (k := Sum.inr z) (s4 _ _ h2Y)
          rw [val_ent, hv] at e
          exact e
        walk_at "rd"
        have htk : (((ys.take (i + 1)).map F).filter fun p => decide (p.2 ≠ 0)) = (((ys.take i).map F).filter fun p => decide (p.2 ≠ 0)) ++ (if v = 0 then [] else [(z, v)]) := by
          rw [List.take_add_one, hz, List.map_append, List.filter_append]
          congr 1
          have e : F z = (z, v) := by rw [hF]; simp [hv]
          show ([F z].filter fun p => decide (p.2 ≠ 0)) = _
          rw [e]
          by_cases h0 : v = 0
          · rw [if_pos h0]; simp [h0]
          · rw [if_neg h0]; simp [h0]
        refine ⟨.int v, hget, rfl, ite2 (fun h0 => ?_) (fun h0 => ?_)⟩
        · rw [if_pos (V.int.inj h0), List.append_nil] at htk
          exact hN _ ⟨bs, h4, by rw [htk]; exact p4, by omega, s4⟩
        · rw [if_neg (fun e => h0 (by rw [e]))] at htk
          refine ⟨.int v, hget, by decide, fun T hT => ⟨_, (same_upd hT) _ _ h4, smallt (by rw [List.length_map]; omega), hN _ ⟨bs ++ [T], ?_, ?_, ?_, ?_⟩⟩⟩
          · rw [upd_same, List.map_append]
            rfl
          · have hTG : T ≠ G := (ne_of_none h4 hT).symm
            rw [htk]
            refine PrsAt.snoc (PrsAt.keep ?_ But.upd (p4.same (same_upd hT))) ?_
            · intro x y e
              rw [(same_upd hT) _ _ h4] at e
              cases e
            · rw [upd_ne hTG, upd_same]
          · rw [List.length_append]
            exact Nat.succ_le_succ b4
          · exact Dw.Same.new (s4.trans (same_upd hT)) hG
      · rintro H4 ⟨bs, h4, p4, b4, s4⟩
        rw [List.length_map, List.take_length] at p4
        rw [List.length_map] at b4
        have hlin : ((ys.map F).filter fun p => decide (p.2 ≠ 0)) = lin ps := by
          have e := srt_of hperm hsort
          unfold lin
          rw [← hsm, ← e, hF]
        rw [hlin] at p4
        have hbl := p4.len
        refine ⟨⟨_, SqL.of h4⟩, fun G2 hG2 => ?_⟩
        refine lc_listN (xs := bs.map V.ref) (fun i H5 => H5 G2 = some (.lst (((lin ps).take i).map fun p => V.int p.2)) ∧ Same H4 H5) ?_ ?_ ?_ ?_
        · exact ⟨upd_same, same_upd hG2⟩
        · rintro i H5 _ ⟨_, s5⟩
          exact SqL.of (s5 _ _ h4)
        · rintro i x H5 N hx ⟨h5, s5⟩ hN
          obtain ⟨a, p, ha, rfl, hpi, hpa⟩ := (p4.same s5).at hx
          walk_at "rd"
          refine ⟨_, SqT.of hpa, _, atI_nat (j := 1) rfl, _, h5, smallt (by rw [List.length_map, List.length_take]; omega), hN _ ⟨?_, Dw.Same.new s5 hG2⟩⟩
          rw [upd_same, List.take_add_one, hpi, List.map_append]
          rfl
        · rintro H5 ⟨h5, s5⟩
          rw [List.length_map, hbl, List.take_length] at h5
          refine ⟨_, .inr (SqL.of h5), by rw [List.length_map]; exact small (by omega), fun R hR => ⟨⟨_, SqL.of upd_same⟩, fun G3 hG3 => ?_⟩⟩
          obtain ⟨L, hL⟩ : ∃ L : List Int, L = c :: (lin ps).map (·.2) := ⟨_, rfl⟩
          have hLv : (V.int c :: (lin ps).map fun p => V.int p.2) = L.map V.int := by
            rw [hL, List.map_cons, List.map_map]
            rfl
          have hLl : L.length ≤ 40 := by
            rw [hL, List.length_cons, List.length_map]
            omega
          rw [hLv] at hG3 ⊢
          have sR : Same H (upd H5 R (.lst (L.map V.int))) := ((s2Y.trans s4).trans s5).trans (same_upd hR)
          obtain ⟨HR, hHR⟩ : ∃ HR, HR = upd H5 R (.lst (L.map V.int)) := ⟨_, rfl⟩
          have hRR : HR R = some (.lst (L.map V.int)) := by rw [hHR, upd_same]
          have sR4 : Same H4 HR := by
            rw [hHR]
            exact s5.trans (same_upd hR)
          rw [← hHR] at hG3 sR ⊢
          refine lc_listN (xs := L.map V.int) (fun i H6 => H6 G3 = some (.lst (((L.take i).map okC).map V.bl)) ∧ Same HR H6) ?_ ?_ ?_ ?_
          · exact ⟨upd_same, same_upd hG3⟩
          · rintro i H6 _ ⟨_, s6⟩
            exact SqL.of (s6 _ _ hRR)
          · rintro i x H6 N hx ⟨h6, s6⟩ hN
            rw [List.getElem?_map] at hx
            obtain ⟨j, hj, rfl⟩ := Option.map_eq_some_iff.mp hx
            walk_at "rd"
            refine ⟨j, rfl, _, h6, smallt (by rw [List.length_map, List.length_map, List.length_take]; omega), hN _ ⟨?_, Dw.Same.new s6 hG3⟩⟩
            rw [upd_same, List.take_add_one, hj, List.map_append, List.map_append]
            rfl
          · rintro H6 ⟨h6, s6⟩
            rw [List.length_map, List.take_length] at h6
            have hall : (L.map okC).all id = linOk ps c := by
              rw [List.all_map, hL]
              rfl
            have s46 : Same H4 H6 := sR4.trans s6
            refine ⟨_, SqL.of h6, ?_⟩
            rw [hall]
            refine ite2 (fun hb => ⟨by decide, fun a ha => raise_rz ((bad hb).same (sR.trans s6)) ha⟩) (fun hb => ?_)
            have hb2 : linOk ps c = true := by
              cases e : linOk ps c with
              | true => rfl
              | false => exact absurd e hb
            refine ⟨_, .inl ⟨SqL.of (s46 _ _ h4), fun q hq => ⟨by decide, fun t ht => ok hb2 t _ (((sR.trans s6).trans (same_upd hq)).trans (same_upd ht)) ⟨q, bs, upd_same, (same_upd ht) _ _ upd_same, ((p4.same s46).same (same_upd hq)).same (same_upd ht)⟩⟩⟩⟩
abbrev LinEnd (CO : Addr) (ps : Prs) (c : Int) (H : Hp) (Q : VK) (E : XK) : Prop :=
  (linOk ps c = true → ∀ t H', Same H H' → TermAt H' t (lin ps) c → Q (.ref t) H') ∧ (linOk ps c = false → Rz CO "limit" (.str (S (cs "term"))) H E)
theorem linEnd_same {CO : Addr} {ps : Prs} {c : Int} {H H1 : Hp} {Q : VK} {E : XK} (h : LinEnd CO ps c H Q E) (e : Same H H1) : LinEnd CO ps c H1 Q E :=
  ⟨fun o t H' s x => h.1 o t H' (e.trans s) x, fun o => (h.2 o).same e⟩
def sp_plus (CO : Addr) : Sp := fun vs H Q E => ∃ (t1 t2 : Addr) (p1 p2 : Prs) (c1 c2 : Int), vs = [.ref t1, .ref t2] ∧ TermAt H t1 p1 c1 ∧ TermAt H t2 p2 c2 ∧ (p1 ++ p2).length ≤ 30 ∧ LinEnd CO (p1 ++ p2) (c1 + c2) H Q E
theorem c_plus {f : Addr} {fd : FuncData} (D : C8.Def K mg "plus" s_plus f fd) (b : Binds K fd ["one", "two"] []) {CO : Addr} (c_linear : CalX P w K mg base 3 "linear" (sp_linear K CO)) : CalX P w K mg base 4 "plus" (sp_plus CO) := by
  refine calX0 D b sc_plus (fun vs H Q E h => ?_) (fun cdv A outer s H vs Q E hr h => ?_)
  · obtain ⟨_, _, _, _, _, _, rfl, _⟩ := h
    rfl
  · obtain ⟨t1, t2, p1, p2, c1, c2, rfl, ⟨q1, a1, h1, g1, r1⟩, ⟨q2, a2, h2, g2, r2⟩, hn, ok⟩ := h
    refine ⟨_, (pss_one (ps_ret (pe_cx c_linear hr (by decide) (passes_call (takes_of rfl rfl rfl rfl) (fun _ _ _ _ h => h)) (by rfl) (pa_cons (pe_lst (StX.pa_star (pe_ix (ixT K) (pv 0) pe_int (fun _ _ => rfl)) (StX.pa_star (pe_ix (ixT K) (pv 1) pe_int (fun _ _ => rfl)) pa_nil))) (pa_cons (pe_op op_add (pe_ix (ixT K) (pv 0) pe_int (fun _ _ => rfl)) (pe_ix (ixT K) (pv 1) pe_int (fun _ _ => rfl))) pa_nil))))), ?_⟩
    walk_at "rd"
    have hl := (r1.append r2).len
    refine ⟨_, SqT.of h1, _, atI_nat (j := 0) rfl, q1, rfl, _, .inl (SqT.of g1), _, SqT.of h2, _, atI_nat (j := 0) rfl, q2, rfl, _, .inl (SqT.of g2), by rw [List.length_append, List.length_map, List.length_map]; exact small (by rw [List.length_append] at hl; omega), fun p hp => ?_⟩
    have sp := same_upd (o := .lst (a1.map V.ref ++ a2.map V.ref)) hp
    refine ⟨_, SqT.of (sp _ _ h1), _, atI_nat (j := 1) rfl, _, SqT.of (sp _ _ h2), _, atI_nat (j := 1) rfl, _, rfl, _, rfl, ?_⟩
    exact ⟨p, a1 ++ a2, p1 ++ p2, c1 + c2, rfl, by rw [List.map_append]; exact SqL.of upd_same, (r1.append r2).same sp, hn, linEnd_same ok sp⟩
def negP (p : Str × Int) : Str × Int := (p.1, -p.2)
def sp_minus (CO : Addr) : Sp := fun vs H Q E => ∃ (t1 t2 : Addr) (p1 p2 : Prs) (c1 c2 : Int), vs = [.ref t1, .ref t2] ∧ TermAt H t1 p1 c1 ∧ TermAt H t2 p2 c2 ∧ (p1 ++ p2.map negP).length ≤ 30 ∧ LinEnd CO (p1 ++ p2.map negP) (c1 - c2) H Q E
theorem c_minus {f : Addr} {fd : FuncData} (D : C8.Def K mg "minus" s_minus f fd) (b : Binds K fd ["one", "two"] []) {CO : Addr} (c_linear : CalX P w K mg base 3 "linear" (sp_linear K CO)) : CalX P w K mg base 4 "minus" (sp_minus CO) := by
  refine calX0 D b sc_minus (fun vs H Q E h => ?_) (fun cdv A outer s H vs Q E hr h => ?_)
  · obtain ⟨_, _, _, _, _, _, rfl, _⟩ := h
    rfl
  · obtain ⟨t1, t2, p1, p2, c1, c2, rfl, ⟨q1, a1, h1, g1, r1⟩, ⟨q2, a2, h2, g2, r2⟩, hn, ok⟩ := h
    refine ⟨_, (pss_cons (ps_setLc (i := 2) (own := [("name", 3), ("coefficient", 4)]) (g := (gTup K 2 (gCons (gName 3) (gCons (gName 4) gNil)))) (tt := tYes) rfl sc_minus.nd rfl rfl (sw_true rfl rfl rfl (by decide +kernel)) (pi_tup (pe_ix (ixT K) (pv 1) pe_int (fun _ _ => rfl))) (blkOk_by (N := N_minus) (sc := C8.fnScope s_minus) (by decide +kernel)) (fun _ _ _ _ _ => (pg_tup (n := 2) rfl (pgs_cons (pg_name (i := 3) sc_minus.nd rfl (Or.inl rfl)) (pgs_cons (pg_name (i := 4) sc_minus.nd rfl (Or.inl rfl)) pgs_nil)))) (fun _ _ _ _ _ => pts_nil) (fun _ _ _ _ _ => (pe_tup (pa_cons (pv 3) (pa_cons (pe_un un_neg (pv 4)) pa_nil))))) (pss_one (ps_ret (pe_cx c_linear hr (by decide) (passes_call (takes_of rfl rfl rfl rfl) (fun _ _ _ _ h => h)) (by rfl) (pa_cons (pe_lst (StX.pa_star (pe_ix (ixT K) (pv 0) pe_int (fun _ _ => rfl)) (StX.pa_star (pv 2) pa_nil))) (pa_cons (pe_op op_sub (pe_ix (ixT K) (pv 0) pe_int (fun _ _ => rfl)) (pe_ix (ixT K) (pv 1) pe_int (fun _ _ => rfl))) pa_nil)))))), ?_⟩
    walk_at "rd"
    have hn2 : p2.length ≤ 30 := by
      rw [List.length_append, List.length_map] at hn
      omega
    refine ⟨_, SqT.of h2, _, atI_nat (j := 0) rfl, q2, rfl, ⟨_, SqT.of g2⟩, fun D hD => ?_⟩
    refine lc_tupN (xs := a2.map V.ref) (fun i H5 => ∃ bs : List Addr, H5 D = some (.lst (bs.map V.ref)) ∧ PrsAt H5 bs ((p2.take i).map negP) ∧ Same H H5) ?_ ?_ ?_ ?_
    · exact ⟨[], upd_same, trivial, same_upd hD⟩
    · rintro i H5 _ ⟨bs, h5, p5, s5⟩
      exact SqT.of (s5 _ _ g2)
    · rintro i x H5 N hx ⟨bs, h5, p5, s5⟩ hN
      obtain ⟨a, p, ha, rfl, hpi, hpa⟩ := (r2.same s5).at hx
      have hil := (List.getElem?_eq_some_iff.mp hpi).1
      have hbl := p5.len
      rw [List.length_map, List.length_take] at hbl
      have fin : ∀ T, H5 T = none → (p9 : Str × Int) → p9 = negP p → ∃ acc, (upd H5 T (.tup [V.str p9.1, V.int p9.2])) D = some (.lst acc) ∧ acc.length < sizeLine ∧ N (upd (upd H5 T (.tup [V.str p9.1, V.int p9.2])) D (.lst (acc ++ [V.ref T]))) := by
        intro T hT p9 e2
        refine ⟨_, (same_upd hT) _ _ h5, smallt (by rw [List.length_map]; omega), hN _ ⟨bs ++ [T], ?_, ?_, Dw.Same.new (s5.trans (same_upd hT)) hD⟩⟩
        · rw [upd_same, List.map_append]
          rfl
        · have hTD : T ≠ D := (ne_of_none h5 hT).symm
          rw [List.take_add_one, hpi, List.map_append]
          refine PrsAt.snoc (PrsAt.keep ?_ But.upd (p5.same (same_upd hT))) ?_
          · intro x y e
            rw [(same_upd hT) _ _ h5] at e
            cases e
          · rw [upd_ne hTD, upd_same, e2]
      walk_at "rd"
      exact ⟨_, SqT.of hpa, rfl, _, _, rfl, _, _, rfl, rfl, _, rfl, by decide, fun T hT => fin T hT (negP p) rfl⟩
    · rintro H5 ⟨bs, h5, p5, s5⟩
      rw [List.length_map, r2.len, List.take_length] at p5
      refine ⟨_, SqT.of (s5 _ _ h1), _, atI_nat (j := 0) rfl, q1, rfl, _, .inl (SqT.of (s5 _ _ g1)), _, .inr (SqL.of h5), ?_, fun p hp => ?_⟩
      · have e1 := r1.len
        have e2 := p5.len
        rw [List.length_append] at hn
        rw [List.length_append, List.length_map, List.length_map]
        exact small (by omega)
      have sp := s5.trans (same_upd (o := .lst (a1.map V.ref ++ bs.map V.ref)) hp)
      refine ⟨_, SqT.of (sp _ _ h1), _, atI_nat (j := 1) rfl, _, SqT.of (sp _ _ h2), _, atI_nat (j := 1) rfl, _, rfl, _, rfl, ?_⟩
      exact ⟨p, a1 ++ bs, p1 ++ p2.map negP, c1 - c2, rfl, by rw [List.map_append]; exact SqL.of upd_same, (r1.same sp).append (p5.same (same_upd hp)), hn, linEnd_same ok sp⟩
def mulP (f : Int) (p : Str × Int) : Str × Int := (p.1, f * p.2)

end
end
section
local macro_rules | `(tactic| walk_at "rd") => `(tactic| simp only [tSeq, tNext, tAsg, gName, tRet, tRetN, tIfS, tDrop, tVar, tC, tOp, tUn, tTest, tCB, tCons, tNil, tB, tAnd, tOr, tNot, tAndV, tOrV, tNotV, tIf, tCall, tTup, tLst, tSl, tPart, tNoPart, tM0, tM1, tBM, tChain, tBreak, tCont, tNever, tAug, ipI, tPar, tyV_str,
  tFor_eq, tLc_eq, tMkO, tYes, wipe, ofStr_S, S_cat, one_S, len_S, S_iff, S_cps, Int.zero_add, gNil, gCons, gTup, gSub, iRng1, iRng2, iList, iTup, iStr, rI0, rI, rU, rEq, rNe, rIxL, rIxT, rIxS, Dw.rLen, rListOf, rTupOf, rNotB, rIsB, rMulS, rIn, rCat, rAppend, rCatA, rEqD, rNeD, C8.rSlX, tDGet, tDGet2, tDIn, tDNotIn, rSetD, rAll, rKIn, tBM0, rPop, rExtend, tAddT, rAddT, rSetT0, Dw.rSetL, rSortT, StX.tStar, tDNewK, tDisp, tPairs, L2.start, cxOf_K, cxOf_w, cxOf_prog,
  List.map_cons, List.map_nil, List.length_cons, List.length_nil, List.replicate, List.cons_append, List.nil_append, Nat.reduceAdd, Nat.reduceSub, Nat.zero_add, List.append_nil,
  List.set_cons_zero, List.set_cons_succ, List.getElem?_cons_zero, List.getElem?_cons_succ, Option.some.injEq, V.int.injEq, V.bl.injEq, V.ref.injEq, V.str.injEq, V.ty.injEq, List.cons.injEq, and_true, true_and, reduceCtorEq, false_and, exists_false, or_false, false_or, exists_eq_left, exists_eq_left', exists_eq', sw_S, an_S, exists_and_left, exists_const, exists_eq, decide_eq_true_eq, Bool.false_eq_true, if_true, if_false, Bool.not_eq_true', decide_eq_false_iff_not, Bool.not_true, Bool.not_false, ite_not, scal, and_false])
section
variable {P : Program} {w : World} {K : PySem.W.Frag} {mg : Str → Option Value} {base : Heap}
def subs : Fm → List Fm
  | .not a => [a]
  | .bin _ a b => [a, b]
  | .qf _ _ a => [a]
  | _ => []
def hdF : Fm → List Nat
  | .pow _ => cs "pow"
  | .word _ _ _ => cs "word"
  | .cmp k _ _ => kCmp k
  | .call _ _ => cs "call"
  | .not _ => cs "not"
  | .bin k _ _ => kBin k
  | .qf k _ _ => kQf k
theorem fm_hd {H : Hp} {t : Addr} {f : Fm} (h : FmAt H t f) : ∃ xs, H t = some (.tup (.str (S (hdF f)) :: xs)) := by
  cases f with
  | pow z => exact ⟨_, h⟩
  | word w z o => exact ⟨_, h⟩
  | cmp k ps c => obtain ⟨u, h1, _⟩ := h; exact ⟨_, h1⟩
  | call f zs => obtain ⟨u, h1, _⟩ := h; exact ⟨_, h1⟩
  | not a => obtain ⟨u, h1, _⟩ := h; exact ⟨_, h1⟩
  | bin k a b => obtain ⟨u, v, h1, _⟩ := h; exact ⟨_, h1⟩
  | qf k z a => obtain ⟨u, h1, _⟩ := h; exact ⟨_, h1⟩
def FmsAt (H : Hp) : List Addr → List Fm → Prop
  | [], [] => True
  | a :: as, f :: fs => FmAt H a f ∧ FmsAt H as fs
  | _, _ => False
def sp_parts : Sp := fun vs H Q _ => ∃ (t : Addr) (f : Fm), vs = [.ref t] ∧ FmAt H t f ∧ ∀ (l : Addr) (as : List Addr) H', Same H H' → H l = none → H' l = some (.lst (as.map V.ref)) → FmsAt H' as (subs f) → Q (.ref l) H'
theorem kBin_in : ∀ k : Fin 4, ¬ kBin k = cs "not" ∧ kBin k ∈ [cs "and", cs "or", cs "imp", cs "iff"] := by decide +kernel
theorem kQf_in : ∀ k : Bool, ¬ kQf k = cs "not" ∧ kQf k ∉ [cs "and", cs "or", cs "imp", cs "iff"] ∧ kQf k ∈ [cs "some", cs "all"] := by decide +kernel
theorem kCmp_in : ∀ k : Bool, ¬ kCmp k = cs "not" ∧ kCmp k ∉ [cs "and", cs "or", cs "imp", cs "iff"] ∧ kCmp k ∉ [cs "some", cs "all"] := by decide +kernel
theorem kOth_in : ∀ s ∈ [cs "pow", cs "word", cs "call"], ¬ s = cs "not" ∧ s ∉ [cs "and", cs "or", cs "imp", cs "iff"] ∧ s ∉ [cs "some", cs "all"] := by decide +kernel
theorem c_parts {f : Addr} {fd : FuncData} (D : C8.Def K mg "parts" s_parts f fd) (b : Binds K fd ["formula"] []) {aJ : Addr} (g_JOINTS : ∃ u, mg "JOINTS" = some u ∧ RelV (.ref aJ) u) (kJ : KTabl K w aJ [cs "and", cs "or", cs "imp", cs "iff"]) {aQ : Addr} (g_QUANTIFIERS : ∃ u, mg "QUANTIFIERS" = some u ∧ RelV (.ref aQ) u) (kQ : ∀ H, SqT K H aQ ([cs "some", cs "all"].map vS)) : C8.Cal P w K mg base 1 "parts" sp_parts [] := by
  refine C8.cal0 D b .nil sc_parts (fun vs H Q E h => ?_) (fun cdv A outer s H vs Q E hr h => ?_)
  · obtain ⟨_, _, rfl, _⟩ := h
    rfl
  · obtain ⟨t, f1, rfl, hf, ok⟩ := h
    refine ⟨_, (pss_cons (ps_set (i := 1) sc_parts.nd rfl (by first | exact Or.inl rfl | exact Or.inr rfl) (pe_ix (ixT K) (pv 0) pe_int (fun _ _ => rfl))) (pss_cons (ps_if (pt_cmpR (op_eq) (pv 1) pe_str (nomark _)) (pss_one (ps_ret (pe_lst (pa_cons (pe_ix (ixT K) (pv 0) pe_int (fun _ _ => rfl)) pa_nil)))) pss_nil) (pss_cons (ps_if (pt_cmpR op_kIn (pv 1) (C8.pe_gc (by rfl) g_JOINTS) (by with_unfolding_all rfl)) (pss_one (ps_ret (pe_lst (pa_cons (pe_ix (ixT K) (pv 0) pe_int (fun _ _ => rfl)) (pa_cons (pe_ix (ixT K) (pv 0) pe_int (fun _ _ => rfl)) pa_nil))))) pss_nil) (pss_cons (ps_if (pt_cmpR (inQ K) (pv 1) (C8.pe_gc (by rfl) g_QUANTIFIERS) (by with_unfolding_all rfl)) (pss_one (ps_ret (pe_lst (pa_cons (pe_ix (ixT K) (pv 0) pe_int (fun _ _ => rfl)) pa_nil)))) pss_nil) (pss_one (ps_ret (pe_lst pa_nil))))))), ?_⟩
    walk_at "rd"
    obtain ⟨xs, hx⟩ := fm_hd hf
    refine ⟨_, SqT.of hx, _, atI_nat (j := 0) rfl, ?_⟩
    refine ⟨rfl, ?_⟩
    obtain ⟨hd, hhd⟩ : ∃ hd, hd = hdF f1 := ⟨_, rfl⟩
    rw [← hhd]
    have no : ∀ s : List Nat, ¬ s = cs "not" → ¬ V.str (S s) = V.str (S (cs "not")) := fun s h e => h (S_inj (V.str.inj e))
    have last : ∀ s : List Nat, s ∉ [cs "and", cs "or", cs "imp", cs "iff"] → (R : Prop) → (R2 : Prop) → R2 → (if s ∈ [cs "and", cs "or", cs "imp", cs "iff"] then R else R2) := fun s h R R2 r => by
      rw [if_neg h]
      exact r
    have leaf : ∀ s : List Nat, s ∉ [cs "some", cs "all"] → subs f1 = [] → ∀ R : Prop, ∃ x, (SqL K H aQ x ∨ SqT K H aQ x) ∧ flatV (V.str (S s)) = true ∧ x.all flatV = true ∧
        if inV (V.str (S s)) x = true then R else 0 ≤ sizeLine ∧ ∀ (p : Addr), H p = none → Q (V.ref p) (upd H p (HO.lst [])) := fun s h hs R => by
      refine ⟨_, .inr (kQ _), rfl, flat_S _, ?_⟩
      rw [inV_S, if_neg (by simpa using h)]
      exact ⟨Nat.zero_le _, fun l hl => ok l [] _ (same_upd hl) hl upd_same (by rw [hs]; trivial)⟩
    have oth := kOth_in
    cases f1 with
    | not a =>
      obtain ⟨u, h1, h2⟩ := hf
      rw [if_pos (by rw [hhd]; rfl)]
      exact ⟨_, SqT.of h1, _, atI_nat (j := 1) rfl, by decide, fun l hl => ok l [u] _ (same_upd hl) hl upd_same ⟨h2.tups (Tups.same (same_upd hl)), trivial⟩⟩
    | bin k a b =>
      obtain ⟨u, v, h1, h2, h3⟩ := hf
      rw [if_neg (no _ (by rw [hhd]; exact (kBin_in k).1))]
      refine ⟨_, _, rfl, kJ, ?_⟩
      rw [if_pos (by rw [hhd]; exact (kBin_in k).2)]
      exact ⟨_, SqT.of h1, _, atI_nat (j := 1) rfl, _, SqT.of h1, _, atI_nat (j := 2) rfl, by decide, fun l hl => ok l [u, v] _ (same_upd hl) hl upd_same ⟨h2.tups (Tups.same (same_upd hl)), h3.tups (Tups.same (same_upd hl)), trivial⟩⟩
    | qf k z a =>
      obtain ⟨u, h1, h2⟩ := hf
      rw [if_neg (no _ (by rw [hhd]; exact (kQf_in k).1))]
      refine ⟨_, _, rfl, kJ, last _ (by rw [hhd]; exact (kQf_in k).2.1) _ _ ⟨_, .inr (kQ _), rfl, flat_S _, ?_⟩⟩
      rw [inV_S, if_pos (decide_eq_true (by rw [hhd]; exact (kQf_in k).2.2))]
      exact ⟨_, SqT.of h1, _, atI_nat (j := 2) rfl, by decide, fun l hl => ok l [u] _ (same_upd hl) hl upd_same ⟨h2.tups (Tups.same (same_upd hl)), trivial⟩⟩
    | pow z =>
      rw [if_neg (no _ (by rw [hhd]; exact (oth (cs "pow") (by simp)).1))]
      exact ⟨_, _, rfl, kJ, last _ (by rw [hhd]; exact (oth (cs "pow") (by simp)).2.1) _ _ (leaf _ (by rw [hhd]; exact (oth (cs "pow") (by simp)).2.2) rfl _)⟩
    | word w z o =>
      rw [if_neg (no _ (by rw [hhd]; exact (oth (cs "word") (by simp)).1))]
      exact ⟨_, _, rfl, kJ, last _ (by rw [hhd]; exact (oth (cs "word") (by simp)).2.1) _ _ (leaf _ (by rw [hhd]; exact (oth (cs "word") (by simp)).2.2) rfl _)⟩
    | call f zs =>
      rw [if_neg (no _ (by rw [hhd]; exact (oth (cs "call") (by simp)).1))]
      exact ⟨_, _, rfl, kJ, last _ (by rw [hhd]; exact (oth (cs "call") (by simp)).2.1) _ _ (leaf _ (by rw [hhd]; exact (oth (cs "call") (by simp)).2.2) rfl _)⟩
    | cmp k ps c =>
      rw [if_neg (no _ (by rw [hhd]; exact (kCmp_in k).1))]
      exact ⟨_, _, rfl, kJ, last _ (by rw [hhd]; exact (kCmp_in k).2.1) _ _ (leaf _ (by rw [hhd]; exact (kCmp_in k).2.2) rfl _)⟩

end
end
section
local macro_rules | `(tactic| walk_at "rd") => `(tactic| simp only [tSeq, tNext, tAsg, gName, tRet, tRetN, tIfS, tDrop, tVar, tC, tOp, tUn, tTest, tCB, tCons, tNil, tB, tAnd, tOr, tNot, tAndV, tOrV, tNotV, tIf, tCall, tTup, tLst, tSl, tPart, tNoPart, tM0, tM1, tBM, tChain, tBreak, tCont, tNever, tAug, ipI, tPar, tyV_str,
  tFor_eq, tLc_eq, tMkO, tYes, wipe, Int.zero_add, gNil, gCons, gTup, gSub, iRng1, iRng2, iList, iTup, iStr, rI0, rI, rU, rEq, rNe, rIxL, rIxT, rIxS, Dw.rLen, rListOf, rTupOf, rNotB, rIsB, rMulS, rIn, rCat, rAppend, rCatA, rEqD, rNeD, C8.rSlX, tDGet, Int.toNat_natCast, WE, iEnum, iRev, rSum, tFd, tFs, tFa_eq, L2.rAdd, tMake, tMakeS, tMeth, Dw.tMethS, tCallS, rSlL, rSlA, tDGet2, tDIn, tDNotIn, rSetD, rAll, rKIn, tBM0, rPop, rExtend, tAddT, rAddT, rSetT0, Dw.rSetL, rSortT, StX.tStar, tDNewK, tDisp, tPairs, L2.start, cxOf_K, cxOf_w, cxOf_prog,
  List.map_cons, List.map_nil, List.length_cons, List.length_nil, List.replicate, List.cons_append, List.nil_append, Nat.reduceAdd, Nat.reduceSub, Nat.zero_add, List.append_nil,
  List.set_cons_zero, List.set_cons_succ, List.getElem?_cons_zero, List.getElem?_cons_succ, Option.some.injEq, V.int.injEq, V.bl.injEq, V.ref.injEq, V.str.injEq, V.ty.injEq, List.cons.injEq, and_true, true_and, reduceCtorEq, false_and, exists_false, or_false, false_or, exists_eq_left, exists_eq_left', exists_eq', sw_S, an_S, exists_and_left, exists_const, exists_eq, decide_eq_true_eq, Bool.false_eq_true, if_true, if_false, Bool.not_eq_true', decide_eq_false_iff_not, Bool.not_true, Bool.not_false, ite_not, scal, and_false])
section
variable {P : Program} {w : World} {K : PySem.W.Frag} {mg : Str → Option Value} {base : Heap}
def sp_rinit (CR : Addr) : Sp := fun vs H Q _ => ∃ (r dx : Addr) (l0 : List Nat) (is : List Itm), vs = [.ref r, .str (S (l0 ++ iflat is))] ∧ H r = some (.ins CR dx []) ∧ Blank l0 ∧ Goods is ∧ is.length ≤ 4000 ∧ (l0 ++ iflat is).length ≤ 4000 ∧
  ∀ F H', But r H H' → RdAt CR F H' r (l0 ++ iflat is).length (tks l0.length is) → Q .non H'
theorem k_Reader {f : Addr} {fd : FuncData} {CR : Addr} (M : Mk K CR f) (hm : mg "Reader" = some (.ref CR)) (c_R : Cls K CR) (F : C8.Fun K "__init__" "Reader.__init__" s_Reader___init__ f fd) (b : Binds K fd ["self", "text"] []) (r_found : NoAttr K CR "found") (r_length : NoAttr K CR "length") (r_place : NoAttr K CR "place") (c_tokens : C8.Cal P w K mg base 5 "tokens" sp_tokens []) (z_len : mg "len" = none) : C8.Mak P w K mg base 6 "Reader" CR (sp_rinit CR) [] := by
  refine C8.mak0 M hm F b .nil sc_Reader___init__ (fun vs H Q E h => ?_) (fun cdv A outer s H vs Q E hr h => ?_)
  · obtain ⟨_, _, _, _, rfl, _⟩ := h
    rfl
  · obtain ⟨r, dx, l0, is, rfl, hr0, hb, hg, hl, hl4, ok⟩ := h
    refine ⟨_, (pss_cons (ps_fldK K (pv 0) (C8.pe_c c_tokens hr (by decide) (by rfl) (pa_cons (pv 1) pa_nil)) (by rfl)) (pss_cons (ps_fldK K (pv 0) (pe_callB call_len_str (by rfl) z_len PySem.boot_len (pa_cons (pv 1) pa_nil)) (by rfl)) (pss_one (ps_fldK K (pv 0) pe_int (by rfl))))), ?_⟩
    walk_at "rd"
    refine ⟨l0, is, rfl, hb, hg, hl, hl4, fun F as H1 s1 hF hF1 htk => ?_⟩
    have nF : F ≠ r := (ne_of_none hr0 hF).symm
    have hr1 := s1 _ _ hr0
    refine flds_of c_R r_found hr1 (by decide) ?_
    obtain ⟨H2, hH2⟩ : ∃ H2, H2 = upd H1 r (.ins CR dx (putF "found" (.ref F) [])) := ⟨_, rfl⟩
    rw [← show H2 = upd H1 r (.ins CR dx (putF (Str.ofString "found") (.ref F) [])) from hH2]
    have b2 : But r H1 H2 := hH2 ▸ But.upd
    have hr2 : H2 r = some (.ins CR dx (putF "found" (.ref F) [])) := by rw [hH2, upd_same]
    walk_at "rd"
    refine ⟨by rw [len_S]; exact small (by omega), ?_⟩
    refine flds_of c_R r_length hr2 (by rw [show (putF "found" (V.ref F) []).length = 1 from rfl]; decide) ?_
    obtain ⟨H3, hH3⟩ : ∃ H3, H3 = upd H2 r (.ins CR dx (putF "length" (.int ((l0 ++ iflat is).length : Nat)) (putF "found" (.ref F) []))) := ⟨_, rfl⟩
    rw [len_S]
    rw [← show H3 = upd H2 r (.ins CR dx (putF (Str.ofString "length") (.int ((l0 ++ iflat is).length : Nat)) (putF "found" (.ref F) []))) from hH3]
    have b3 : But r H2 H3 := hH3 ▸ But.upd
    have hr3 : H3 r = some (.ins CR dx (putF "length" (.int ((l0 ++ iflat is).length : Nat)) (putF "found" (.ref F) []))) := by rw [hH3, upd_same]
    walk_at "rd"
    refine flds_of c_R r_place hr3 (by have e : (putF "length" (V.int ((l0 ++ iflat is).length : Nat)) (putF "found" (V.ref F) [])).length = 2 := by simp only [putF, kfl.1, if_false]; rfl
                                       rw [e]; decide) ?_
    have bA : But r H1 _ := (b2.trans b3).trans (But.upd (o := .ins CR dx (rflds F (l0 ++ iflat is).length 0)))
    refine ok F _ ((But.of s1).trans bA) (RdAt.made (T := tks l0.length is) upd_same (bA _ _ nF hF1) ((tks_at hg htk).tups (Tups.but bA hr1 (fun _ z => by cases z))) (by rw [tks_len]; omega))
def sp_isdone (CR : Addr) : Sp := fun vs H Q _ => ∃ r F len ts, vs = [.ref r] ∧ RdAt CR F H r len ts ∧ Q (.bl ts.isEmpty) H
theorem m_Reader_is_done {f : Addr} {fd : FuncData} {CR : Addr} (c_R : Cls K CR) (me : Meth K CR "is_done" f) (F : C8.Fun K "is_done" "Reader.is_done" s_Reader_is_done f fd) (b : Binds K fd ["self"] []) (r_found : NoAttr K CR "found") (r_length : NoAttr K CR "length") (r_place : NoAttr K CR "place") (z_len : mg "len" = none) : C8.Met P w K mg base 1 CR "is_done" (sp_isdone CR) [] := by
  refine C8.met0 c_R me F b sc_Reader_is_done (fun vs H Q E h => ?_) (fun cdv A outer s H vs Q E hr h => ?_)
  · obtain ⟨_, _, _, _, rfl, _⟩ := h
    rfl
  · obtain ⟨r, F, len, ts, rfl, hr0, ok⟩ := h
    refine ⟨_, (pss_one (ps_ret (pe_cmpR (op_eq) (pe_fd K (pv 0) (by rfl)) (pe_callB (lenS K) (by rfl) z_len PySem.boot_len (pa_cons (pe_fd K (pv 0) (by rfl)) pa_nil)) (nomark _)))), ?_⟩
    walk_at "rd"
    obtain ⟨dx, as, T, i, h1, h2, h3, h4, h5, h6⟩ := hr0.ex
    refine fld_of c_R r_place h1 (rf_p _ _ _) ?_
    refine fld_of c_R r_found h1 (rf_f _ _ _) ⟨_, rfl, _, .inl (SqL.of h2), rfl, ?_⟩
    rw [List.length_map, h3.len]
    have e : ts.isEmpty = decide (V.int (i : Nat) = V.int (T.length : Nat)) := by
      cases ts with
      | nil =>
        have := drop_nil h4
        rw [show T.length = i by omega]
        simp
      | cons t rr =>
        have := (drop_cons h4).2.2
        exact (decide_eq_false fun z => by have := V.int.inj z; omega).symm
    rw [← e]
    exact ok
def sp_spot (CR : Addr) : Sp := fun vs H Q _ => ∃ r F len ts, vs = [.ref r] ∧ RdAt CR F H r len ts ∧ Q (.int (spotM len ts : Nat)) H
theorem m_Reader_spot {f : Addr} {fd : FuncData} {CR : Addr} (c_R : Cls K CR) (me : Meth K CR "spot" f) (F : C8.Fun K "spot" "Reader.spot" s_Reader_spot f fd) (b : Binds K fd ["self"] []) (r_found : NoAttr K CR "found") (r_length : NoAttr K CR "length") (r_place : NoAttr K CR "place") (m_Reader_is_done : C8.Met P w K mg base 1 CR "is_done" (sp_isdone CR) []) : C8.Met P w K mg base 2 CR "spot" (sp_spot CR) [] := by
  refine C8.met0 c_R me F b sc_Reader_spot (fun vs H Q E h => ?_) (fun cdv A outer s H vs Q E hr h => ?_)
  · obtain ⟨_, _, _, _, rfl, _⟩ := h
    rfl
  · obtain ⟨r, F, len, ts, rfl, hr0, ok⟩ := h
    refine ⟨_, (pss_one (ps_ret (pe_ifExp (pt_val (C8.pe_mt0 m_Reader_is_done hr (by decide) (pv 0))) (pe_fd K (pv 0) (by rfl)) (pe_ix (ixT K) (pe_ix (ixL K) (pe_fd K (pv 0) (by rfl)) (pe_fd K (pv 0) (by rfl)) (fun _ _ => rfl)) pe_int (fun _ _ => rfl))))), ?_⟩
    walk_at "rd"
    obtain ⟨dx, as, T, i, h1, h2, h3, h4, h5, h6⟩ := hr0.ex
    refine ⟨_, _, h1, rf_no _ _ _ (by decide +kernel) (by decide +kernel) (by decide +kernel), r, F, len, ts, rfl, hr0, _, rfl, ?_⟩
    cases ts with
    | nil =>
      rw [if_pos (by rfl)]
      exact fld_of c_R r_length h1 (rf_l _ _ _) ok
    | cons t rr =>
      obtain ⟨e1, e2, e3⟩ := drop_cons h4
      obtain ⟨a, ha, hat⟩ := h3.at_ e1
      rw [if_neg (by simp)]
      exact fld_of c_R r_found h1 (rf_f _ _ _) (fld_of c_R r_place h1 (rf_p _ _ _) ⟨_, rfl, _, _, rfl, SqL.of h2, _, at_map ha, _, rfl, _, SqT.of hat, _, atI_nat (j := 2) rfl, ok⟩)
def sp_haskind (CR : Addr) : Sp := fun vs H Q _ => ∃ r F k len ts, vs = [.ref r, .str (S k)] ∧ RdAt CR F H r len ts ∧ Q (.bl (kindM k ts)) H
theorem m_Reader_has_kind {f : Addr} {fd : FuncData} {CR : Addr} (c_R : Cls K CR) (me : Meth K CR "has_kind" f) (F : C8.Fun K "has_kind" "Reader.has_kind" s_Reader_has_kind f fd) (b : Binds K fd ["self", "kind"] []) (r_found : NoAttr K CR "found") (r_length : NoAttr K CR "length") (r_place : NoAttr K CR "place") (m_Reader_is_done : C8.Met P w K mg base 1 CR "is_done" (sp_isdone CR) []) : C8.Met P w K mg base 2 CR "has_kind" (sp_haskind CR) [] := by
  refine C8.met0 c_R me F b sc_Reader_has_kind (fun vs H Q E h => ?_) (fun cdv A outer s H vs Q E hr h => ?_)
  · obtain ⟨_, _, _, _, _, rfl, _⟩ := h
    rfl
  · obtain ⟨r, F, k, len, ts, rfl, hr0, ok⟩ := h
    refine ⟨_, (pss_one (ps_ret (pe_and (pe_not (C8.pe_mt0 m_Reader_is_done hr (by decide) (pv 0))) (pe_one (pe_cmpR (op_eq) (pe_ix (ixT K) (pe_ix (ixL K) (pe_fd K (pv 0) (by rfl)) (pe_fd K (pv 0) (by rfl)) (fun _ _ => rfl)) pe_int (fun _ _ => rfl)) (pv 1) (nomark _)))))), ?_⟩
    walk_at "rd"
    obtain ⟨dx, as, T, i, h1, h2, h3, h4, h5, h6⟩ := hr0.ex
    refine ⟨_, _, h1, rf_no _ _ _ (by decide +kernel) (by decide +kernel) (by decide +kernel), r, F, len, ts, rfl, hr0, _, rfl, ?_⟩
    cases ts with
    | nil =>
      rw [if_neg (by decide)]
      exact ok
    | cons t rr =>
      obtain ⟨e1, e2, e3⟩ := drop_cons h4
      obtain ⟨a, ha, hat⟩ := h3.at_ e1
      rw [if_pos (by rfl)]
      refine fld_of c_R r_found h1 (rf_f _ _ _) (fld_of c_R r_place h1 (rf_p _ _ _) ⟨_, rfl, _, _, rfl, SqL.of h2, _, at_map ha, _, rfl, _, SqT.of hat, _, atI_nat (j := 0) rfl, rfl, ?_⟩)
      have e : decide (V.str (S t.x.kind) = V.str (S k)) = decide (t.x.kind = k) := by
        by_cases q : t.x.kind = k
        · rw [q]; simp
        · rw [decide_eq_false q, decide_eq_false fun z => q (S_inj (V.str.inj z))]
      rw [e]
      exact ok

end
end
section
local macro_rules | `(tactic| walk_at "rd") => `(tactic| simp only [tSeq, tNext, tAsg, gName, tRet, tRetN, tIfS, tDrop, tVar, tC, tOp, tUn, tTest, tCB, tCons, tNil, tB, tAnd, tOr, tNot, tAndV, tOrV, tNotV, tIf, tCall, tTup, tLst, tSl, tPart, tNoPart, tM0, tM1, tBM, tChain, tBreak, tCont, tNever, tAug, ipI, tPar, tyV_str,
  tFor_eq, tLc_eq, tMkO, tYes, wipe, Int.zero_add, gNil, gCons, gTup, gSub, iRng1, iRng2, iList, iTup, iStr, rI0, rI, rU, rEq, rNe, rIxL, rIxT, rIxS, Dw.rLen, rListOf, rTupOf, rNotB, rIsB, rMulS, rIn, rCat, rAppend, rCatA, rEqD, rNeD, C8.rSlX, tDGet, Int.toNat_natCast, WE, iEnum, iRev, rSum, tFd, tFs, tFa_eq, L2.rAdd, tMake, tMakeS, tMeth, Dw.tMethS, tCallS, rSlL, rSlA, tDGet2, tDIn, tDNotIn, rSetD, rAll, rKIn, tBM0, rPop, rExtend, tAddT, rAddT, rSetT0, Dw.rSetL, rSortT, StX.tStar, tDNewK, tDisp, tPairs, L2.start, cxOf_K, cxOf_w, cxOf_prog,
  List.map_cons, List.map_nil, List.length_cons, List.length_nil, List.replicate, List.cons_append, List.nil_append, Nat.reduceAdd, Nat.reduceSub, Nat.zero_add, List.append_nil,
  List.set_cons_zero, List.set_cons_succ, List.getElem?_cons_zero, List.getElem?_cons_succ, Option.some.injEq, V.int.injEq, V.bl.injEq, V.ref.injEq, V.str.injEq, V.ty.injEq, List.cons.injEq, and_true, true_and, reduceCtorEq, false_and, exists_false, or_false, false_or, exists_eq_left, exists_eq_left', exists_eq', sw_S, an_S, exists_and_left, exists_const, exists_eq, decide_eq_true_eq, Bool.false_eq_true, if_true, if_false, Bool.not_eq_true', decide_eq_false_iff_not, Bool.not_true, Bool.not_false, ite_not, scal, and_false])
section
variable {P : Program} {w : World} {K : PySem.W.Frag} {mg : Str → Option Value} {base : Heap}
def sp_sees (CR : Addr) : Sp := fun vs H Q _ => ∃ (r F : Addr) (l : List Nat) (n len : Nat) (ts : List Tk), vs = [.ref r, .str (S l), .int (n : Nat)] ∧ n ≤ 1 ∧ RdAt CR F H r len ts ∧ Q (.bl (seesM l (ts.drop n))) H
theorem f_sees {f : Addr} {fd : FuncData} {CR : Addr} (c_R : Cls K CR) (F : L2.FunD K "sees" "Reader.sees" (C8.fnArgs s_Reader_sees) (C8.fnBody s_Reader_sees) (C8.fnScope s_Reader_sees) [.int 0] [] f fd) (r_found : NoAttr K CR "found") (r_length : NoAttr K CR "length") (r_place : NoAttr K CR "place") (z_len : mg "len" = none) : FnOk P w K mg base C8.CX0 1 f fd ["self", "value", "ahead"] (sp_sees CR) := by
  refine F.ok sc_Reader_sees (fun vs H Q E h => ?_) (fun cdv A outer s H vs Q E hr h => ?_)
  · obtain ⟨_, _, _, _, _, _, rfl, _⟩ := h
    rfl
  · obtain ⟨r, F3, l, n, len, ts, rfl, hn1, hr0, ok⟩ := h
    refine ⟨_, (pss_cons (ps_set (i := 3) sc_Reader_sees.nd rfl (by first | exact Or.inl rfl | exact Or.inr rfl) (pe_op op_add (pe_fd K (pv 0) (by rfl)) (pv 2))) (pss_one (ps_ret (pe_and (pe_cmpR (op_lt) (pv 3) (pe_callB (lenS K) (by rfl) z_len PySem.boot_len (pa_cons (pe_fd K (pv 0) (by rfl)) pa_nil)) (nomark _)) (pe_one (pe_cmpR (op_eq) (pe_ix (ixT K) (pe_ix (ixL K) (pe_fd K (pv 0) (by rfl)) (pv 3) (fun _ _ => rfl)) pe_int (fun _ _ => rfl)) (pv 1) (nomark _))))))), ?_⟩
    walk_at "rd"
    obtain ⟨dx, as, T, i, h1, h2, h3, h4, h5, h6⟩ := hr0.ex
    refine fld_of c_R r_place h1 (rf_p _ _ _) ⟨(i : Nat), rfl, ?_⟩
    refine fld_of c_R r_found h1 (rf_f _ _ _) ⟨_, rfl, _, .inl (SqL.of h2), ?_⟩
    rw [List.length_map, h3.len]
    have e : ts.drop n = T.drop (i + n) := by rw [← h4, List.drop_drop]
    rw [e] at ok
    cases hd : T.drop (i + n) with
    | nil =>
      have := drop_nil hd
      rw [if_neg (by omega)]
      rw [hd] at ok
      exact ok
    | cons t rr =>
      obtain ⟨e1, e2, e3⟩ := drop_cons hd
      obtain ⟨a, ha, hat⟩ := h3.at_ e1
      rw [if_pos (by omega)]
      rw [hd] at ok
      have hix : ((i : Nat) : Int) + (n : Nat) = ((i + n : Nat) : Int) := by omega
      rw [hix]
      refine fld_of c_R r_found h1 (rf_f _ _ _) ⟨_, rfl, _, SqL.of h2, _, at_map ha, _, rfl, _, SqT.of hat, _, atI_nat (j := 1) rfl, ?_⟩
      refine ⟨?_, ?_⟩
      · cases t.x <;> rfl
      · rw [Tv.is_val]
        exact ok
theorem m_sees {f : Addr} {fd : FuncData} {CR : Addr} (c_R : Cls K CR) (me : Meth K CR "sees" f) (F : L2.FunD K "sees" "Reader.sees" (C8.fnArgs s_Reader_sees) (C8.fnBody s_Reader_sees) (C8.fnScope s_Reader_sees) [.int 0] [] f fd) (r_found : NoAttr K CR "found") (r_length : NoAttr K CR "length") (r_place : NoAttr K CR "place") (z_len : mg "len" = none) :
    C8.Met P w K mg base 1 CR "sees" (sp_sees CR) [.int 0] ∧ C8.Met P w K mg base 1 CR "sees" (sp_sees CR) [] := by
  have h := f_sees (P := P) (w := w) (mg := mg) (base := base) c_R F r_found r_length r_place z_len
  obtain ⟨d1, v1, b1⟩ := F.binds1 (ps := ["self", "value", "ahead"]) 2 0 (by simp) rfl (fun T kV doc pm an cdv ct us its h1 h2 => by
    match us, its, h1, h2 with
    | [_, _], [_], _, _ => exact ⟨_, rfl, rfl⟩)
  obtain ⟨d2, v2, b2⟩ := F.binds1 (ps := ["self", "value", "ahead"]) 3 1 (by simp) rfl (fun T kV doc pm an cdv ct us its h1 h2 => by
    match us, its, h1, h2 with
    | [_, _, _], [_], _, _ => exact ⟨_, rfl, rfl⟩)
  exact ⟨⟨f, fd, _, d1, c_R, me, h, b1, v1⟩, ⟨f, fd, _, d2, c_R, me, h, b2, v2⟩⟩
def sp_passes (CR : Addr) : Sp := fun vs H Q _ => ∃ (r F : Addr) (l : List Nat) (len : Nat) (ts : List Tk), vs = [.ref r, .str (S l)] ∧ RdAt CR F H r len ts ∧ (seesM l ts = true → ∀ H', But r H H' → RdAt CR F H' r len ts.tail → Q (.bl true) H') ∧ (seesM l ts = false → Q (.bl false) H)
theorem RdAt.step {CR : Addr} {H : Hp} {r dx F : Addr} {len i : Nat} {as : List Addr} {T : List Tk} {t : Tk} {rr : List Tk} (h1 : H r = some (.ins CR dx (rflds F len i))) (h2 : H F = some (.lst (as.map V.ref))) (h3 : TkAt H as T) (h4 : T.drop i = t :: rr) (h6 : T.length ≤ 5000) : RdAt CR F (upd H r (.ins CR dx (rflds F len (i + 1)))) r len rr := by
  obtain ⟨e1, e2, e3⟩ := drop_cons h4
  exact ⟨dx, as, T, i + 1, upd_same, by rw [upd_ne (ne_of h2 h1 (by intro z; cases z))]; exact h2, h3.tups (Tups.but But.upd h1 (fun _ z => by cases z)), e2, e3, h6⟩
theorem m_Reader_passes {f : Addr} {fd : FuncData} {CR : Addr} (c_R : Cls K CR) (me : Meth K CR "passes" f) (F : C8.Fun K "passes" "Reader.passes" s_Reader_passes f fd) (b : Binds K fd ["self", "value"] []) (r_found : NoAttr K CR "found") (r_length : NoAttr K CR "length") (r_place : NoAttr K CR "place") (m_Reader_sees : C8.Met P w K mg base 1 CR "sees" (sp_sees CR) [.int 0]) : C8.Met P w K mg base 2 CR "passes" (sp_passes CR) [] := by
  refine C8.met0 c_R me F b sc_Reader_passes (fun vs H Q E h => ?_) (fun cdv A outer s H vs Q E hr h => ?_)
  · obtain ⟨_, _, _, _, _, rfl, _⟩ := h
    rfl
  · obtain ⟨r, F, l, len, ts, rfl, hr0, ok1, ok2⟩ := h
    refine ⟨_, (pss_cons (ps_set (i := 2) sc_Reader_passes.nd rfl (by first | exact Or.inl rfl | exact Or.inr rfl) (C8.pe_mt m_Reader_sees hr (by decide) (pv 0) (pa_cons (pv 1) pa_nil))) (pss_cons (ps_if (pt_val (pv 2)) (pss_one (ps_faK K (pv 0) pe_int in_add)) pss_nil) (pss_one (ps_ret (pv 2))))), ?_⟩
    walk_at "rd"
    obtain ⟨dx, as, T, i, h1, h2, h3, h4, h5, h6⟩ := hr0.ex
    refine ⟨_, _, h1, rf_no _ _ _ (by decide +kernel) (by decide +kernel) (by decide +kernel), r, F, l, 0, len, ts, rfl, by decide, hr0, ?_⟩
    rw [show seesM l (List.drop 0 ts) = seesM l ts from rfl]
    refine ⟨_, rfl, ?_⟩
    cases hs : seesM l ts with
    | false =>
      rw [if_neg (by decide)]
      exact ok2 hs
    | true =>
      rw [if_pos rfl]
      cases ts with
      | nil => cases hs
      | cons t rr =>
        refine ⟨CR, dx, _, h1, c_R, r_place, _, rf_p _ _ _, _, rfl, dx, _, h1, by rw [rf_len]; decide, ?_⟩
        rw [rf_next]
        exact ok1 hs _ But.upd (RdAt.step h1 h2 h3 h4 h6)
def sp_skip (CR CM : Addr) : Sp := fun vs H Q E => ∃ (r F : Addr) (l : List Nat) (len : Nat) (ts : List Tk), vs = [.ref r, .str (S l)] ∧ RdAt CR F H r len ts ∧ (seesM l ts = true → ∀ H', But r H H' → RdAt CR F H' r len ts.tail → Q .non H') ∧ (seesM l ts = false → Rz CM "at" (.int (spotM len ts : Nat)) H E)
theorem m_Reader_skip {f : Addr} {fd : FuncData} {CR : Addr} (c_R : Cls K CR) (me : Meth K CR "skip" f) (F : C8.Fun K "skip" "Reader.skip" s_Reader_skip f fd) (b : Binds K fd ["self", "value"] []) (r_found : NoAttr K CR "found") (r_length : NoAttr K CR "length") (r_place : NoAttr K CR "place") {CM : Addr} (x_Malformed : ExF P w K mg base "Malformed" CM "at") (m_Reader_passes : C8.Met P w K mg base 2 CR "passes" (sp_passes CR) []) (m_Reader_spot : C8.Met P w K mg base 2 CR "spot" (sp_spot CR) []) : MetX P w K mg base 4 CR "skip" (sp_skip CR CM) := by
  refine metX0 c_R me F b sc_Reader_skip (fun vs H Q E h => ?_) (fun cdv A outer s H vs Q E hr h => ?_)
  · obtain ⟨_, _, _, _, _, rfl, _⟩ := h
    rfl
  · obtain ⟨r, F, l, len, ts, rfl, hr0, ok1, ok2⟩ := h
    refine ⟨_, (pss_one (ps_if (pt_not (pt_val (C8.pe_mt m_Reader_passes hr (by decide) (pv 0) (pa_cons (pv 1) pa_nil)))) (pss_one (ps_raise rfl (takes_of rfl rfl rfl rfl) (pmk_ex x_Malformed hr (by decide) (by rfl) (pa_cons (C8.pe_mt0 m_Reader_spot hr (by decide) (pv 0)) pa_nil)))) pss_nil)), ?_⟩
    walk_at "rd"
    obtain ⟨dx, as, T, i, h1, h2, h3, h4, h5, h6⟩ := hr0.ex
    refine ⟨_, _, h1, rf_no _ _ _ (by decide +kernel) (by decide +kernel) (by decide +kernel), r, F, l, len, ts, rfl, hr0, fun e H1 b1 hr1 => ?_, fun e => ?_⟩
    · refine ⟨_, rfl, ?_⟩
      rw [if_neg (by decide)]
      exact ok1 e H1 b1 hr1
    · refine ⟨_, rfl, ?_⟩
      rw [if_pos rfl]
      exact ⟨_, _, h1, rf_no _ _ _ (by decide +kernel) (by decide +kernel) (by decide +kernel), r, F, len, ts, rfl, hr0, by decide, fun a ha => raise_rz (ok2 e) ha⟩
def sp_rtake (CR CM : Addr) : Sp := fun vs H Q E => ∃ (r F : Addr) (k : List Nat) (len : Nat) (ts : List Tk), vs = [.ref r, .str (S k)] ∧ RdAt CR F H r len ts ∧ (∀ t rr, ts = t :: rr → t.x.kind = k → ∀ H', But r H H' → RdAt CR F H' r len rr → Q t.x.val H') ∧ (kindM k ts = false → Rz CM "at" (.int (spotM len ts : Nat)) H E)
theorem m_Reader_take {f : Addr} {fd : FuncData} {CR : Addr} (c_R : Cls K CR) (me : Meth K CR "take" f) (F : C8.Fun K "take" "Reader.take" s_Reader_take f fd) (b : Binds K fd ["self", "kind"] []) (r_found : NoAttr K CR "found") (r_length : NoAttr K CR "length") (r_place : NoAttr K CR "place") {CM : Addr} (x_Malformed : ExF P w K mg base "Malformed" CM "at") (m_Reader_has_kind : C8.Met P w K mg base 2 CR "has_kind" (sp_haskind CR) []) (m_Reader_spot : C8.Met P w K mg base 2 CR "spot" (sp_spot CR) []) : MetX P w K mg base 4 CR "take" (sp_rtake CR CM) := by
  refine metX0 c_R me F b sc_Reader_take (fun vs H Q E h => ?_) (fun cdv A outer s H vs Q E hr h => ?_)
  · obtain ⟨_, _, _, _, _, rfl, _⟩ := h
    rfl
  · obtain ⟨r, F, k, len, ts, rfl, hr0, ok1, ok2⟩ := h
    refine ⟨_, (pss_cons (ps_if (pt_not (pt_val (C8.pe_mt m_Reader_has_kind hr (by decide) (pv 0) (pa_cons (pv 1) pa_nil)))) (pss_one (ps_raise rfl (takes_of rfl rfl rfl rfl) (pmk_ex x_Malformed hr (by decide) (by rfl) (pa_cons (C8.pe_mt0 m_Reader_spot hr (by decide) (pv 0)) pa_nil)))) pss_nil) (pss_cons (ps_set (i := 2) sc_Reader_take.nd rfl (by first | exact Or.inl rfl | exact Or.inr rfl) (pe_ix (ixT K) (pe_ix (ixL K) (pe_fd K (pv 0) (by rfl)) (pe_fd K (pv 0) (by rfl)) (fun _ _ => rfl)) pe_int (fun _ _ => rfl))) (pss_cons (ps_faK K (pv 0) pe_int in_add) (pss_one (ps_ret (pv 2)))))), ?_⟩
    walk_at "rd"
    obtain ⟨dx, as, T, i, h1, h2, h3, h4, h5, h6⟩ := hr0.ex
    refine ⟨_, _, h1, rf_no _ _ _ (by decide +kernel) (by decide +kernel) (by decide +kernel), r, F, k, len, ts, rfl, hr0, ?_⟩
    refine ⟨_, rfl, ?_⟩
    cases hk : kindM k ts with
    | false =>
      rw [if_pos rfl]
      exact ⟨_, _, h1, rf_no _ _ _ (by decide +kernel) (by decide +kernel) (by decide +kernel), r, F, len, ts, rfl, hr0, by decide, fun a ha => raise_rz (ok2 hk) ha⟩
    | true =>
      rw [if_neg (by decide)]
      cases ts with
      | nil => cases hk
      | cons t rr =>
        obtain ⟨e1, e2, e3⟩ := drop_cons h4
        obtain ⟨a, ha, hat⟩ := h3.at_ e1
        refine fld_of c_R r_found h1 (rf_f _ _ _) (fld_of c_R r_place h1 (rf_p _ _ _) ⟨_, rfl, _, _, rfl, SqL.of h2, _, at_map ha, _, rfl, _, SqT.of hat, _, atI_nat (j := 1) rfl, CR, dx, _, h1, c_R, r_place, _, rf_p _ _ _, _, rfl, dx, _, h1, by rw [rf_len]; decide, ?_⟩)
        rw [rf_next]
        exact ok1 t rr rfl (of_decide_eq_true hk) _ But.upd (RdAt.step h1 h2 h3 h4 h6)

end
end
section
local macro_rules | `(tactic| walk_at "rd") => `(tactic| simp only [tSeq, tNext, tAsg, gName, tRet, tRetN, tIfS, tDrop, tVar, tC, tOp, tUn, tTest, tCB, tCons, tNil, tB, tAnd, tOr, tNot, tAndV, tOrV, tNotV, tIf, tCall, tTup, tLst, tSl, tPart, tNoPart, tM0, tM1, tBM, tChain, tBreak, tCont, tNever, tAug, ipI, tPar, tyV_str,
  tFor_eq, tLc_eq, tMkO, tYes, wipe, ofStr_S, S_cat, one_S, len_S, S_iff, S_cps, Int.zero_add, gNil, gCons, gTup, gSub, iRng1, iRng2, iList, iTup, iStr, rI0, rI, rU, rEq, rNe, rIxL, rIxT, rIxS, Dw.rLen, rListOf, rTupOf, rNotB, rIsB, rMulS, rIn, rCat, rAppend, rCatA, rEqD, rNeD, C8.rSlX, tDGet, Int.toNat_natCast, WE, iEnum, iRev, rSum, tFd, tFs, tFa_eq, L2.rAdd, tMake, tMakeS, tMeth, Dw.tMethS, tCallS, rSlL, rSlA, tDGet2, tDIn, tDNotIn, rSetD, rAll, rKIn, tBM0, rPop, rExtend, tAddT, rAddT, rSetT0, Dw.rSetL, rSortT, StX.tStar, tDNewK, tDisp, tPairs, L2.start, cxOf_K, cxOf_w, cxOf_prog,
  List.map_cons, List.map_nil, List.length_cons, List.length_nil, List.replicate, List.cons_append, List.nil_append, Nat.reduceAdd, Nat.reduceSub, Nat.zero_add, List.append_nil,
  List.set_cons_zero, List.set_cons_succ, List.getElem?_cons_zero, List.getElem?_cons_succ, Option.some.injEq, V.int.injEq, V.bl.injEq, V.ref.injEq, V.str.injEq, V.ty.injEq, List.cons.injEq, and_true, true_and, reduceCtorEq, false_and, exists_false, or_false, false_or, exists_eq_left, exists_eq_left', exists_eq', sw_S, an_S, exists_and_left, exists_const, exists_eq, decide_eq_true_eq, Bool.false_eq_true, if_true, if_false, Bool.not_eq_true', decide_eq_false_iff_not, Bool.not_true, Bool.not_false, ite_not, scal, and_false])
section
variable {P : Program} {w : World} {K : PySem.W.Frag} {mg : Str → Option Value} {base : Heap}
def spR {α : Type} (CR CM CO : Addr) (M : Nat → List Tk → Rs α) (At : Hp → V → α → Prop) : Sp := fun vs H Q E => ∃ r F len ts, vs = [.ref r] ∧ RdAt CR F H r len ts ∧ RRes CR CM CO F r len H Q E At (M len ts)
section
variable {α β : Type} {CR CM CO F r : Addr} {len : Nat} {ts : List Tk} {H : Hp} {Q Q1 : VK} {E : XK} {At : Hp → V → α → Prop} {At1 : Hp → V → β → Prop}
theorem nameB {k : List Nat → List Tk → Rs α} (hr : RdAt CR F H r len ts) (res : RRes CR CM CO F r len H Q E At ((takeName len ts).bind k)) (q : ∀ z ts2 H1, takeName len ts = .ok z ts2 → But r H H1 → RdAt CR F H1 r len ts2 → RRes CR CM CO F r len H1 Q E At (k z ts2) → Q1 (.str (S z)) H1) : sp_rtake CR CM [.ref r, .str (S (cs "name"))] H Q1 E :=
  ⟨r, F, _, len, ts, rfl, hr, take_name (res.bindI fun z ts2 v H1 e b1 hr1 hv res => by rw [hv]; exact q z ts2 H1 e b1 hr1 res)⟩
theorem wordB {k : List Nat → List Tk → Rs α} (hr : RdAt CR F H r len ts) (res : RRes CR CM CO F r len H Q E At ((takeWord len ts).bind k)) (q : ∀ z ts2 H1, takeWord len ts = .ok z ts2 → But r H H1 → RdAt CR F H1 r len ts2 → RRes CR CM CO F r len H1 Q E At (k z ts2) → Q1 (.str (S z)) H1) : sp_rtake CR CM [.ref r, .str (S (cs "word"))] H Q1 E :=
  ⟨r, F, _, len, ts, rfl, hr, take_word (res.bindI fun z ts2 v H1 e b1 hr1 hv res => by rw [hv]; exact q z ts2 H1 e b1 hr1 res)⟩
theorem resB {k : List Nat → List Tk → Rs α} (hr : RdAt CR F H r len ts) (res : RRes CR CM CO F r len H Q E At ((takeRes len ts).bind k)) (q : ∀ z ts2 H1, takeRes len ts = .ok z ts2 → But r H H1 → RdAt CR F H1 r len ts2 → RRes CR CM CO F r len H1 Q E At (k z ts2) → Q1 (.str (S z)) H1) : sp_rtake CR CM [.ref r, .str (S (cs "reserved"))] H Q1 E :=
  ⟨r, F, _, len, ts, rfl, hr, take_res (res.bindI fun z ts2 v H1 e b1 hr1 hv res => by rw [hv]; exact q z ts2 H1 e b1 hr1 res)⟩
theorem signB {k : List Nat → List Tk → Rs α} (hr : RdAt CR F H r len ts) (res : RRes CR CM CO F r len H Q E At ((takeSign len ts).bind k)) (q : ∀ z ts2 H1, takeSign len ts = .ok z ts2 → But r H H1 → RdAt CR F H1 r len ts2 → RRes CR CM CO F r len H1 Q E At (k z ts2) → Q1 (.str (S z)) H1) : sp_rtake CR CM [.ref r, .str (S (cs "sign"))] H Q1 E :=
  ⟨r, F, _, len, ts, rfl, hr, take_sign (res.bindI fun z ts2 v H1 e b1 hr1 hv res => by rw [hv]; exact q z ts2 H1 e b1 hr1 res)⟩
theorem numB {k : Nat → List Tk → Rs α} (hr : RdAt CR F H r len ts) (res : RRes CR CM CO F r len H Q E At ((takeNum len ts).bind k)) (q : ∀ n ts2 H1, takeNum len ts = .ok n ts2 → But r H H1 → RdAt CR F H1 r len ts2 → RRes CR CM CO F r len H1 Q E At (k n ts2) → Q1 (.int (n : Nat)) H1) : sp_rtake CR CM [.ref r, .str (S (cs "number"))] H Q1 E :=
  ⟨r, F, _, len, ts, rfl, hr, take_num (res.bindI fun z ts2 v H1 e b1 hr1 hv res => by rw [hv]; exact q z ts2 H1 e b1 hr1 res)⟩
theorem skipB {k : Unit → List Tk → Rs α} {l : List Nat} (hr : RdAt CR F H r len ts) (res : RRes CR CM CO F r len H Q E At ((skipM len l ts).bind k)) (q : ∀ ts2 H1, skipM len l ts = .ok () ts2 → But r H H1 → RdAt CR F H1 r len ts2 → RRes CR CM CO F r len H1 Q E At (k () ts2) → Q1 .non H1) : sp_skip CR CM [.ref r, .str (S l)] H Q1 E :=
  ⟨r, F, _, len, ts, rfl, hr, skip_of (res.bindI fun z ts2 v H1 e b1 hr1 hv res => by rw [hv]; exact q ts2 H1 e b1 hr1 res)⟩
theorem passB {l : List Nat} {E2 : XK} (hr : RdAt CR F H r len ts) (q1 : ∀ H1, seesM l ts = true → But r H H1 → RdAt CR F H1 r len ts.tail → Q1 (.bl true) H1) (q2 : seesM l ts = false → Q1 (.bl false) H) : sp_passes CR [.ref r, .str (S l)] H Q1 E2 :=
  ⟨r, F, l, len, ts, rfl, hr, fun e H1 b1 hr1 => q1 H1 e b1 hr1, q2⟩
theorem rdB {M : Nat → List Tk → Rs β} {k : β → List Tk → Rs α} (hr : RdAt CR F H r len ts) (res : RRes CR CM CO F r len H Q E At ((M len ts).bind k)) (q : ∀ a ts2 v H1, M len ts = .ok a ts2 → But r H H1 → RdAt CR F H1 r len ts2 → At1 H1 v a → RRes CR CM CO F r len H1 Q E At (k a ts2) → Q1 v H1) : spR CR CM CO M At1 [.ref r] H Q1 E :=
  ⟨r, F, len, ts, rfl, hr, res.bindI fun a ts2 v H1 e b1 hr1 hv res => q a ts2 v H1 e b1 hr1 hv res⟩
end
theorem c_read_output {f : Addr} {fd : FuncData} (D : C8.Def K mg "read_output" s_read_output f fd) (b : Binds K fd ["reader"] []) {CR CM CO : Addr} (x_Malformed : ExF P w K mg base "Malformed" CM "at") (m_Reader_spot : C8.Met P w K mg base 2 CR "spot" (sp_spot CR) []) (m_Reader_take : MetX P w K mg base 4 CR "take" (sp_rtake CR CM)) (g_OUTPUT_LIMIT : ∃ u, mg "OUTPUT_LIMIT" = some u ∧ RelV (.int 9) u) : CalX P w K mg base 5 "read_output" (spR CR CM CO outputM (fun _ v n => v = .int (n : Nat))) := by
  refine calX0 D b sc_read_output (fun vs H Q E h => ?_) (fun cdv A outer s H vs Q E hr h => ?_)
  · obtain ⟨_, _, _, _, rfl, _⟩ := h
    rfl
  · obtain ⟨r, F, len, ts, rfl, hr0, res⟩ := h
    refine ⟨_, (pss_cons (ps_set (i := 1) sc_read_output.nd rfl (by first | exact Or.inl rfl | exact Or.inr rfl) (C8.pe_mt0 m_Reader_spot hr (by decide) (pv 0))) (pss_cons (ps_set (i := 2) sc_read_output.nd rfl (by first | exact Or.inl rfl | exact Or.inr rfl) (pe_mtx m_Reader_take hr (by decide) (passes_call (takes_of rfl rfl rfl rfl) (fun _ _ _ _ h => h)) (pv 0) (pa_cons pe_str pa_nil))) (pss_cons (ps_if (pt_cmpR (op_gt) (pv 2) (C8.pe_gc (by rfl) g_OUTPUT_LIMIT) (nomark _)) (pss_one (ps_raise rfl (takes_of rfl rfl rfl rfl) (pmk_ex x_Malformed hr (by decide) (by rfl) (pa_cons (pv 1) pa_nil)))) pss_nil) (pss_one (ps_ret (pv 2)))))), ?_⟩
    walk_at "rd"
    unfold outputM at res
    refine rm hr0 "spot" (by decide +kernel) ⟨r, F, len, ts, rfl, hr0, rm hr0 "take" (by decide +kernel) (numB hr0 res fun n ts2 H1 _ b1 hr1 res => ?_)⟩
    refine ⟨_, rfl, ?_⟩
    by_cases h9 : 9 < n
    · rw [if_pos (by omega)]
      rw [if_pos h9] at res
      exact ⟨by decide, fun a ha => by rw [← ofStr_S]; exact raise_rz (res _ (But.refl _ _)) ha⟩
    · rw [if_neg (by omega)]
      rw [if_neg h9] at res
      exact res _ _ (But.refl _ _) hr1 rfl
theorem c_read_names {f : Addr} {fd : FuncData} (D : C8.Def K mg "read_names" s_read_names f fd) (b : Binds K fd ["reader"] []) {CR CM CO : Addr} (m_Reader_take : MetX P w K mg base 4 CR "take" (sp_rtake CR CM)) (m_Reader_passes : C8.Met P w K mg base 2 CR "passes" (sp_passes CR) []) : CalX P w K mg base 5 "read_names" (spR CR CM CO namesM AtNs) := by
  refine calX0 D b sc_read_names (fun vs H Q E h => ?_) (fun cdv A outer s H vs Q E hr h => ?_)
  · obtain ⟨_, _, _, _, rfl, _⟩ := h
    rfl
  · obtain ⟨r, F, len, ts, rfl, hr0, res⟩ := h
    refine ⟨_, (pss_cons (ps_set (i := 1) sc_read_names.nd rfl (by first | exact Or.inl rfl | exact Or.inr rfl) (pe_lst (pa_cons (pe_mtx m_Reader_take hr (by decide) (passes_call (takes_of rfl rfl rfl rfl) (fun _ _ _ _ h => h)) (pv 0) (pa_cons pe_str pa_nil)) pa_nil))) (pss_cons (ps_while (passes_of rfl) (pt_val (C8.pe_mt m_Reader_passes hr (by decide) (pv 0) (pa_cons pe_str pa_nil))) (pss_one (ps_expr (pe_bm PySem.F.plainAttrs_list PySem.F.slot_list_append PySem.F.type_list_append mt_append (pv 1) (pa_cons (pe_mtx m_Reader_take hr (by decide) (passes_call (takes_of rfl rfl rfl rfl) (fun _ _ _ _ h => h)) (pv 0) (pa_cons pe_str pa_nil)) pa_nil))))) (pss_one (ps_ret (pv 1))))), ?_⟩
    walk_at "rd"
    unfold namesM at res
    refine rm hr0 "take" (by decide +kernel) (nameB hr0 res fun z ts2 H1 _ b1 hr1 res => ?_)
    have hl5 := hr1.few
    refine ⟨by decide, fun p hp => ?_⟩
    have sp := same_upd (o := .lst [V.str (S z)]) hp
    obtain ⟨nrp, nFp⟩ := hr1.far hp
    have npr := nrp.symm
    obtain ⟨W, hW⟩ : ∃ W : Nat → L2.St → Hp → Prop, W = fun m σ H2 => ∃ (acc : List (List Nat)) (ts3 : List Tk), σ = [some (V.ref r), some (V.ref p)] ∧ H2 p = some (.lst (acc.map vS)) ∧ But r H1 H2 ∧ RdAt CR F H2 r len ts3 ∧ RRes CR CM CO F r len H1 Q E AtNs (namesLoop len m acc ts3) ∧ acc.length + m ≤ 5002 := ⟨_, rfl⟩
    refine while_W W ?_ ?_
    · rw [hW]
      exact ⟨_, [z], ts2, rfl, upd_same, But.of sp, hr1.same sp, res, by simp only [List.length_singleton]; omega⟩
    intro m σ H2 hw
    rw [hW] at hw
    obtain ⟨acc, ts3, rfl, h2p, b2, hr2, res2, hlen⟩ := hw
    cases m with
    | zero => exact res2.elim
    | succ m =>
      walk_at "rd"
      unfold namesLoop at res2
      refine rm hr2 "passes" (by decide +kernel) (passB hr2 (fun H3 e b3 hr3 => ⟨_, rfl, ?_⟩) (fun e => ⟨_, rfl, ?_⟩))
      · rw [e, if_pos rfl] at res2
        rw [if_pos rfl]
        refine nxw_of fun N hN => ?_
        walk_at "rd"
        have h3p := b3 _ _ npr h2p
        refine ⟨tyL h3p, rm hr3 "take" (by decide +kernel) (nameB hr3 (res2.but (b2.trans b3)) fun y ts4 H4 e4 b4 hr4 _ => ?_)⟩
        rw [e4] at res2
        have h4p := b4 _ _ npr h3p
        refine ⟨_, h4p, smallt (by rw [List.length_map]; omega), ?_⟩
        have b5 : But r H1 (upd H4 p (.lst (acc.map vS ++ [V.str (S y)]))) := ((b2.trans b3).trans b4).new hp
        refine hN m _ _ (Nat.lt_succ_self m) ?_
        rw [hW]
        exact ⟨acc ++ [y], ts4, rfl, by rw [upd_same, List.map_append]; rfl, b5, hr4.upd nrp nFp (by rw [h4p]; intro xs z; cases z), res2, by rw [List.length_append]; show _ + 1 + m ≤ _; omega⟩
      · rw [e, if_neg (by decide)] at res2
        rw [if_neg (by decide)]
        exact res2 _ _ b2 hr2 ⟨p, rfl, h2p⟩
theorem c_read_part {f : Addr} {fd : FuncData} (D : C8.Def K mg "read_part" s_read_part f fd) (b : Binds K fd ["reader"] []) {CR CM CO : Addr} (m_Reader_take : MetX P w K mg base 4 CR "take" (sp_rtake CR CM)) (m_Reader_passes : C8.Met P w K mg base 2 CR "passes" (sp_passes CR) []) (m_Reader_has_kind : C8.Met P w K mg base 2 CR "has_kind" (sp_haskind CR) []) : CalX P w K mg base 5 "read_part" (spR CR CM CO partM AtP) := by
  refine calX0 D b sc_read_part (fun vs H Q E h => ?_) (fun cdv A outer s H vs Q E hr h => ?_)
  · obtain ⟨_, _, _, _, rfl, _⟩ := h
    rfl
  · obtain ⟨r, F, len, ts, rfl, hr0, res⟩ := h
    refine ⟨_, (pss_cons (ps_if (pt_val (C8.pe_mt m_Reader_has_kind hr (by decide) (pv 0) (pa_cons pe_str pa_nil))) (pss_one (ps_ret (pe_tup (pa_cons (pe_mtx m_Reader_take hr (by decide) (passes_call (takes_of rfl rfl rfl rfl) (fun _ _ _ _ h => h)) (pv 0) (pa_cons pe_str pa_nil)) (pa_cons pe_int pa_nil))))) pss_nil) (pss_cons (ps_set (i := 1) sc_read_part.nd rfl (by first | exact Or.inl rfl | exact Or.inr rfl) (pe_mtx m_Reader_take hr (by decide) (passes_call (takes_of rfl rfl rfl rfl) (fun _ _ _ _ h => h)) (pv 0) (pa_cons pe_str pa_nil))) (pss_cons (ps_if (pt_val (C8.pe_mt m_Reader_passes hr (by decide) (pv 0) (pa_cons pe_str pa_nil))) (pss_one (ps_ret (pe_tup (pa_cons (pe_mtx m_Reader_take hr (by decide) (passes_call (takes_of rfl rfl rfl rfl) (fun _ _ _ _ h => h)) (pv 0) (pa_cons pe_str pa_nil)) (pa_cons (pv 1) pa_nil))))) pss_nil) (pss_one (ps_ret (pe_tup (pa_cons pe_non (pa_cons (pv 1) pa_nil)))))))), ?_⟩
    walk_at "rd"
    refine rm hr0 "has_kind" (by decide +kernel) ⟨r, F, cs "name", len, ts, rfl, hr0, _, rfl, ?_⟩
    unfold partM at res
    rw [kind_name]
    cases hn : isName ts with
    | true =>
      rw [if_pos rfl]
      rw [hn, if_pos rfl] at res
      exact rm hr0 "take" (by decide +kernel) (nameB hr0 res fun z ts2 H1 _ b1 hr1 res => ⟨by decide, fun p hp => res _ _ (But.of (same_upd hp)) (hr1.same (same_upd hp)) ⟨p, rfl, upd_same⟩⟩)
    | false =>
      rw [if_neg (by decide)]
      rw [hn, if_neg (by decide)] at res
      refine rm hr0 "take" (by decide +kernel) (numB hr0 res fun n ts2 H1 _ b1 hr1 res => rm hr1 "passes" (by decide +kernel) (passB hr1 (fun H2 e b2 hr2 => ⟨_, rfl, ?_⟩) (fun e => ⟨_, rfl, ?_⟩)))
      · rw [if_pos rfl]
        rw [e, if_pos rfl] at res
        exact rm hr2 "take" (by decide +kernel) (nameB hr2 (res.but b2) fun z ts3 H3 _ b3 hr3 res => ⟨by decide, fun p hp => res _ _ (But.of (same_upd hp)) (hr3.same (same_upd hp)) ⟨p, rfl, upd_same⟩⟩)
      · rw [if_neg (by decide)]
        rw [e, if_neg (by decide)] at res
        exact ⟨by decide, fun p hp => res _ _ (But.of (same_upd hp)) (hr1.same (same_upd hp)) ⟨p, rfl, upd_same⟩⟩
def sp_sign (CR : Addr) : Sp := fun vs H Q _ => ∃ r F len ts, vs = [.ref r] ∧ RdAt CR F H r len ts ∧ ∀ H', But r H H' → RdAt CR F H' r len (signM ts).2 → Q (.int (signM ts).1) H'
theorem c_read_sign {f : Addr} {fd : FuncData} (D : C8.Def K mg "read_sign" s_read_sign f fd) (b : Binds K fd ["reader"] []) {CR : Addr} (m_Reader_passes : C8.Met P w K mg base 2 CR "passes" (sp_passes CR) []) : C8.Cal P w K mg base 5 "read_sign" (sp_sign CR) [] := by
  refine C8.cal0 D b .nil sc_read_sign (fun vs H Q E h => ?_) (fun cdv A outer s H vs Q E hr h => ?_)
  · obtain ⟨_, _, _, _, rfl, _⟩ := h
    rfl
  · obtain ⟨r, F, len, ts, rfl, hr0, ok⟩ := h
    refine ⟨_, (pss_cons (ps_if (pt_val (C8.pe_mt m_Reader_passes hr (by decide) (pv 0) (pa_cons pe_str pa_nil))) (pss_one (ps_ret pe_int)) pss_nil) (pss_one (ps_ret (pe_ifExp (pt_val (C8.pe_mt m_Reader_passes hr (by decide) (pv 0) (pa_cons pe_str pa_nil))) (pe_un un_neg pe_int) pe_int)))), ?_⟩
    walk_at "rd"
    unfold signM at ok
    refine rm hr0 "passes" (by decide +kernel) ⟨r, F, cs "+", len, ts, rfl, hr0, fun e H1 b1 hr1 => ⟨_, rfl, ?_⟩, fun e => ⟨_, rfl, ?_⟩⟩
    · rw [if_pos rfl]
      rw [e, if_pos rfl] at ok
      exact ok H1 b1 hr1
    · rw [if_neg (by decide)]
      rw [e, if_neg (by decide)] at ok
      refine rm hr0 "passes" (by decide +kernel) (passB hr0 (fun H1 e b1 hr1 => ⟨_, rfl, ?_⟩) (fun e => ⟨_, rfl, ?_⟩))
      · rw [if_pos rfl]
        rw [e, if_pos rfl] at ok
        exact ok H1 b1 hr1
      · rw [if_neg (by decide)]
        rw [e, if_neg (by decide)] at ok
        exact ok H (But.refl _ _) hr0

end
end
section
local macro_rules | `(tactic| walk_at "rd") => `(tactic| simp only [tSeq, tNext, tAsg, gName, tRet, tRetN, tIfS, tDrop, tVar, tC, tOp, tUn, tTest, tCB, tCons, tNil, tB, tAnd, tOr, tNot, tAndV, tOrV, tNotV, tIf, tCall, tTup, tLst, tSl, tPart, tNoPart, tM0, tM1, tBM, tChain, tBreak, tCont, tNever, tAug, ipI, tPar, tyV_str,
  tFor_eq, tLc_eq, tMkO, tYes, wipe, ofStr_S, S_cat, one_S, len_S, S_iff, S_cps, Int.zero_add, gNil, gCons, gTup, gSub, iRng1, iRng2, iList, iTup, iStr, rI0, rI, rU, rEq, rNe, rIxL, rIxT, rIxS, Dw.rLen, rListOf, rTupOf, rNotB, rIsB, rMulS, rIn, rCat, rAppend, rCatA, rEqD, rNeD, C8.rSlX, tDGet, Int.toNat_natCast, WE, iEnum, iRev, rSum, tFd, tFs, tFa_eq, L2.rAdd, tMake, tMakeS, tMeth, Dw.tMethS, tCallS, rSlL, rSlA, tDGet2, tDIn, tDNotIn, rSetD, rAll, rKIn, tBM0, rPop, rExtend, tAddT, rAddT, rSetT0, Dw.rSetL, rSortT, StX.tStar, tDNewK, tDisp, tPairs, L2.start, cxOf_K, cxOf_w, cxOf_prog,
  List.map_cons, List.map_nil, List.length_cons, List.length_nil, List.replicate, List.cons_append, List.nil_append, Nat.reduceAdd, Nat.reduceSub, Nat.zero_add, List.append_nil,
  List.set_cons_zero, List.set_cons_succ, List.getElem?_cons_zero, List.getElem?_cons_succ, Option.some.injEq, V.int.injEq, V.bl.injEq, V.ref.injEq, V.str.injEq, V.ty.injEq, List.cons.injEq, and_true, true_and, reduceCtorEq, false_and, exists_false, or_false, false_or, exists_eq_left, exists_eq_left', exists_eq', sw_S, an_S, exists_and_left, exists_const, exists_eq, decide_eq_true_eq, Bool.false_eq_true, if_true, if_false, Bool.not_eq_true', decide_eq_false_iff_not, Bool.not_true, Bool.not_false, ite_not, scal, and_false])
section
variable {P : Program} {w : World} {K : PySem.W.Frag} {mg : Str → Option Value} {base : Heap}
theorem signM_in (ts : List Tk) : (signM ts).1 = -1 ∨ (signM ts).1 = 0 ∨ (signM ts).1 = 1 := by
  unfold signM
  split
  · exact .inr (.inr rfl)
  · split
    · exact .inl rfl
    · exact .inr (.inl rfl)
theorem c_read_sum {f : Addr} {fd : FuncData} (D : C8.Def K mg "read_sum" s_read_sum f fd) (b : Binds K fd ["reader"] []) {CR CM CO : Addr} (m_Reader_passes : C8.Met P w K mg base 2 CR "passes" (sp_passes CR) []) (c_read_part : CalX P w K mg base 5 "read_part" (spR CR CM CO partM AtP)) (c_read_sign : C8.Cal P w K mg base 5 "read_sign" (sp_sign CR) []) : CalX P w K mg base 6 "read_sum" (spR CR CM CO sumM AtSm) := by
  refine calX0 D b sc_read_sum (fun vs H Q E h => ?_) (fun cdv A outer s H vs Q E hr h => ?_)
  · obtain ⟨_, _, _, _, rfl, _⟩ := h
    rfl
  · obtain ⟨r, F, len, ts, rfl, hr0, res⟩ := h
    refine ⟨_, (C8.pss_cut (ps_set (i := 1) sc_read_sum.nd rfl (by first | exact Or.inl rfl | exact Or.inr rfl) (pe_lst pa_nil)) (pss_cons (ps_set (i := 2) sc_read_sum.nd rfl (by first | exact Or.inl rfl | exact Or.inr rfl) pe_int) (C8.pss_cut (ps_set (i := 3) sc_read_sum.nd rfl (by first | exact Or.inl rfl | exact Or.inr rfl) (pe_ifExp (pt_val (C8.pe_mt m_Reader_passes hr (by decide) (pv 0) (pa_cons pe_str pa_nil))) (pe_un un_neg pe_int) pe_int)) (pss_cons (ps_while (passes_of rfl) (pt_cmpR (op_ne) (pv 3) pe_int (nomark _)) (pss_cons (ps_asg (pe_cx c_read_part hr (by decide) (passes_call (takes_of rfl rfl rfl rfl) (fun _ _ _ _ h => h)) (by rfl) (pa_cons (pv 0) pa_nil)) (pg_tup (n := 2) rfl (pgs_cons (pg_name (i := 4) sc_read_sum.nd rfl (by first | exact Or.inl rfl | exact Or.inr rfl)) (pgs_cons (pg_name (i := 5) sc_read_sum.nd rfl (by first | exact Or.inl rfl | exact Or.inr rfl)) pgs_nil)))) (pss_cons (ps_if (pt_cmpR (op_isN) (pv 4) pe_non (nomark _)) (pss_one (ps_aug (i := 2) sc_read_sum.nd rfl (by first | exact Or.inl rfl | exact Or.inr rfl) (pe_op op_mul (pv 3) (pv 5)) ip_add)) (pss_one (ps_expr (pe_bm PySem.F.plainAttrs_list PySem.F.slot_list_append PySem.F.type_list_append mt_append (pv 1) (pa_cons (pe_tup (pa_cons (pv 4) (pa_cons (pe_op op_mul (pv 3) (pv 5)) pa_nil))) pa_nil))))) (pss_one (ps_set (i := 3) sc_read_sum.nd rfl (by first | exact Or.inl rfl | exact Or.inr rfl) (C8.pe_c c_read_sign hr (by decide) (by rfl) (pa_cons (pv 0) pa_nil))))))) (pss_one (ps_ret (pe_tup (pa_cons (pv 1) (pa_cons (pv 2) pa_nil))))))))), ?_⟩
    have hl5 := hr0.few
    refine cut_by (fun σ' H' => ∃ l, σ' = [some (V.ref r), some (V.ref l), none, none, none, none] ∧ Same H H' ∧ H l = none ∧ H' l = some (.lst [])) (fun N hN => ?_) ?_
    · walk_at "rd"
      exact ⟨Nat.zero_le _, fun l hl => hN _ _ ⟨l, rfl, same_upd hl, hl, upd_same⟩⟩
    rintro σ' H1 ⟨l, rfl, s1, hl0, h1l⟩
    obtain ⟨nrl, nFl⟩ := hr0.far hl0
    have hr1 := hr0.same s1
    refine cut_by (fun σ' H' => ∃ (s : Int) (ts2 : List Tk), σ' = [some (V.ref r), some (V.ref l), some (.int 0), some (.int s), none, none] ∧ But r H H' ∧ H' l = some (.lst []) ∧ RdAt CR F H' r len ts2 ∧ (s = -1 ∨ s = 0 ∨ s = 1) ∧ sumM len ts = sumLoop len (ts.length + 1) s [] 0 ts2) (fun N hN => ?_) ?_
    · walk_at "rd"
      refine rm hr1 "passes" (by decide +kernel) (passB hr1 (fun H2 e b2 hr2 => ⟨_, rfl, ?_⟩) (fun e => ⟨_, rfl, ?_⟩))
      · rw [if_pos rfl]
        exact hN _ _ ⟨-1, _, rfl, (But.of s1).trans b2, b2 _ _ nrl.symm h1l, hr2, .inl rfl, by unfold sumM; rw [e, if_pos rfl]⟩
      · rw [if_neg (by decide)]
        exact hN _ _ ⟨1, _, rfl, But.of s1, h1l, hr1, .inr (.inr rfl), by unfold sumM; rw [e, if_neg (by decide)]⟩
    rintro σ' H2 ⟨s, ts2, rfl, b2, h2l, hr2, hs0, esum⟩
    rw [esum] at res
    walk_at "rd"
    obtain ⟨W, hW⟩ : ∃ W : Nat → L2.St → Hp → Prop, W = fun m σ H3 => ∃ (s : Int) (ps : Prs) (c : Int) (ts3 : List Tk) (as : List Addr) (u4 u5 : Option V), σ = [some (V.ref r), some (V.ref l), some (.int c), some (.int s), u4, u5] ∧ But r H H3 ∧ H3 l = some (.lst (as.map V.ref)) ∧ PrsAt H3 as ps ∧ RdAt CR F H3 r len ts3 ∧ RRes CR CM CO F r len H Q E AtSm (sumLoop len m s ps c ts3) ∧ (s = -1 ∨ s = 0 ∨ s = 1) ∧ ps.length ≤ 15 := ⟨_, rfl⟩
    refine while_W W ?_ ?_
    · rw [hW]
      exact ⟨_, s, [], 0, ts2, [], none, none, rfl, b2, h2l, trivial, hr2, res, hs0, Nat.zero_le _⟩
    intro m σ H3 hw
    rw [hW] at hw
    obtain ⟨s, ps, c, ts3, as, u4, u5, rfl, b3, h3l, hps, hr3, res3, hs, hpl⟩ := hw
    have hal := hps.len
    cases m with
    | zero => exact res3.elim
    | succ m =>
      walk_at "rd"
      unfold sumLoop at res3
      by_cases hz : s = 0
      · rw [if_pos hz] at res3
        rw [if_pos hz]
        exact ⟨by decide, fun p hp => res3 _ _ (b3.trans (But.of (same_upd hp))) (hr3.same (same_upd hp)) ⟨p, l, as, rfl, upd_same, (same_upd hp) _ _ h3l, hps.same (same_upd hp), hpl⟩⟩
      · rw [if_neg hz] at res3
        by_cases h14 : 14 < ps.length
        · rw [if_pos h14] at res3
          exact res3.elim
        rw [if_neg h14] at res3
        rw [if_neg hz]
        refine nxw_of fun N hN => ?_
        walk_at "rd"
        refine rdB hr3 (res3.but b3) fun x ts4 v H4 e4 b4 hr4 hv _ => ?_
        rw [e4] at res3
        obtain ⟨p, rfl, h4p⟩ := hv
        obtain ⟨nm, k⟩ := x
        have h4l := b4 _ _ nrl.symm h3l
        have hps4 := hps.tups (hr3.tups b4)
        have b04 := b3.trans b4
        have hcm : CMul s (k : Nat) := .inl ⟨by rcases hs with h | h | h <;> omega, by rcases hs with h | h | h <;> omega⟩
        cases nm with
        | none =>
          have h4p' : H4 p = some (.tup [.non, .int (k : Nat)]) := h4p
          refine ⟨p, rfl, _, SqT.of h4p', rfl, _, _, rfl, _, _, rfl, rfl, ?_⟩
          rw [if_pos rfl]
          refine ⟨_, rfl, hcm, r, F, len, ts4, rfl, hr4, fun H5 b5 hr5 => hN m _ _ (Nat.lt_succ_self m) ?_⟩
          rw [hW]
          exact ⟨_, ps, _, _, as, _, _, rfl, b04.trans b5, b5 _ _ nrl.symm h4l, hps4.tups (hr4.tups b5), hr5, res3, signM_in ts4, hpl⟩
        | some z =>
          have h4p' : H4 p = some (.tup [.str (S z), .int (k : Nat)]) := h4p
          refine ⟨p, rfl, _, SqT.of h4p', rfl, _, _, rfl, _, _, rfl, rfl, ?_⟩
          rw [if_neg (by simp)]
          refine ⟨tyL h4l, _, rfl, hcm, by decide, fun T hT => ?_⟩
          have sT := same_upd (o := .tup [V.str (S z), V.int (s * (k : Nat))]) hT
          have h5l := sT _ _ h4l
          refine ⟨_, h5l, smallt (by rw [List.length_map]; omega), ?_⟩
          have tt := tups_lst (o := .lst (as.map V.ref ++ [V.ref T])) h5l
          have hr5 : RdAt CR F (upd (upd H4 T (.tup [V.str (S z), V.int (s * (k : Nat))])) l (.lst (as.map V.ref ++ [V.ref T]))) r len ts4 := (hr4.same sT).upd nrl nFl (by rw [h5l]; intro xs z; cases z)
          have b45 : But r H (upd (upd H4 T (.tup [V.str (S z), V.int (s * (k : Nat))])) l (.lst (as.map V.ref ++ [V.ref T]))) := (b04.trans (But.of sT)).new hl0
          refine ⟨r, F, len, ts4, rfl, hr5, fun H6 b6 hr6 => hN m _ _ (Nat.lt_succ_self m) ?_⟩
          rw [hW]
          refine ⟨_, ps ++ [(S z, s * (k : Nat))], c, _, as ++ [T], _, _, rfl, b45.trans b6, b6 _ _ nrl.symm (by rw [upd_same, List.map_append]; rfl), ?_, hr6, res3, signM_in ts4, by rw [List.length_append]; show _ + 1 ≤ 15; omega⟩
          exact (PrsAt.snoc (hps4.tups ((Tups.same sT).trans tt)) (tt _ _ upd_same)).tups (hr5.tups b6)

end
end
section
local macro_rules | `(tactic| walk_at "rd") => `(tactic| simp only [tSeq, tNext, tAsg, gName, tRet, tRetN, tIfS, tDrop, tVar, tC, tOp, tUn, tTest, tCB, tCons, tNil, tB, tAnd, tOr, tNot, tAndV, tOrV, tNotV, tIf, tCall, tTup, tLst, tSl, tPart, tNoPart, tM0, tM1, tBM, tChain, tBreak, tCont, tNever, tAug, ipI, tPar, tyV_str,
  tFor_eq, tLc_eq, tMkO, tYes, wipe, ofStr_S, S_cat, one_S, len_S, S_iff, S_cps, Int.zero_add, gNil, gCons, gTup, gSub, iRng1, iRng2, iList, iTup, iStr, rI0, rI, rU, rEq, rNe, rIxL, rIxT, rIxS, Dw.rLen, rListOf, rTupOf, rNotB, rIsB, rMulS, rIn, rCat, rAppend, rCatA, rEqD, rNeD, C8.rSlX, tDGet, Int.toNat_natCast, WE, iEnum, iRev, rSum, tFd, tFs, tFa_eq, L2.rAdd, tMake, tMakeS, tMeth, Dw.tMethS, tCallS, rSlL, rSlA, tDGet2, tDIn, tDNotIn, rSetD, rAll, rKIn, tBM0, rPop, rExtend, tAddT, rAddT, rSetT0, Dw.rSetL, rSortT, StX.tStar, tDNewK, tDisp, tPairs, L2.start, cxOf_K, cxOf_w, cxOf_prog,
  List.map_cons, List.map_nil, List.length_cons, List.length_nil, List.replicate, List.cons_append, List.nil_append, Nat.reduceAdd, Nat.reduceSub, Nat.zero_add, List.append_nil,
  List.set_cons_zero, List.set_cons_succ, List.getElem?_cons_zero, List.getElem?_cons_succ, Option.some.injEq, V.int.injEq, V.bl.injEq, V.ref.injEq, V.str.injEq, V.ty.injEq, List.cons.injEq, and_true, true_and, reduceCtorEq, false_and, exists_false, or_false, false_or, exists_eq_left, exists_eq_left', exists_eq', sw_S, an_S, exists_and_left, exists_const, exists_eq, decide_eq_true_eq, Bool.false_eq_true, if_true, if_false, Bool.not_eq_true', decide_eq_false_iff_not, Bool.not_true, Bool.not_false, ite_not, scal, and_false])
section
variable {P : Program} {w : World} {K : PySem.W.Frag} {mg : Str → Option Value} {base : Heap}
def SRes {α : Type} (CO : Addr) (H : Hp) (Q : VK) (E : XK) (At : Hp → V → α → Prop) : Rs α → Prop
  | .ok a _ => ∀ v H', Same H H' → At H' v a → Q v H'
  | .over w => Rz CO "limit" (.str (S (cs w))) H E
  | _ => False
def AtT (H : Hp) (v : V) (x : Prs × Int) : Prop := ∃ t, v = .ref t ∧ TermAt H t x.1 x.2
section
variable {α β : Type} {CO : Addr} {H H' : Hp} {Q Q1 : VK} {E : XK} {At : Hp → V → α → Prop} {At1 : Hp → V → β → Prop}
theorem SRes.same {m : Rs α} (h : SRes CO H Q E At m) (b : Same H H') : SRes CO H' Q E At m := by
  cases m with
  | ok a ts => exact fun v H2 b2 => h v H2 (b.trans b2)
  | mal n => exact h
  | over w => exact Rz.same h b
  | out => exact h
theorem SRes.bindI {m : Rs β} {k : β → List Tk → Rs α} (h : SRes CO H Q E At (m.bind k)) (q : ∀ a ts v H', m = .ok a ts → Same H H' → At1 H' v a → SRes CO H' Q E At (k a ts) → Q1 v H') : SRes CO H Q1 E At1 m := by
  cases m with
  | ok a ts => exact fun v H2 b2 ha => q a ts v H2 rfl b2 ha (SRes.same (m := k a ts) h b2)
  | mal n => exact h
  | over w => exact h
  | out => exact h
theorem linEnd_of {ps : Prs} {c : Int} {ts : List Tk} (h : SRes CO H Q E AtT (linM ps c ts)) : LinEnd CO ps c H Q E := by
  unfold linM at h
  refine ⟨fun e t H2 s ht => ?_, fun e => ?_⟩
  · rw [e, if_pos rfl] at h
    exact h _ _ s ⟨t, rfl, ht⟩
  · rw [e, if_neg (by decide)] at h
    exact h
theorem minB {t1 t2 : Addr} {a b : Prs × Int} {ts : List Tk} {k : Prs × Int → List Tk → Rs α} (h : SRes CO H Q E At ((minusM a b ts).bind k)) (h1 : TermAt H t1 a.1 a.2) (h2 : TermAt H t2 b.1 b.2) (l1 : a.1.length ≤ 15) (l2 : b.1.length ≤ 15)
    (q : ∀ t x ts2 H', Same H H' → TermAt H' t x.1 x.2 → x.1.length ≤ 30 → SRes CO H' Q E At (k x ts2) → Q1 (.ref t) H') : sp_minus CO [.ref t1, .ref t2] H Q1 E := by
  have hl : (a.1 ++ b.1.map negP).length ≤ 30 := by rw [List.length_append, List.length_map]; omega
  refine ⟨t1, t2, a.1, b.1, a.2, b.2, rfl, h1, h2, hl, linEnd_of (ts := ts) (h.bindI fun x ts2 v H2 e s hx res => ?_)⟩
  obtain ⟨t, rfl, ht⟩ := hx
  refine q t x ts2 H2 s ht ?_ res
  unfold minusM linM at e
  split at e
  · cases e
    exact Nat.le_trans (lin_len _) hl
  · cases e
end
def sp_compared (CO : Addr) : Sp := fun vs H Q E => ∃ (t1 t2 : Addr) (s : List Nat) (a b : Prs × Int) (ts : List Tk), vs = [.ref t1, .str (S s), .ref t2] ∧ TermAt H t1 a.1 a.2 ∧ TermAt H t2 b.1 b.2 ∧ a.1.length ≤ 15 ∧ b.1.length ≤ 15 ∧ SRes CO H Q E AtF (comparedM a s b ts)
theorem c_compared {f : Addr} {fd : FuncData} (D : C8.Def K mg "compared" s_compared f fd) (b : Binds K fd ["one", "sign", "two"] []) {CO : Addr} (c_minus : CalX P w K mg base 4 "minus" (sp_minus CO)) (c_plus : CalX P w K mg base 4 "plus" (sp_plus CO)) : CalX P w K mg base 5 "compared" (sp_compared CO) := by
  refine calX0 D b sc_compared (fun vs H Q E h => ?_) (fun cdv A outer s H vs Q E hr h => ?_)
  · obtain ⟨_, _, _, _, _, _, rfl, _⟩ := h
    rfl
  · obtain ⟨t1, t2, s, a, b2, ts, rfl, h1, h2, l1, l2, res⟩ := h
    refine ⟨_, (pss_cons (ps_if (pt_cmpR (op_eq) (pv 1) pe_str (nomark _)) (pss_one (ps_ret (pe_tup (pa_cons pe_str (pa_cons (pe_cx c_minus hr (by decide) (passes_call (takes_of rfl rfl rfl rfl) (fun _ _ _ _ h => h)) (by rfl) (pa_cons (pv 0) (pa_cons (pv 2) pa_nil))) pa_nil))))) pss_nil) (pss_cons (ps_if (pt_cmpR (op_eq) (pv 1) pe_str (nomark _)) (pss_one (ps_ret (pe_tup (pa_cons pe_str (pa_cons (pe_tup (pa_cons pe_str (pa_cons (pe_cx c_minus hr (by decide) (passes_call (takes_of rfl rfl rfl rfl) (fun _ _ _ _ h => h)) (by rfl) (pa_cons (pv 0) (pa_cons (pv 2) pa_nil))) pa_nil))) pa_nil))))) pss_nil) (C8.pss_cut (ps_set (i := 3) sc_compared.nd rfl (by first | exact Or.inl rfl | exact Or.inr rfl) (pe_ifExp (pt_cmpR (inQ K) (pv 1) (pe_tup (pa_cons pe_str (pa_cons pe_str pa_nil))) (by with_unfolding_all rfl)) (pe_cx c_minus hr (by decide) (passes_call (takes_of rfl rfl rfl rfl) (fun _ _ _ _ h => h)) (by rfl) (pa_cons (pv 0) (pa_cons (pv 2) pa_nil))) (pe_cx c_minus hr (by decide) (passes_call (takes_of rfl rfl rfl rfl) (fun _ _ _ _ h => h)) (by rfl) (pa_cons (pv 2) (pa_cons (pv 0) pa_nil))))) (pss_one (ps_ret (pe_tup (pa_cons pe_str (pa_cons (pe_ifExp (pt_cmpR (inQ K) (pv 1) (pe_tup (pa_cons pe_str (pa_cons pe_str pa_nil))) (by with_unfolding_all rfl)) (pe_cx c_plus hr (by decide) (passes_call (takes_of rfl rfl rfl rfl) (fun _ _ _ _ h => h)) (by rfl) (pa_cons (pv 3) (pa_cons (pe_tup (pa_cons (pe_tup pa_nil) (pa_cons pe_int pa_nil))) pa_nil))) (pv 3)) pa_nil)))))))), ?_⟩
    walk_at "rd"
    unfold comparedM at res
    by_cases e1 : s = cs "="
    · rw [if_pos e1]
      rw [if_pos e1] at res
      refine minB res h1 h2 l1 l2 fun t x ts2 H1 s1 ht hl res => ⟨by decide, fun p hp => res _ _ (same_upd hp) ⟨p, rfl, t, upd_same, ht.tups (Tups.same (same_upd hp))⟩⟩
    rw [if_neg e1]
    rw [if_neg e1] at res
    by_cases e2 : s = cs "!="
    · rw [if_pos e2]
      rw [if_pos e2] at res
      refine minB res h1 h2 l1 l2 fun t x ts2 H1 s1 ht hl res => ⟨by decide, fun p hp => ⟨by decide, fun p2 hp2 => res _ _ ((same_upd hp).trans (same_upd hp2)) ⟨p2, rfl, p, upd_same, t, (same_upd hp2) _ _ upd_same, ht.tups (Tups.same ((same_upd hp).trans (same_upd hp2)))⟩⟩⟩
    rw [if_neg e2]
    rw [if_neg e2] at res
    refine cut_by (fun σ' H' => ∃ (t : Addr) (x : Prs × Int) (ts2 : List Tk), [some (V.ref t1), some (V.str (S s)), some (V.ref t2), some (V.ref t)] = σ' ∧ TermAt H' t x.1 x.2 ∧ x.1.length ≤ 30 ∧ SRes CO H' Q E AtF (if s = cs "<" ∨ s = cs ">" then (linM x.1 (x.2 + 1) ts2).bind fun d ts => .ok (.cmp false d.1 d.2) ts else .ok (.cmp false x.1 x.2) ts2)) (fun N hN => ?_) ?_
    · walk_at "rd"
      refine ⟨by decide, fun p hp => ?_⟩
      have sp := same_upd (o := .tup [V.str (S (cs "<")), V.str (S (cs "<="))]) hp
      refine ⟨_, .inr (SqT.of upd_same), rfl, rfl, ?_⟩
      rw [show inV (V.str (S s)) [V.str (S (cs "<")), V.str (S (cs "<="))] = decide (s ∈ [cs "<", cs "<="]) from inV_S s [cs "<", cs "<="]]
      by_cases e3 : s = cs "<" ∨ s = cs "<="
      · rw [if_pos (by simpa using e3)]
        rw [if_pos e3] at res
        exact minB (SRes.same res sp) (h1.tups (Tups.same sp)) (h2.tups (Tups.same sp)) l1 l2 fun t x ts2 H1 s1 ht hl res => hN _ _ ⟨t, x, ts2, rfl, ht, hl, res⟩
      · rw [if_neg (by simpa using e3)]
        rw [if_neg e3] at res
        exact minB (SRes.same res sp) (h2.tups (Tups.same sp)) (h1.tups (Tups.same sp)) l2 l1 fun t x ts2 H1 s1 ht hl res => hN _ _ ⟨t, x, ts2, rfl, ht, hl, res⟩
    rintro σ' H1 ⟨t, x, ts2, rfl, ht, hl, res⟩
    walk_at "rd"
    refine ⟨by decide, fun p hp => ?_⟩
    have sp := same_upd (o := .tup [V.str (S (cs "<")), V.str (S (cs ">"))]) hp
    refine ⟨_, .inr (SqT.of upd_same), rfl, rfl, ?_⟩
    rw [show inV (V.str (S s)) [V.str (S (cs "<")), V.str (S (cs ">"))] = decide (s ∈ [cs "<", cs ">"]) from inV_S s [cs "<", cs ">"]]
    by_cases e3 : s = cs "<" ∨ s = cs ">"
    · rw [if_pos (by simpa using e3)]
      rw [if_pos e3] at res
      refine ⟨by decide, fun p2 hp2 => ⟨by decide, fun p3 hp3 => ?_⟩⟩
      have s2 := same_upd (o := .tup []) hp2
      have s3 := same_upd (o := .tup [V.ref p2, V.int 1]) hp3
      have sA := (sp.trans s2).trans s3
      refine ⟨t, p3, x.1, [], x.2, 1, rfl, ht.tups (Tups.same sA), ⟨p2, [], upd_same, s3 _ _ upd_same, trivial⟩, by rw [List.append_nil]; exact hl, ?_⟩
      rw [List.append_nil]
      refine linEnd_of (ts := ts2) ((SRes.same res sA).bindI fun d ts3 v H4 e s4 hd res => ?_)
      obtain ⟨t4, rfl, ht4⟩ := hd
      exact ⟨by decide, fun p4 hp4 => res _ _ (same_upd hp4) ⟨p4, rfl, t4, upd_same, ht4.tups (Tups.same (same_upd hp4))⟩⟩
    · rw [if_neg (by simpa using e3)]
      rw [if_neg e3] at res
      exact ⟨by decide, fun p4 hp4 => res _ _ (sp.trans (same_upd hp4)) ⟨p4, rfl, t, upd_same, ht.tups (Tups.same (sp.trans (same_upd hp4)))⟩⟩

end
end
section
local macro_rules | `(tactic| walk_at "rd") => `(tactic| simp only [tSeq, tNext, tAsg, gName, tRet, tRetN, tIfS, tDrop, tVar, tC, tOp, tUn, tTest, tCB, tCons, tNil, tB, tAnd, tOr, tNot, tAndV, tOrV, tNotV, tIf, tCall, tTup, tLst, tSl, tPart, tNoPart, tM0, tM1, tBM, tChain, tBreak, tCont, tNever, tAug, ipI, tPar, tyV_str,
  tFor_eq, tLc_eq, tMkO, tYes, wipe, ofStr_S, S_cat, one_S, len_S, S_iff, S_cps, Int.zero_add, gNil, gCons, gTup, gSub, iRng1, iRng2, iList, iTup, iStr, rI0, rI, rU, rEq, rNe, rIxL, rIxT, rIxS, Dw.rLen, rListOf, rTupOf, rNotB, rIsB, rMulS, rIn, rCat, rAppend, rCatA, rEqD, rNeD, C8.rSlX, tDGet, Int.toNat_natCast, WE, iEnum, iRev, rSum, tFd, tFs, tFa_eq, L2.rAdd, tMake, tMakeS, tMeth, Dw.tMethS, tCallS, rSlL, rSlA, tDGet2, tDIn, tDNotIn, rSetD, rAll, rKIn, tBM0, rPop, rExtend, tAddT, rAddT, rSetT0, Dw.rSetL, rSortT, StX.tStar, tDNewK, tDisp, tPairs, L2.start, cxOf_K, cxOf_w, cxOf_prog,
  List.map_cons, List.map_nil, List.length_cons, List.length_nil, List.replicate, List.cons_append, List.nil_append, Nat.reduceAdd, Nat.reduceSub, Nat.zero_add, List.append_nil,
  List.set_cons_zero, List.set_cons_succ, List.getElem?_cons_zero, List.getElem?_cons_succ, Option.some.injEq, V.int.injEq, V.bl.injEq, V.ref.injEq, V.str.injEq, V.ty.injEq, List.cons.injEq, and_true, true_and, reduceCtorEq, false_and, exists_false, or_false, false_or, exists_eq_left, exists_eq_left', exists_eq', sw_S, an_S, exists_and_left, exists_const, exists_eq, decide_eq_true_eq, Bool.false_eq_true, if_true, if_false, Bool.not_eq_true', decide_eq_false_iff_not, Bool.not_true, Bool.not_false, ite_not, scal, and_false])
section
variable {P : Program} {w : World} {K : PySem.W.Frag} {mg : Str → Option Value} {base : Heap}
theorem compared_ts (a b : Prs × Int) (s : List Nat) (ts : List Tk) : (∃ f, comparedM a s b ts = .ok f ts) ∨ comparedM a s b ts = .over "term" := by
  unfold comparedM minusM linM
  by_cases e1 : s = cs "="
  · simp only [e1, if_true]
    split
    · exact .inl ⟨_, rfl⟩
    · exact .inr rfl
  simp only [e1, if_false]
  by_cases e2 : s = cs "!="
  · simp only [e2, if_true]
    split
    · exact .inl ⟨_, rfl⟩
    · exact .inr rfl
  simp only [e2, if_false]
  by_cases e3 : s = cs "<" ∨ s = cs "<="
  all_goals
    simp only [e3, if_true, if_false]
    split
    · show (∃ f, (if s = cs "<" ∨ s = cs ">" then _ else _) = _) ∨ (if s = cs "<" ∨ s = cs ">" then _ else _) = _
      by_cases e4 : s = cs "<" ∨ s = cs ">"
      · simp only [e4, if_true]
        split
        · exact .inl ⟨_, rfl⟩
        · exact .inr rfl
      · simp only [e4, if_false]
        exact .inl ⟨_, rfl⟩
    · exact .inr rfl
section
variable {α : Type} {CR CM CO F r l : Addr} {len : Nat} {ts : List Tk} {H : Hp} {Q Q1 : VK} {E : XK} {At : Hp → V → α → Prop}
theorem linB {ps : Prs} {c : Int} {as : List Addr} {k : Prs × Int → List Tk → Rs α} (hr : RdAt CR F H r len ts) (res : RRes CR CM CO F r len H Q E At ((linM ps c ts).bind k)) (h1 : SqL K H l (as.map V.ref)) (h2 : PrsAt H as ps) (h3 : ps.length ≤ 30)
    (q : ∀ t H1, Same H H1 → TermAt H1 t (lin ps) c → RdAt CR F H1 r len ts → RRes CR CM CO F r len H1 Q E At (k (lin ps, c) ts) → Q1 (.ref t) H1) : sp_linear K CO [.ref l, .int c] H Q1 E := by
  unfold linM at res
  refine ⟨l, as, ps, c, rfl, h1, h2, h3, fun e t H1 s1 ht => ?_, fun e => ?_⟩
  · rw [e, if_pos rfl] at res
    exact q t H1 s1 ht (hr.same s1) (RRes.but (m := k (lin ps, c) ts) res (But.of s1))
  · rw [e, if_neg (by decide)] at res
    exact res _ (But.refl _ _)
theorem cmpdB {t1 t2 : Addr} {a b : Prs × Int} {s : List Nat} (hr : RdAt CR F H r len ts) (res : RRes CR CM CO F r len H Q E AtF (comparedM a s b ts)) (h1 : TermAt H t1 a.1 a.2) (h2 : TermAt H t2 b.1 b.2) (l1 : a.1.length ≤ 15) (l2 : b.1.length ≤ 15) : sp_compared CO [.ref t1, .str (S s), .ref t2] H Q E := by
  refine ⟨t1, t2, s, a, b, ts, rfl, h1, h2, l1, l2, ?_⟩
  rcases compared_ts a b s ts with ⟨f, e⟩ | e
  · rw [e] at res ⊢
    exact fun v H1 s1 hv => res v H1 (But.of s1) (hr.same s1) hv
  · rw [e] at res ⊢
    exact res _ (But.refl _ _)
end
theorem c_read_comparison {f : Addr} {fd : FuncData} (D : C8.Def K mg "read_comparison" s_read_comparison f fd) (b : Binds K fd ["reader"] []) {CR CM CO : Addr} (x_Malformed : ExF P w K mg base "Malformed" CM "at") (m_Reader_spot : C8.Met P w K mg base 2 CR "spot" (sp_spot CR) []) (m_Reader_take : MetX P w K mg base 4 CR "take" (sp_rtake CR CM)) (c_read_sum : CalX P w K mg base 6 "read_sum" (spR CR CM CO sumM AtSm)) (c_linear : CalX P w K mg base 3 "linear" (sp_linear K CO)) (c_compared : CalX P w K mg base 5 "compared" (sp_compared CO)) {aCm : Addr} (g_COMPARED : ∃ u, mg "COMPARED" = some u ∧ RelV (.ref aCm) u) (kCm : ∀ H, SqT K H aCm (CMPD.map vS)) : CalX P w K mg base 7 "read_comparison" (spR CR CM CO cmpM AtF) := by
  refine calX0 D b sc_read_comparison (fun vs H Q E h => ?_) (fun cdv A outer s H vs Q E hr h => ?_)
  · obtain ⟨_, _, _, _, rfl, _⟩ := h
    rfl
  · obtain ⟨r, F, len, ts, rfl, hr0, res⟩ := h
    refine ⟨_, (pss_cons (ps_set (i := 1) sc_read_comparison.nd rfl (by first | exact Or.inl rfl | exact Or.inr rfl) (pe_cx c_read_sum hr (by decide) (passes_call (takes_of rfl rfl rfl rfl) (fun _ _ _ _ h => h)) (by rfl) (pa_cons (pv 0) pa_nil))) (pss_cons (ps_set (i := 2) sc_read_comparison.nd rfl (by first | exact Or.inl rfl | exact Or.inr rfl) (C8.pe_mt0 m_Reader_spot hr (by decide) (pv 0))) (pss_cons (ps_set (i := 3) sc_read_comparison.nd rfl (by first | exact Or.inl rfl | exact Or.inr rfl) (pe_mtx m_Reader_take hr (by decide) (passes_call (takes_of rfl rfl rfl rfl) (fun _ _ _ _ h => h)) (pv 0) (pa_cons pe_str pa_nil))) (pss_cons (ps_if (pt_cmpR (notInQ K) (pv 3) (C8.pe_gc (by rfl) g_COMPARED) (by with_unfolding_all rfl)) (pss_one (ps_raise rfl (takes_of rfl rfl rfl rfl) (pmk_ex x_Malformed hr (by decide) (by rfl) (pa_cons (pv 2) pa_nil)))) pss_nil) (pss_cons (ps_set (i := 4) sc_read_comparison.nd rfl (by first | exact Or.inl rfl | exact Or.inr rfl) (pe_cx c_read_sum hr (by decide) (passes_call (takes_of rfl rfl rfl rfl) (fun _ _ _ _ h => h)) (by rfl) (pa_cons (pv 0) pa_nil))) (pss_one (ps_ret (pe_cx c_compared hr (by decide) (passes_call (takes_of rfl rfl rfl rfl) (fun _ _ _ _ h => h)) (by rfl) (pa_cons (pe_cx c_linear hr (by decide) (passes_call (takes_of rfl rfl rfl rfl) (fun _ _ _ _ h => h)) (by rfl) (pa_cons (pe_ix (ixT K) (pv 1) pe_int (fun _ _ => rfl)) (pa_cons (pe_ix (ixT K) (pv 1) pe_int (fun _ _ => rfl)) pa_nil))) (pa_cons (pv 3) (pa_cons (pe_cx c_linear hr (by decide) (passes_call (takes_of rfl rfl rfl rfl) (fun _ _ _ _ h => h)) (by rfl) (pa_cons (pe_ix (ixT K) (pv 4) pe_int (fun _ _ => rfl)) (pa_cons (pe_ix (ixT K) (pv 4) pe_int (fun _ _ => rfl)) pa_nil))) pa_nil))))))))))), ?_⟩
    walk_at "rd"
    unfold cmpM at res
    refine rdB hr0 res fun a ts1 v H1 e1 b1 hr1 hv res => ?_
    obtain ⟨p1, la, as, rfl, h1p, h1l, hps1, hl1⟩ := hv
    refine rm hr1 "spot" (by decide +kernel) ⟨r, F, len, ts1, rfl, hr1, rm hr1 "take" (by decide +kernel) (signB hr1 res fun s ts2 H2 e2 b2 hr2 res => ?_)⟩
    refine ⟨_, .inr (kCm _), rfl, flat_S _, ?_⟩
    rw [inV_S]
    by_cases hc : s ∈ CMPD
    rotate_left 1
    · rw [if_pos (by simpa using hc)]
      rw [if_pos hc] at res
      exact ⟨by decide, fun a ha => by rw [← ofStr_S]; exact raise_rz (res _ (But.refl _ _)) ha⟩
    rw [if_neg (by simpa using hc)]
    rw [if_neg (fun z => z hc)] at res
    have t12 := hr1.tups b2
    have nl1 : la ≠ r := by
      obtain ⟨dx, as', T, i, g1, _⟩ := hr1.ex
      exact ne_of h1l g1 (by intro z; cases z)
    refine rdB hr2 res fun b3 ts3 v H3 e3 b3' hr3 hv res => ?_
    obtain ⟨p2, lb, bs, rfl, h3p, h3l, hps3, hl3⟩ := hv
    have t23 := hr2.tups b3'
    have h3p1 := t23 _ _ (t12 _ _ h1p)
    have h3la := b3' _ _ nl1 (b2 _ _ nl1 h1l)
    have hpa := (hps1.tups t12).tups t23
    refine ⟨p1, rfl, _, SqT.of h3p1, _, atI_nat (j := 0) rfl, p1, rfl, _, SqT.of h3p1, _, atI_nat (j := 1) rfl, ?_⟩
    refine linB hr3 res (SqL.of h3la) hpa (by omega) fun t1 H4 s4 ht1 hr4 res => ?_
    refine ⟨p2, rfl, _, SqT.of (s4 _ _ h3p), _, atI_nat (j := 0) rfl, p2, rfl, _, SqT.of (s4 _ _ h3p), _, atI_nat (j := 1) rfl, ?_⟩
    refine linB hr4 res (SqL.of (s4 _ _ h3l)) (hps3.same s4) (by omega) fun t2 H5 s5 ht2 hr5 res => ?_
    exact cmpdB (a := (lin a.1, a.2)) (b := (lin b3.1, b3.2)) hr5 res (ht1.tups (Tups.same s5)) ht2 (Nat.le_trans (lin_len _) hl1) (Nat.le_trans (lin_len _) hl3)

end
end
section
local macro_rules | `(tactic| walk_at "rd") => `(tactic| simp only [tSeq, tNext, tAsg, gName, tRet, tRetN, tIfS, tDrop, tVar, tC, tOp, tUn, tTest, tCB, tCons, tNil, tB, tAnd, tOr, tNot, tAndV, tOrV, tNotV, tIf, tCall, tTup, tLst, tSl, tPart, tNoPart, tM0, tM1, tBM, tChain, tBreak, tCont, tNever, tAug, ipI, tPar, tyV_str,
  tFor_eq, tLc_eq, tMkO, tYes, wipe, ofStr_S, S_cat, one_S, len_S, S_iff, S_cps, Int.zero_add, gNil, gCons, gTup, gSub, iRng1, iRng2, iList, iTup, iStr, rI0, rI, rU, rEq, rNe, rIxL, rIxT, rIxS, Dw.rLen, rListOf, rTupOf, rNotB, rIsB, rMulS, rIn, rCat, rAppend, rCatA, rEqD, rNeD, C8.rSlX, tDGet, Int.toNat_natCast, WE, iEnum, iRev, rSum, tFd, tFs, tFa_eq, L2.rAdd, tMake, tMakeS, tMeth, Dw.tMethS, tCallS, rSlL, rSlA, tDGet2, tDIn, tDNotIn, rSetD, rAll, rKIn, tBM0, rPop, rExtend, tAddT, rAddT, rSetT0, Dw.rSetL, rSortT, StX.tStar, tDNewK, tDisp, tPairs, L2.start, cxOf_K, cxOf_w, cxOf_prog,
  List.map_cons, List.map_nil, List.length_cons, List.length_nil, List.replicate, List.cons_append, List.nil_append, Nat.reduceAdd, Nat.reduceSub, Nat.zero_add, List.append_nil,
  List.set_cons_zero, List.set_cons_succ, List.getElem?_cons_zero, List.getElem?_cons_succ, Option.some.injEq, V.int.injEq, V.bl.injEq, V.ref.injEq, V.str.injEq, V.ty.injEq, List.cons.injEq, and_true, true_and, reduceCtorEq, false_and, exists_false, or_false, false_or, exists_eq_left, exists_eq_left', exists_eq', sw_S, an_S, exists_and_left, exists_const, exists_eq, decide_eq_true_eq, Bool.false_eq_true, if_true, if_false, Bool.not_eq_true', decide_eq_false_iff_not, Bool.not_true, Bool.not_false, ite_not, scal, and_false])
section
variable {P : Program} {w : World} {K : PySem.W.Frag} {mg : Str → Option Value} {base : Heap}
theorem c_read_power {f : Addr} {fd : FuncData} (D : C8.Def K mg "read_power" s_read_power f fd) (b : Binds K fd ["reader"] []) {CR CM CO : Addr} (m_Reader_skip : MetX P w K mg base 4 CR "skip" (sp_skip CR CM)) (m_Reader_take : MetX P w K mg base 4 CR "take" (sp_rtake CR CM)) : CalX P w K mg base 5 "read_power" (spR CR CM CO powM AtF) := by
  refine calX0 D b sc_read_power (fun vs H Q E h => ?_) (fun cdv A outer s H vs Q E hr h => ?_)
  · obtain ⟨_, _, _, _, rfl, _⟩ := h
    rfl
  · obtain ⟨r, F, len, ts, rfl, hr0, res⟩ := h
    refine ⟨_, (pss_cons (ps_expr (pe_mtx m_Reader_skip hr (by decide) (passes_call (takes_of rfl rfl rfl rfl) (fun _ _ _ _ h => h)) (pv 0) (pa_cons pe_str pa_nil))) (pss_cons (ps_expr (pe_mtx m_Reader_skip hr (by decide) (passes_call (takes_of rfl rfl rfl rfl) (fun _ _ _ _ h => h)) (pv 0) (pa_cons pe_str pa_nil))) (pss_cons (ps_set (i := 1) sc_read_power.nd rfl (by first | exact Or.inl rfl | exact Or.inr rfl) (pe_mtx m_Reader_take hr (by decide) (passes_call (takes_of rfl rfl rfl rfl) (fun _ _ _ _ h => h)) (pv 0) (pa_cons pe_str pa_nil))) (pss_cons (ps_expr (pe_mtx m_Reader_skip hr (by decide) (passes_call (takes_of rfl rfl rfl rfl) (fun _ _ _ _ h => h)) (pv 0) (pa_cons pe_str pa_nil))) (pss_one (ps_ret (pe_tup (pa_cons pe_str (pa_cons (pv 1) pa_nil))))))))), ?_⟩
    walk_at "rd"
    unfold powM at res
    refine rm hr0 "skip" (by decide +kernel) (skipB hr0 res fun ts1 H1 e1 b1 hr1 res => ?_)
    refine rm hr1 "skip" (by decide +kernel) (skipB hr1 res fun ts2 H2 e2 b2 hr2 res => ?_)
    refine rm hr2 "take" (by decide +kernel) (nameB hr2 res fun z ts3 H3 e3 b3 hr3 res => ?_)
    refine rm hr3 "skip" (by decide +kernel) (skipB hr3 res fun ts4 H4 e4 b4 hr4 res => ?_)
    exact ⟨by decide, fun p hp => res _ _ (But.of (same_upd hp)) (hr4.same (same_upd hp)) ⟨p, rfl, upd_same⟩⟩
theorem c_read_call {f : Addr} {fd : FuncData} (D : C8.Def K mg "read_call" s_read_call f fd) (b : Binds K fd ["reader"] []) {CR CM CO : Addr} (m_Reader_skip : MetX P w K mg base 4 CR "skip" (sp_skip CR CM)) (m_Reader_take : MetX P w K mg base 4 CR "take" (sp_rtake CR CM)) (c_read_names : CalX P w K mg base 5 "read_names" (spR CR CM CO namesM AtNs)) (z_tuple : mg "tuple" = none) : CalX P w K mg base 6 "read_call" (spR CR CM CO callM AtF) := by
  refine calX0 D b sc_read_call (fun vs H Q E h => ?_) (fun cdv A outer s H vs Q E hr h => ?_)
  · obtain ⟨_, _, _, _, rfl, _⟩ := h
    rfl
  · obtain ⟨r, F, len, ts, rfl, hr0, res⟩ := h
    refine ⟨_, (pss_cons (ps_set (i := 1) sc_read_call.nd rfl (by first | exact Or.inl rfl | exact Or.inr rfl) (pe_mtx m_Reader_take hr (by decide) (passes_call (takes_of rfl rfl rfl rfl) (fun _ _ _ _ h => h)) (pv 0) (pa_cons pe_str pa_nil))) (pss_cons (ps_expr (pe_mtx m_Reader_skip hr (by decide) (passes_call (takes_of rfl rfl rfl rfl) (fun _ _ _ _ h => h)) (pv 0) (pa_cons pe_str pa_nil))) (pss_cons (ps_set (i := 2) sc_read_call.nd rfl (by first | exact Or.inl rfl | exact Or.inr rfl) (pe_cx c_read_names hr (by decide) (passes_call (takes_of rfl rfl rfl rfl) (fun _ _ _ _ h => h)) (by rfl) (pa_cons (pv 0) pa_nil))) (pss_cons (ps_expr (pe_mtx m_Reader_skip hr (by decide) (passes_call (takes_of rfl rfl rfl rfl) (fun _ _ _ _ h => h)) (pv 0) (pa_cons pe_str pa_nil))) (pss_one (ps_ret (pe_tup (pa_cons pe_str (pa_cons (pv 1) (pa_cons (pe_callTy (tupOf K) (by rfl) z_tuple (by decide +kernel) (pa_cons (pv 2) pa_nil)) pa_nil)))))))))), ?_⟩
    walk_at "rd"
    unfold callM at res
    refine rm hr0 "take" (by decide +kernel) (nameB hr0 res fun g ts1 H1 e1 b1 hr1 res => ?_)
    refine rm hr1 "skip" (by decide +kernel) (skipB hr1 res fun ts2 H2 e2 b2 hr2 res => ?_)
    refine rdB hr2 res fun zs ts3 v H3 e3 b3 hr3 hv res => ?_
    obtain ⟨l, rfl, h3l⟩ := hv
    have nlr : l ≠ r := by
      obtain ⟨dx, as', T, i, g1, _⟩ := hr3.ex
      exact ne_of h3l g1 (by intro z; cases z)
    refine rm hr3 "skip" (by decide +kernel) (skipB hr3 res fun ts4 H4 e4 b4 hr4 res => ?_)
    have h4l := b4 _ _ nlr h3l
    refine ⟨l, rfl, _, .inl ⟨SqL.of h4l, fun p hp => ⟨by decide, fun p2 hp2 => ?_⟩⟩⟩
    have s2 := (same_upd (o := .tup (zs.map vS)) hp).trans (same_upd (o := .tup [V.str (S (cs "call")), V.str (S g), V.ref p]) hp2)
    exact res _ _ (But.of s2) (hr4.same s2) ⟨p2, rfl, p, upd_same, (same_upd hp2) _ _ upd_same⟩
theorem c_read_word {f : Addr} {fd : FuncData} (D : C8.Def K mg "read_word" s_read_word f fd) (b : Binds K fd ["reader"] []) {CR CM CO : Addr} (m_Reader_skip : MetX P w K mg base 4 CR "skip" (sp_skip CR CM)) (m_Reader_take : MetX P w K mg base 4 CR "take" (sp_rtake CR CM)) (m_Reader_passes : C8.Met P w K mg base 2 CR "passes" (sp_passes CR) []) (c_read_output : CalX P w K mg base 5 "read_output" (spR CR CM CO outputM (fun _ v n => v = .int (n : Nat)))) : CalX P w K mg base 6 "read_word" (spR CR CM CO wordM AtF) := by
  refine calX0 D b sc_read_word (fun vs H Q E h => ?_) (fun cdv A outer s H vs Q E hr h => ?_)
  · obtain ⟨_, _, _, _, rfl, _⟩ := h
    rfl
  · obtain ⟨r, F, len, ts, rfl, hr0, res⟩ := h
    refine ⟨_, (pss_cons (ps_set (i := 1) sc_read_word.nd rfl (by first | exact Or.inl rfl | exact Or.inr rfl) (pe_mtx m_Reader_take hr (by decide) (passes_call (takes_of rfl rfl rfl rfl) (fun _ _ _ _ h => h)) (pv 0) (pa_cons pe_str pa_nil))) (pss_cons (ps_expr (pe_mtx m_Reader_skip hr (by decide) (passes_call (takes_of rfl rfl rfl rfl) (fun _ _ _ _ h => h)) (pv 0) (pa_cons pe_str pa_nil))) (pss_cons (ps_set (i := 2) sc_read_word.nd rfl (by first | exact Or.inl rfl | exact Or.inr rfl) (pe_mtx m_Reader_take hr (by decide) (passes_call (takes_of rfl rfl rfl rfl) (fun _ _ _ _ h => h)) (pv 0) (pa_cons pe_str pa_nil))) (pss_cons (ps_expr (pe_mtx m_Reader_skip hr (by decide) (passes_call (takes_of rfl rfl rfl rfl) (fun _ _ _ _ h => h)) (pv 0) (pa_cons pe_str pa_nil))) (pss_cons (ps_set (i := 3) sc_read_word.nd rfl (by first | exact Or.inl rfl | exact Or.inr rfl) (C8.pe_mt m_Reader_passes hr (by decide) (pv 0) (pa_cons pe_str pa_nil))) (pss_cons (ps_if (pt_not (pt_val (pv 3))) (pss_one (ps_expr (pe_mtx m_Reader_skip hr (by decide) (passes_call (takes_of rfl rfl rfl rfl) (fun _ _ _ _ h => h)) (pv 0) (pa_cons pe_str pa_nil)))) pss_nil) (pss_cons (ps_set (i := 4) sc_read_word.nd rfl (by first | exact Or.inl rfl | exact Or.inr rfl) (pe_tup (pa_cons pe_str (pa_cons (pv 1) (pa_cons (pv 2) (pa_cons (pe_cx c_read_output hr (by decide) (passes_call (takes_of rfl rfl rfl rfl) (fun _ _ _ _ h => h)) (by rfl) (pa_cons (pv 0) pa_nil)) pa_nil)))))) (pss_one (ps_ret (pe_ifExp (pt_val (pv 3)) (pe_tup (pa_cons pe_str (pa_cons (pv 4) pa_nil))) (pv 4))))))))))), ?_⟩
    walk_at "rd"
    unfold wordM at res
    refine rm hr0 "take" (by decide +kernel) (wordB hr0 res fun x ts1 H1 e1 b1 hr1 res => ?_)
    refine rm hr1 "skip" (by decide +kernel) (skipB hr1 res fun ts2 H2 e2 b2 hr2 res => ?_)
    refine rm hr2 "take" (by decide +kernel) (nameB hr2 res fun z ts3 H3 e3 b3 hr3 res => ?_)
    refine rm hr3 "skip" (by decide +kernel) (skipB hr3 res fun ts4 H4 e4 b4 hr4 res => ?_)
    refine rm hr4 "passes" (by decide +kernel) (passB hr4 (fun H5 e b5 hr5 => ⟨_, rfl, ?_⟩) (fun e => ⟨_, rfl, ?_⟩))
    · rw [e, if_pos rfl] at res
      rw [if_neg (by decide)]
      refine rdB hr5 (res.but b5) fun n ts6 v H6 e6 b6 hr6 hv res => ?_
      subst hv
      refine ⟨by decide, fun p hp => ⟨_, rfl, ?_⟩⟩
      rw [if_pos rfl]
      exact ⟨by decide, fun p2 hp2 => res _ _ (But.of ((same_upd hp).trans (same_upd hp2))) (hr6.same ((same_upd hp).trans (same_upd hp2))) ⟨p2, rfl, p, upd_same, (same_upd hp2) _ _ upd_same⟩⟩
    · rw [e, if_neg (by decide)] at res
      rw [if_pos rfl]
      refine rm hr4 "skip" (by decide +kernel) (skipB hr4 res fun ts5 H5 e5 b5 hr5 res => ?_)
      refine rdB hr5 res fun n ts6 v H6 e6 b6 hr6 hv res => ?_
      subst hv
      refine ⟨by decide, fun p hp => ⟨_, rfl, ?_⟩⟩
      rw [if_neg (by decide)]
      exact res _ _ (But.of (same_upd hp)) (hr6.same (same_upd hp)) ⟨p, rfl, upd_same⟩

end
end
section
local macro_rules | `(tactic| walk_at "rd") => `(tactic| simp only [tSeq, tNext, tAsg, gName, tRet, tRetN, tIfS, tDrop, tVar, tC, tOp, tUn, tTest, tCB, tCons, tNil, tB, tAnd, tOr, tNot, tAndV, tOrV, tNotV, tIf, tCall, tTup, tLst, tSl, tPart, tNoPart, tM0, tM1, tBM, tChain, tBreak, tCont, tNever, tAug, ipI, tPar, tyV_str,
  tFor_eq, tLc_eq, tMkO, tYes, wipe, ofStr_S, S_cat, one_S, len_S, S_iff, S_cps, Int.zero_add, gNil, gCons, gTup, gSub, iRng1, iRng2, iList, iTup, iStr, rI0, rI, rU, rEq, rNe, rIxL, rIxT, rIxS, Dw.rLen, rListOf, rTupOf, rNotB, rIsB, rMulS, rIn, rCat, rAppend, rCatA, rEqD, rNeD, C8.rSlX, tDGet, Int.toNat_natCast, WE, iEnum, iRev, rSum, tFd, tFs, tFa_eq, L2.rAdd, tMake, tMakeS, tMeth, Dw.tMethS, tCallS, rSlL, rSlA, tDGet2, tDIn, tDNotIn, rSetD, rAll, rKIn, tBM0, rPop, rExtend, tAddT, rAddT, rSetT0, Dw.rSetL, rSortT, StX.tStar, tDNewK, tDisp, tPairs, L2.start, cxOf_K, cxOf_w, cxOf_prog,
  List.map_cons, List.map_nil, List.length_cons, List.length_nil, List.replicate, List.cons_append, List.nil_append, Nat.reduceAdd, Nat.reduceSub, Nat.zero_add, List.append_nil,
  List.set_cons_zero, List.set_cons_succ, List.getElem?_cons_zero, List.getElem?_cons_succ, Option.some.injEq, V.int.injEq, V.bl.injEq, V.ref.injEq, V.str.injEq, V.ty.injEq, List.cons.injEq, and_true, true_and, reduceCtorEq, false_and, exists_false, or_false, false_or, exists_eq_left, exists_eq_left', exists_eq', sw_S, an_S, exists_and_left, exists_const, exists_eq, decide_eq_true_eq, Bool.false_eq_true, if_true, if_false, Bool.not_eq_true', decide_eq_false_iff_not, Bool.not_true, Bool.not_false, ite_not, scal, and_false])
section
variable {P : Program} {w : World} {K : PySem.W.Frag} {mg : Str → Option Value} {base : Heap}
def spL (CR CM CO : Addr) (M : Nat → List Tk → Rs Fm) (n : Nat) : Sp := fun vs H Q E => ∃ r F len ts, vs = [.ref r, .int (31 - (n : Nat))] ∧ RdAt CR F H r len ts ∧ RRes CR CM CO F r len H Q E AtF (M len ts)
theorem lvB {α : Type} {CR CM CO F r : Addr} {len n : Nat} {ts : List Tk} {H : Hp} {Q Q1 : VK} {E : XK} {At : Hp → V → α → Prop} {i : Int} {M : Nat → List Tk → Rs Fm} {k : Fm → List Tk → Rs α} (hr : RdAt CR F H r len ts) (hi : i = 31 - (n : Nat)) (res : RRes CR CM CO F r len H Q E At ((M len ts).bind k)) (q : ∀ f ts2 t H1, M len ts = .ok f ts2 → But r H H1 → RdAt CR F H1 r len ts2 → FmAt H1 t f → RRes CR CM CO F r len H1 Q E At (k f ts2) → Q1 (.ref t) H1) : spL CR CM CO M n [.ref r, .int i] H Q1 E := by
  subst hi
  refine ⟨r, F, len, ts, rfl, hr, res.bindI fun a ts2 v H1 e b1 hr1 hv res => ?_⟩
  obtain ⟨t, rfl, ht⟩ := hv
  exact q a ts2 t H1 e b1 hr1 ht res
theorem c_read_both {f : Addr} {fd : FuncData} (D : C8.Def K mg "read_both" s_read_both f fd) (b : Binds K fd ["reader", "level"] []) {n : Nat} (hn : n ≤ 30) {CR CM CO : Addr} (m_Reader_passes : C8.Met P w K mg base 2 CR "passes" (sp_passes CR) []) (c_read_unit : CalX P w K mg base (6 * n + 8) "read_unit" (spL CR CM CO (fun len ts => unitM len n ts) n)) : CalX P w K mg base (6 * n + 9) "read_both" (spL CR CM CO (fun len ts => bothM (unitM len n) ts) n) := by
  refine calX0 D b sc_read_both (fun vs H Q E h => ?_) (fun cdv A outer s H vs Q E hr h => ?_)
  · obtain ⟨_, _, _, _, rfl, _⟩ := h
    rfl
  · obtain ⟨r, F, len, ts, rfl, hr0, res⟩ := h
    refine ⟨_, (pss_cons (ps_set (i := 2) sc_read_both.nd rfl (by first | exact Or.inl rfl | exact Or.inr rfl) (pe_cx c_read_unit hr (by omega) (passes_call (takes_of rfl rfl rfl rfl) (fun _ _ _ _ h => h)) (by rfl) (pa_cons (pv 0) (pa_cons (pv 1) pa_nil)))) (pss_cons (ps_while (passes_of rfl) (pt_val (C8.pe_mt m_Reader_passes hr (by omega) (pv 0) (pa_cons pe_str pa_nil))) (pss_one (ps_set (i := 2) sc_read_both.nd rfl (by first | exact Or.inl rfl | exact Or.inr rfl) (pe_tup (pa_cons pe_str (pa_cons (pv 2) (pa_cons (pe_cx c_read_unit hr (by omega) (passes_call (takes_of rfl rfl rfl rfl) (fun _ _ _ _ h => h)) (by rfl) (pa_cons (pv 0) (pa_cons (pv 1) pa_nil))) pa_nil))))))) (pss_one (ps_ret (pv 2))))), ?_⟩
    walk_at "rd"
    unfold bothM at res
    refine lvB hr0 rfl res fun f1 ts1 t H1 e1 b1 hr1 ht res => ?_
    have hl5 := hr1.few
    obtain ⟨W, hW⟩ : ∃ W : Nat → L2.St → Hp → Prop, W = fun m σ H2 => ∃ (t : Addr) (f : Fm) (ts2 : List Tk), σ = [some (V.ref r), some (V.int (31 - (n : Nat))), some (V.ref t)] ∧ FmAt H2 t f ∧ RdAt CR F H2 r len ts2 ∧ RRes CR CM CO F r len H2 Q E AtF (loopM (cs "&") 0 (unitM len n) m f ts2) := ⟨_, rfl⟩
    refine while_W W ?_ ?_
    · rw [hW]
      exact ⟨_, t, f1, ts1, rfl, ht, hr1, res⟩
    intro m σ H2 hw
    rw [hW] at hw
    obtain ⟨t2, f2, ts2, rfl, ht2, hr2, res2⟩ := hw
    cases m with
    | zero => exact res2.elim
    | succ m =>
      walk_at "rd"
      unfold loopM at res2
      refine rm hr2 "passes" (by decide +kernel) (passB hr2 (fun H3 e b3 hr3 => ⟨_, rfl, ?_⟩) (fun e => ⟨_, rfl, ?_⟩))
      · rw [e, if_pos rfl] at res2
        rw [if_pos rfl]
        refine nxw_of fun N hN => ?_
        walk_at "rd"
        refine lvB (M := fun len ts => unitM len n ts) hr3 rfl (res2.but b3) fun g ts4 t4 H4 e4 b4 hr4 ht4 res4 => ⟨by decide, fun p hp => hN m _ _ (Nat.lt_succ_self m) ?_⟩
        rw [hW]
        have sp := same_upd (o := .tup [V.str (S (cs "and")), V.ref t2, V.ref t4]) hp
        have hf2 := (ht2.tups (hr2.tups b3)).tups (hr3.tups b4)
        exact ⟨p, .bin 0 f2 g, ts4, rfl, ⟨t2, t4, upd_same, hf2.tups (Tups.same sp), ht4.tups (Tups.same sp)⟩, hr4.same sp, res4.but (But.of sp)⟩
      · rw [e, if_neg (by decide)] at res2
        rw [if_neg (by decide)]
        exact res2 _ _ (But.refl _ _) hr2 ⟨t2, rfl, ht2⟩
theorem c_read_either {f : Addr} {fd : FuncData} (D : C8.Def K mg "read_either" s_read_either f fd) (b : Binds K fd ["reader", "level"] []) {n : Nat} (hn : n ≤ 30) {CR CM CO : Addr} (m_Reader_passes : C8.Met P w K mg base 2 CR "passes" (sp_passes CR) []) (c_read_both : CalX P w K mg base (6 * n + 9) "read_both" (spL CR CM CO (fun len ts => bothM (unitM len n) ts) n)) : CalX P w K mg base (6 * n + 10) "read_either" (spL CR CM CO (fun len ts => eitherM (unitM len n) ts) n) := by
  refine calX0 D b sc_read_either (fun vs H Q E h => ?_) (fun cdv A outer s H vs Q E hr h => ?_)
  · obtain ⟨_, _, _, _, rfl, _⟩ := h
    rfl
  · obtain ⟨r, F, len, ts, rfl, hr0, res⟩ := h
    refine ⟨_, (pss_cons (ps_set (i := 2) sc_read_either.nd rfl (by first | exact Or.inl rfl | exact Or.inr rfl) (pe_cx c_read_both hr (by omega) (passes_call (takes_of rfl rfl rfl rfl) (fun _ _ _ _ h => h)) (by rfl) (pa_cons (pv 0) (pa_cons (pv 1) pa_nil)))) (pss_cons (ps_while (passes_of rfl) (pt_val (C8.pe_mt m_Reader_passes hr (by omega) (pv 0) (pa_cons pe_str pa_nil))) (pss_one (ps_set (i := 2) sc_read_either.nd rfl (by first | exact Or.inl rfl | exact Or.inr rfl) (pe_tup (pa_cons pe_str (pa_cons (pv 2) (pa_cons (pe_cx c_read_both hr (by omega) (passes_call (takes_of rfl rfl rfl rfl) (fun _ _ _ _ h => h)) (by rfl) (pa_cons (pv 0) (pa_cons (pv 1) pa_nil))) pa_nil))))))) (pss_one (ps_ret (pv 2))))), ?_⟩
    walk_at "rd"
    unfold eitherM at res
    refine lvB hr0 rfl res fun f1 ts1 t H1 e1 b1 hr1 ht res => ?_
    have hl5 := hr1.few
    obtain ⟨W, hW⟩ : ∃ W : Nat → L2.St → Hp → Prop, W = fun m σ H2 => ∃ (t : Addr) (f : Fm) (ts2 : List Tk), σ = [some (V.ref r), some (V.int (31 - (n : Nat))), some (V.ref t)] ∧ FmAt H2 t f ∧ RdAt CR F H2 r len ts2 ∧ RRes CR CM CO F r len H2 Q E AtF (loopM (cs "|") 1 (bothM (unitM len n)) m f ts2) := ⟨_, rfl⟩
    refine while_W W ?_ ?_
    · rw [hW]
      exact ⟨_, t, f1, ts1, rfl, ht, hr1, res⟩
    intro m σ H2 hw
    rw [hW] at hw
    obtain ⟨t2, f2, ts2, rfl, ht2, hr2, res2⟩ := hw
    cases m with
    | zero => exact res2.elim
    | succ m =>
      walk_at "rd"
      unfold loopM at res2
      refine rm hr2 "passes" (by decide +kernel) (passB hr2 (fun H3 e b3 hr3 => ⟨_, rfl, ?_⟩) (fun e => ⟨_, rfl, ?_⟩))
      · rw [e, if_pos rfl] at res2
        rw [if_pos rfl]
        refine nxw_of fun N hN => ?_
        walk_at "rd"
        refine lvB (M := fun len ts => bothM (unitM len n) ts) hr3 rfl (res2.but b3) fun g ts4 t4 H4 e4 b4 hr4 ht4 res4 => ⟨by decide, fun p hp => hN m _ _ (Nat.lt_succ_self m) ?_⟩
        rw [hW]
        have sp := same_upd (o := .tup [V.str (S (cs "or")), V.ref t2, V.ref t4]) hp
        have hf2 := (ht2.tups (hr2.tups b3)).tups (hr3.tups b4)
        exact ⟨p, .bin 1 f2 g, ts4, rfl, ⟨t2, t4, upd_same, hf2.tups (Tups.same sp), ht4.tups (Tups.same sp)⟩, hr4.same sp, res4.but (But.of sp)⟩
      · rw [e, if_neg (by decide)] at res2
        rw [if_neg (by decide)]
        exact res2 _ _ (But.refl _ _) hr2 ⟨t2, rfl, ht2⟩
theorem c_read_implied {f : Addr} {fd : FuncData} (D : C8.Def K mg "read_implied" s_read_implied f fd) (b : Binds K fd ["reader", "level"] []) {n : Nat} (hn : n ≤ 30) {CR CM CO : Addr} (m_Reader_passes : C8.Met P w K mg base 2 CR "passes" (sp_passes CR) []) (c_read_either : CalX P w K mg base (6 * n + 10) "read_either" (spL CR CM CO (fun len ts => eitherM (unitM len n) ts) n)) : CalX P w K mg base (6 * n + 11) "read_implied" (spL CR CM CO (fun len ts => impM (unitM len n) ts) n) := by
  refine calX0 D b sc_read_implied (fun vs H Q E h => ?_) (fun cdv A outer s H vs Q E hr h => ?_)
  · obtain ⟨_, _, _, _, rfl, _⟩ := h
    rfl
  · obtain ⟨r, F, len, ts, rfl, hr0, res⟩ := h
    refine ⟨_, (pss_cons (ps_set (i := 2) sc_read_implied.nd rfl (by first | exact Or.inl rfl | exact Or.inr rfl) (pe_cx c_read_either hr (by omega) (passes_call (takes_of rfl rfl rfl rfl) (fun _ _ _ _ h => h)) (by rfl) (pa_cons (pv 0) (pa_cons (pv 1) pa_nil)))) (pss_cons (ps_if (pt_val (C8.pe_mt m_Reader_passes hr (by omega) (pv 0) (pa_cons pe_str pa_nil))) (pss_one (ps_ret (pe_tup (pa_cons pe_str (pa_cons (pv 2) (pa_cons (pe_cx c_read_either hr (by omega) (passes_call (takes_of rfl rfl rfl rfl) (fun _ _ _ _ h => h)) (by rfl) (pa_cons (pv 0) (pa_cons (pv 1) pa_nil))) pa_nil)))))) pss_nil) (pss_one (ps_ret (pv 2))))), ?_⟩
    walk_at "rd"
    unfold impM at res
    refine lvB (M := fun len ts => eitherM (unitM len n) ts) hr0 rfl res fun f1 ts1 t H1 e1 b1 hr1 ht res => ?_
    refine rm hr1 "passes" (by decide +kernel) (passB hr1 (fun H2 e b2 hr2 => ⟨_, rfl, ?_⟩) (fun e => ⟨_, rfl, ?_⟩))
    · rw [e, if_pos rfl] at res
      rw [if_pos rfl]
      refine lvB (M := fun len ts => eitherM (unitM len n) ts) hr2 rfl (res.but b2) fun g ts3 t3 H3 e3 b3 hr3 ht3 res => ⟨by decide, fun p hp => ?_⟩
      have sp := same_upd (o := .tup [V.str (S (cs "imp")), V.ref t, V.ref t3]) hp
      have hf := (ht.tups (hr1.tups b2)).tups (hr2.tups b3)
      exact res _ _ (But.of sp) (hr3.same sp) ⟨p, rfl, t, t3, upd_same, hf.tups (Tups.same sp), ht3.tups (Tups.same sp)⟩
    · rw [e, if_neg (by decide)] at res
      rw [if_neg (by decide)]
      exact res _ _ (But.refl _ _) hr1 ⟨t, rfl, ht⟩
theorem c_read_formula {f : Addr} {fd : FuncData} (D : C8.Def K mg "read_formula" s_read_formula f fd) (b : Binds K fd ["reader", "level"] []) {n : Nat} (hn : n ≤ 30) {CR CM CO : Addr} (m_Reader_passes : C8.Met P w K mg base 2 CR "passes" (sp_passes CR) []) (c_read_implied : CalX P w K mg base (6 * n + 11) "read_implied" (spL CR CM CO (fun len ts => impM (unitM len n) ts) n)) : CalX P w K mg base (6 * n + 12) "read_formula" (spL CR CM CO (fun len ts => formM (unitM len n) ts) n) := by
  refine calX0 D b sc_read_formula (fun vs H Q E h => ?_) (fun cdv A outer s H vs Q E hr h => ?_)
  · obtain ⟨_, _, _, _, rfl, _⟩ := h
    rfl
  · obtain ⟨r, F, len, ts, rfl, hr0, res⟩ := h
    refine ⟨_, (pss_cons (ps_set (i := 2) sc_read_formula.nd rfl (by first | exact Or.inl rfl | exact Or.inr rfl) (pe_cx c_read_implied hr (by omega) (passes_call (takes_of rfl rfl rfl rfl) (fun _ _ _ _ h => h)) (by rfl) (pa_cons (pv 0) (pa_cons (pv 1) pa_nil)))) (pss_cons (ps_if (pt_val (C8.pe_mt m_Reader_passes hr (by omega) (pv 0) (pa_cons pe_str pa_nil))) (pss_one (ps_ret (pe_tup (pa_cons pe_str (pa_cons (pv 2) (pa_cons (pe_cx c_read_implied hr (by omega) (passes_call (takes_of rfl rfl rfl rfl) (fun _ _ _ _ h => h)) (by rfl) (pa_cons (pv 0) (pa_cons (pv 1) pa_nil))) pa_nil)))))) pss_nil) (pss_one (ps_ret (pv 2))))), ?_⟩
    walk_at "rd"
    unfold formM at res
    refine lvB (M := fun len ts => impM (unitM len n) ts) hr0 rfl res fun f1 ts1 t H1 e1 b1 hr1 ht res => ?_
    refine rm hr1 "passes" (by decide +kernel) (passB hr1 (fun H2 e b2 hr2 => ⟨_, rfl, ?_⟩) (fun e => ⟨_, rfl, ?_⟩))
    · rw [e, if_pos rfl] at res
      rw [if_pos rfl]
      refine lvB (M := fun len ts => impM (unitM len n) ts) hr2 rfl (res.but b2) fun g ts3 t3 H3 e3 b3 hr3 ht3 res => ⟨by decide, fun p hp => ?_⟩
      have sp := same_upd (o := .tup [V.str (S (cs "iff")), V.ref t, V.ref t3]) hp
      have hf := (ht.tups (hr1.tups b2)).tups (hr2.tups b3)
      exact res _ _ (But.of sp) (hr3.same sp) ⟨p, rfl, t, t3, upd_same, hf.tups (Tups.same sp), ht3.tups (Tups.same sp)⟩
    · rw [e, if_neg (by decide)] at res
      rw [if_neg (by decide)]
      exact res _ _ (But.refl _ _) hr1 ⟨t, rfl, ht⟩

end
end
section
local macro_rules | `(tactic| walk_at "rd") => `(tactic| simp only [tSeq, tNext, tAsg, gName, tRet, tRetN, tIfS, tDrop, tVar, tC, tOp, tUn, tTest, tCB, tCons, tNil, tB, tAnd, tOr, tNot, tAndV, tOrV, tNotV, tIf, tCall, tTup, tLst, tSl, tPart, tNoPart, tM0, tM1, tBM, tChain, tBreak, tCont, tNever, tAug, ipI, tPar, tyV_str,
  tFor_eq, tLc_eq, tMkO, tYes, wipe, ofStr_S, S_cat, one_S, len_S, S_iff, S_cps, Int.zero_add, gNil, gCons, gTup, gSub, iRng1, iRng2, iList, iTup, iStr, rI0, rI, rU, rEq, rNe, rIxL, rIxT, rIxS, Dw.rLen, rListOf, rTupOf, rNotB, rIsB, rMulS, rIn, rCat, rAppend, rCatA, rEqD, rNeD, C8.rSlX, tDGet, Int.toNat_natCast, WE, iEnum, iRev, rSum, tFd, tFs, tFa_eq, L2.rAdd, tMake, tMakeS, tMeth, Dw.tMethS, tCallS, rSlL, rSlA, tDGet2, tDIn, tDNotIn, rSetD, rAll, rKIn, tBM0, rPop, rExtend, tAddT, rAddT, rSetT0, Dw.rSetL, rSortT, StX.tStar, tDNewK, tDisp, tPairs, L2.start, cxOf_K, cxOf_w, cxOf_prog,
  List.map_cons, List.map_nil, List.length_cons, List.length_nil, List.replicate, List.cons_append, List.nil_append, Nat.reduceAdd, Nat.reduceSub, Nat.zero_add, List.append_nil,
  List.set_cons_zero, List.set_cons_succ, List.getElem?_cons_zero, List.getElem?_cons_succ, Option.some.injEq, V.int.injEq, V.bl.injEq, V.ref.injEq, V.str.injEq, V.ty.injEq, List.cons.injEq, and_true, true_and, reduceCtorEq, false_and, exists_false, or_false, false_or, exists_eq_left, exists_eq_left', exists_eq', sw_S, an_S, exists_and_left, exists_const, exists_eq, decide_eq_true_eq, Bool.false_eq_true, if_true, if_false, Bool.not_eq_true', decide_eq_false_iff_not, Bool.not_true, Bool.not_false, ite_not, scal, and_false])
section
variable {P : Program} {w : World} {K : PySem.W.Frag} {mg : Str → Option Value} {base : Heap}
theorem qf_fold (k : Bool) (f : Fm) (zs : List (List Nat)) : zs.reverse.foldl (fun f z => Fm.qf k z f) f = zs.foldr (fun z f => .qf k z f) f := by
  rw [List.foldl_reverse]
theorem c_read_quantified {f : Addr} {fd : FuncData} (D : C8.Def K mg "read_quantified" s_read_quantified f fd) (b : Binds K fd ["reader", "level"] []) {n : Nat} (hn : n ≤ 30) {CR CM CO : Addr} (m_Reader_skip : MetX P w K mg base 4 CR "skip" (sp_skip CR CM)) (m_Reader_take : MetX P w K mg base 4 CR "take" (sp_rtake CR CM)) (c_read_names : CalX P w K mg base 5 "read_names" (spR CR CM CO namesM AtNs)) (c_read_formula : CalX P w K mg base (6 * n + 12) "read_formula" (spL CR CM CO (fun len ts => formM (unitM len n) ts) n)) (z_reversed : mg "reversed" = none) : CalX P w K mg base (6 * n + 13) "read_quantified" (spL CR CM CO (fun len ts => quantM len (unitM len n) ts) (n + 1)) := by
  refine calX0 D b sc_read_quantified (fun vs H Q E h => ?_) (fun cdv A outer s H vs Q E hr h => ?_)
  · obtain ⟨_, _, _, _, rfl, _⟩ := h
    rfl
  · obtain ⟨r, F, len, ts, rfl, hr0, res⟩ := h
    refine ⟨_, (pss_cons (ps_set (i := 2) sc_read_quantified.nd rfl (by first | exact Or.inl rfl | exact Or.inr rfl) (pe_mtx m_Reader_take hr (by omega) (passes_call (takes_of rfl rfl rfl rfl) (fun _ _ _ _ h => h)) (pv 0) (pa_cons pe_str pa_nil))) (pss_cons (ps_set (i := 3) sc_read_quantified.nd rfl (by first | exact Or.inl rfl | exact Or.inr rfl) (pe_cx c_read_names hr (by omega) (passes_call (takes_of rfl rfl rfl rfl) (fun _ _ _ _ h => h)) (by rfl) (pa_cons (pv 0) pa_nil))) (pss_cons (ps_expr (pe_mtx m_Reader_skip hr (by omega) (passes_call (takes_of rfl rfl rfl rfl) (fun _ _ _ _ h => h)) (pv 0) (pa_cons pe_str pa_nil))) (pss_cons (ps_set (i := 4) sc_read_quantified.nd rfl (by first | exact Or.inl rfl | exact Or.inr rfl) (pe_cx c_read_formula hr (by omega) (passes_call (takes_of rfl rfl rfl rfl) (fun _ _ _ _ h => h)) (by rfl) (pa_cons (pv 0) (pa_cons (pe_op op_add (pv 1) pe_int) pa_nil)))) (pss_cons (ps_for (passes_of rfl) rfl (piRev K (by rfl) z_reversed (pa_cons (pv 3) pa_nil)) (pg_name (i := 5) sc_read_quantified.nd rfl (by first | exact Or.inl rfl | exact Or.inr rfl)) (pss_one (ps_set (i := 4) sc_read_quantified.nd rfl (by first | exact Or.inl rfl | exact Or.inr rfl) (pe_tup (pa_cons (pv 2) (pa_cons (pv 5) (pa_cons (pv 4) pa_nil))))))) (pss_one (ps_ret (pv 4)))))))), ?_⟩
    walk_at "rd"
    unfold quantM at res
    refine rm hr0 "take" (by decide +kernel) (resB hr0 res fun q ts1 H1 e1 b1 hr1 res => ?_)
    refine rdB hr1 res fun zs ts2 v H2 e2 b2 hr2 hv res => ?_
    obtain ⟨l, rfl, h2l⟩ := hv
    have nlr : l ≠ r := by
      obtain ⟨dx, as', T, i, g1, _⟩ := hr2.ex
      exact ne_of h2l g1 (by intro z; cases z)
    refine rm hr2 "skip" (by decide +kernel) (skipB hr2 res fun ts3 H3 e3 b3 hr3 res => ?_)
    have h3l := b3 _ _ nlr h2l
    refine lvB (M := fun len ts => formM (unitM len n) ts) hr3 (by omega) res fun f1 ts4 t H4 e4 b4 hr4 ht res => ?_
    have h4l := b4 _ _ nlr h3l
    refine ⟨l, rfl, _, SqL.of h4l, ?_⟩
    have main : ∀ (k : Bool) (ok : ∀ t2 H5, Same H4 H5 → FmAt H5 t2 (zs.foldr (fun z f => .qf k z f) f1) → Q (.ref t2) H5), q = kQf k → ForJ (Itv K l (zs.map vS).length) (gName 5) (tAsg (tTup (tCons (tVar 2) (tCons (tVar 5) (tCons (tVar 4) tNil)))) (gName 4)) { nx := tRet (tVar 4) { nx := fun x H' => Q V.non H', rt := Q }, rt := Q } [some (V.ref r), some (V.int (31 - ((n + 1 : Nat) : Int))), some (V.str (S q)), some (V.ref l), some (V.ref t), none] H4 := by
      intro k ok hk
      refine for_itN (walk_rev (xs := zs.map vS)) (fun i σ H5 => ∃ (t2 : Addr) (u5 : Option V), σ = [some (V.ref r), some (V.int (31 - ((n + 1 : Nat) : Int))), some (V.str (S q)), some (V.ref l), some (V.ref t2), u5] ∧ Same H4 H5 ∧ FmAt H5 t2 ((zs.reverse.take i).foldl (fun f z => .qf k z f) f1)) ?_ ?_ ?_ ?_
      · exact ⟨t, none, rfl, Same.refl _, ht⟩
      · rintro i σ H5 _ ⟨_, _, _, s5, _⟩
        exact SqL.of (s5 _ _ h4l)
      · rintro i x σ H5 H6 N hi ⟨t2, u5, rfl, s5, ht2⟩ ⟨rfl, hy⟩ hN
        rw [List.length_map] at hi hy
        rw [List.getElem?_map] at hy
        obtain ⟨z, hz, rfl⟩ := Option.map_eq_some_iff.mp hy
        have hrev : zs.reverse[i]? = some z := by rw [List.getElem?_reverse (by omega)]; exact hz
        walk_at "rd"
        refine ⟨by decide, fun p hp => hN _ _ ⟨p, _, rfl, s5.trans (same_upd hp), ?_⟩⟩
        rw [List.take_add_one, hrev, List.foldl_append]
        exact ⟨t2, by rw [upd_same, hk]; rfl, ht2.tups (Tups.same (same_upd hp))⟩
      · rintro σ H5 ⟨t2, u5, rfl, s5, ht2⟩
        rw [List.length_map, List.take_of_length_le (by rw [List.length_reverse]; exact Nat.le_refl _), qf_fold] at ht2
        walk_at "rd"
        exact ok t2 H5 s5 ht2
    by_cases q1 : q = cs "some"
    · rw [if_pos q1] at res
      exact main true (fun t2 H5 s5 h5 => res _ _ (But.of s5) (hr4.same s5) ⟨t2, rfl, h5⟩) q1
    · rw [if_neg q1] at res
      by_cases q2 : q = cs "all"
      · rw [if_pos q2] at res
        exact main false (fun t2 H5 s5 h5 => res _ _ (But.of s5) (hr4.same s5) ⟨t2, rfl, h5⟩) q2
      · rw [if_neg q2] at res
        exact res.elim

end
end
section
local macro_rules | `(tactic| walk_at "rd") => `(tactic| simp only [tSeq, tNext, tAsg, gName, tRet, tRetN, tIfS, tDrop, tVar, tC, tOp, tUn, tTest, tCB, tCons, tNil, tB, tAnd, tOr, tNot, tAndV, tOrV, tNotV, tIf, tCall, tTup, tLst, tSl, tPart, tNoPart, tM0, tM1, tBM, tChain, tBreak, tCont, tNever, tAug, ipI, tPar, tyV_str,
  tFor_eq, tLc_eq, tMkO, tYes, wipe, ofStr_S, S_cat, one_S, len_S, S_iff, S_cps, Int.zero_add, gNil, gCons, gTup, gSub, iRng1, iRng2, iList, iTup, iStr, rI0, rI, rU, rEq, rNe, rIxL, rIxT, rIxS, Dw.rLen, rListOf, rTupOf, rNotB, rIsB, rMulS, rIn, rCat, rAppend, rCatA, rEqD, rNeD, C8.rSlX, tDGet, Int.toNat_natCast, WE, iEnum, iRev, rSum, tFd, tFs, tFa_eq, L2.rAdd, tMake, tMakeS, tMeth, Dw.tMethS, tCallS, rSlL, rSlA, tDGet2, tDIn, tDNotIn, rSetD, rAll, rKIn, tBM0, rPop, rExtend, tAddT, rAddT, rSetT0, Dw.rSetL, rSortT, StX.tStar, tDNewK, tDisp, tPairs, L2.start, cxOf_K, cxOf_w, cxOf_prog,
  List.map_cons, List.map_nil, List.length_cons, List.length_nil, List.replicate, List.cons_append, List.nil_append, Nat.reduceAdd, Nat.reduceSub, Nat.zero_add, List.append_nil,
  List.set_cons_zero, List.set_cons_succ, List.getElem?_cons_zero, List.getElem?_cons_succ, Option.some.injEq, V.int.injEq, V.bl.injEq, V.ref.injEq, V.str.injEq, V.ty.injEq, List.cons.injEq, and_true, true_and, reduceCtorEq, false_and, exists_false, or_false, false_or, exists_eq_left, exists_eq_left', exists_eq', sw_S, an_S, exists_and_left, exists_const, exists_eq, decide_eq_true_eq, Bool.false_eq_true, if_true, if_false, Bool.not_eq_true', decide_eq_false_iff_not, Bool.not_true, Bool.not_false, ite_not, scal, and_false])
section
variable {P : Program} {w : World} {K : PySem.W.Frag} {mg : Str → Option Value} {base : Heap}
theorem seesA {CR F r : Addr} {len : Nat} {ts : List Tk} {H : Hp} {Q1 : VK} {l : List Nat} {E2 : XK} (hr : RdAt CR F H r len ts) (q1 : seesM l ts = true → Q1 (.bl true) H) (q2 : seesM l ts = false → Q1 (.bl false) H) : sp_sees CR [.ref r, .str (S l), .int 0] H Q1 E2 := by
  refine ⟨r, F, l, 0, len, ts, rfl, by decide, hr, ?_⟩
  rw [show seesM l (List.drop 0 ts) = seesM l ts from rfl]
  cases e : seesM l ts with
  | true => exact q1 e
  | false => exact q2 e
theorem seesC {CR F r : Addr} {len : Nat} {ts : List Tk} {H : Hp} {Q1 : VK} {l : List Nat} {E2 : XK} (hr : RdAt CR F H r len ts) (q1 : seesM l ts.tail = true → Q1 (.bl true) H) (q2 : seesM l ts.tail = false → Q1 (.bl false) H) : sp_sees CR [.ref r, .str (S l), .int 1] H Q1 E2 := by
  refine ⟨r, F, l, 1, len, ts, rfl, by decide, hr, ?_⟩
  rw [List.drop_one]
  cases e : seesM l ts.tail with
  | true => exact q1 e
  | false => exact q2 e
theorem c_read_unitS {f : Addr} {fd : FuncData} (D : C8.Def K mg "read_unit" s_read_unit f fd) (b : Binds K fd ["reader", "level"] []) {n : Nat} (hn : n + 1 ≤ 30) {CR CM CO : Addr} (c_read_unit : CalX P w K mg base (6 * n + 8) "read_unit" (spL CR CM CO (fun len ts => unitM len n ts) n)) (c_read_formula : CalX P w K mg base (6 * n + 12) "read_formula" (spL CR CM CO (fun len ts => formM (unitM len n) ts) n)) (c_read_quantified : CalX P w K mg base (6 * n + 13) "read_quantified" (spL CR CM CO (fun len ts => quantM len (unitM len n) ts) (n + 1))) (x_Oversized : ExF P w K mg base "Oversized" CO "limit") (m_Reader_passes : C8.Met P w K mg base 2 CR "passes" (sp_passes CR) []) (m_Reader_sees : C8.Met P w K mg base 1 CR "sees" (sp_sees CR) [.int 0]) (m_Reader_sees2 : C8.Met P w K mg base 1 CR "sees" (sp_sees CR) []) (m_Reader_has_kind : C8.Met P w K mg base 2 CR "has_kind" (sp_haskind CR) []) (m_Reader_skip : MetX P w K mg base 4 CR "skip" (sp_skip CR CM)) (c_read_power : CalX P w K mg base 5 "read_power" (spR CR CM CO powM AtF)) (c_read_word : CalX P w K mg base 6 "read_word" (spR CR CM CO wordM AtF)) (c_read_call : CalX P w K mg base 6 "read_call" (spR CR CM CO callM AtF)) (c_read_comparison : CalX P w K mg base 7 "read_comparison" (spR CR CM CO cmpM AtF)) (g_LEVEL_LIMIT : ∃ u, mg "LEVEL_LIMIT" = some u ∧ RelV (.int 30) u) : CalX P w K mg base (6 * (n + 1) + 8) "read_unit" (spL CR CM CO (fun len ts => unitM len (n + 1) ts) (n + 1)) := by
  refine calX0 D b sc_read_unit (fun vs H Q E h => ?_) (fun cdv A outer s H vs Q E hr h => ?_)
  · obtain ⟨_, _, _, _, rfl, _⟩ := h
    rfl
  · obtain ⟨r, F, len, ts, rfl, hr0, res⟩ := h
    refine ⟨_, (pss_cons (ps_if (pt_cmpR (op_gt) (pv 1) (C8.pe_gc (by rfl) g_LEVEL_LIMIT) (nomark _)) (pss_one (ps_raise rfl (takes_of rfl rfl rfl rfl) (pmk_ex x_Oversized hr (by omega) (by rfl) (pa_cons pe_str pa_nil)))) pss_nil) (pss_cons (ps_if (pt_val (C8.pe_mt m_Reader_passes hr (by omega) (pv 0) (pa_cons pe_str pa_nil))) (pss_one (ps_ret (pe_tup (pa_cons pe_str (pa_cons (pe_cx c_read_unit hr (by omega) (passes_call (takes_of rfl rfl rfl rfl) (fun _ _ _ _ h => h)) (by rfl) (pa_cons (pv 0) (pa_cons (pe_op op_add (pv 1) pe_int) pa_nil))) pa_nil))))) pss_nil) (pss_cons (ps_if (pt_val (C8.pe_mt m_Reader_passes hr (by omega) (pv 0) (pa_cons pe_str pa_nil))) (pss_cons (ps_set (i := 2) sc_read_unit.nd rfl (by first | exact Or.inl rfl | exact Or.inr rfl) (pe_cx c_read_formula hr (by omega) (passes_call (takes_of rfl rfl rfl rfl) (fun _ _ _ _ h => h)) (by rfl) (pa_cons (pv 0) (pa_cons (pe_op op_add (pv 1) pe_int) pa_nil)))) (pss_cons (ps_expr (pe_mtx m_Reader_skip hr (by omega) (passes_call (takes_of rfl rfl rfl rfl) (fun _ _ _ _ h => h)) (pv 0) (pa_cons pe_str pa_nil))) (pss_one (ps_ret (pv 2))))) pss_nil) (pss_cons (ps_if (PW.pt (pw_or (pt_val (C8.pe_mt m_Reader_sees hr (by omega) (pv 0) (pa_cons pe_str pa_nil))) (pw_or1 (pt_val (C8.pe_mt m_Reader_sees hr (by omega) (pv 0) (pa_cons pe_str pa_nil)))))) (pss_one (ps_ret (pe_cx c_read_quantified hr (by omega) (passes_call (takes_of rfl rfl rfl rfl) (fun _ _ _ _ h => h)) (by rfl) (pa_cons (pv 0) (pa_cons (pv 1) pa_nil))))) pss_nil) (pss_cons (ps_if (pt_val (C8.pe_mt m_Reader_sees hr (by omega) (pv 0) (pa_cons pe_str pa_nil))) (pss_one (ps_ret (pe_cx c_read_power hr (by omega) (passes_call (takes_of rfl rfl rfl rfl) (fun _ _ _ _ h => h)) (by rfl) (pa_cons (pv 0) pa_nil)))) pss_nil) (pss_cons (ps_if (pt_val (C8.pe_mt m_Reader_has_kind hr (by omega) (pv 0) (pa_cons pe_str pa_nil))) (pss_one (ps_ret (pe_cx c_read_word hr (by omega) (passes_call (takes_of rfl rfl rfl rfl) (fun _ _ _ _ h => h)) (by rfl) (pa_cons (pv 0) pa_nil)))) pss_nil) (pss_cons (ps_if (PW.pt (pw_and (pt_val (C8.pe_mt m_Reader_has_kind hr (by omega) (pv 0) (pa_cons pe_str pa_nil))) (pw_and1 (pt_val (C8.pe_mt m_Reader_sees2 hr (by omega) (pv 0) (pa_cons pe_str (pa_cons pe_int pa_nil))))))) (pss_one (ps_ret (pe_cx c_read_call hr (by omega) (passes_call (takes_of rfl rfl rfl rfl) (fun _ _ _ _ h => h)) (by rfl) (pa_cons (pv 0) pa_nil)))) pss_nil) (pss_one (ps_ret (pe_cx c_read_comparison hr (by omega) (passes_call (takes_of rfl rfl rfl rfl) (fun _ _ _ _ h => h)) (by rfl) (pa_cons (pv 0) pa_nil))))))))))), ?_⟩
    walk_at "rd"
    rw [if_neg (by omega)]
    unfold unitM at res
    dsimp only at res
    have hi1 : (31 - ((n + 1 : Nat) : Int)) + 1 = 31 - (n : Nat) := by omega
    refine rm hr0 "passes" (by decide +kernel) (passB hr0 (fun H1 e b1 hr1 => ⟨_, rfl, ?_⟩) (fun e => ⟨_, rfl, ?_⟩))
    · rw [if_pos rfl]
      rw [e, if_pos rfl] at res
      refine lvB (M := fun len ts => unitM len n ts) hr1 hi1 (res.but b1) fun f ts2 t H2 e2 b2 hr2 ht res => ⟨by decide, fun p hp => res _ _ (But.of (same_upd hp)) (hr2.same (same_upd hp)) ⟨p, rfl, t, upd_same, ht.tups (Tups.same (same_upd hp))⟩⟩
    rw [if_neg (by decide)]
    rw [e, if_neg (by decide)] at res
    refine rm hr0 "passes" (by decide +kernel) (passB hr0 (fun H1 e b1 hr1 => ⟨_, rfl, ?_⟩) (fun e => ⟨_, rfl, ?_⟩))
    · rw [if_pos rfl]
      rw [e, if_pos rfl] at res
      refine lvB (M := fun len ts => formM (unitM len n) ts) hr1 hi1 (res.but b1) fun f ts2 t H2 e2 b2 hr2 ht res => ?_
      refine rm hr2 "skip" (by decide +kernel) (skipB hr2 res fun ts3 H3 e3 b3 hr3 res => res _ _ (But.refl _ _) hr3 ⟨t, rfl, ht.tups (hr2.tups b3)⟩)
    rw [if_neg (by decide)]
    rw [e, if_neg (by decide)] at res
    have quant : quantM len (unitM len n) ts = quantM len (unitM len n) ts → RRes CR CM CO F r len H Q E AtF (quantM len (unitM len n) ts) → spL CR CM CO (fun len ts => quantM len (unitM len n) ts) (n + 1) [V.ref r, V.int (31 - ((n + 1 : Nat) : Int))] H Q E := fun _ res => ⟨r, F, len, ts, rfl, hr0, res⟩
    refine rm hr0 "sees" (by decide +kernel) (seesA hr0 (fun e => ⟨_, rfl, ?_⟩) (fun e => ⟨_, rfl, ?_⟩))
    · rw [if_pos rfl]
      rw [e, Bool.true_or, if_pos rfl] at res
      exact quant rfl res
    rw [if_neg (by decide)]
    rw [e, Bool.false_or] at res
    refine rm hr0 "sees" (by decide +kernel) (seesA hr0 (fun e => ⟨_, rfl, ?_⟩) (fun e => ⟨_, rfl, ?_⟩))
    · rw [if_pos rfl]
      rw [e, if_pos rfl] at res
      exact quant rfl res
    rw [if_neg (by decide)]
    rw [e, if_neg (by decide)] at res
    refine rm hr0 "sees" (by decide +kernel) (seesA hr0 (fun e => ⟨_, rfl, ?_⟩) (fun e => ⟨_, rfl, ?_⟩))
    · rw [if_pos rfl]
      rw [e, if_pos rfl] at res
      exact ⟨r, F, len, ts, rfl, hr0, res⟩
    rw [if_neg (by decide)]
    rw [e, if_neg (by decide)] at res
    refine rm hr0 "has_kind" (by decide +kernel) ⟨r, F, cs "word", len, ts, rfl, hr0, _, rfl, ?_⟩
    rw [kind_word]
    cases hw : isWord ts with
    | true =>
      rw [if_pos rfl]
      rw [hw, if_pos rfl] at res
      exact ⟨r, F, len, ts, rfl, hr0, res⟩
    | false =>
    rw [if_neg (by decide)]
    rw [hw, if_neg (by decide)] at res
    refine rm hr0 "has_kind" (by decide +kernel) ⟨r, F, cs "name", len, ts, rfl, hr0, _, rfl, ?_⟩
    rw [kind_name]
    cases hnm : isName ts with
    | false =>
      rw [if_neg (by decide)]
      rw [hnm, Bool.false_and, if_neg (by decide)] at res
      exact ⟨r, F, len, ts, rfl, hr0, res⟩
    | true =>
    rw [if_pos rfl]
    rw [hnm, Bool.true_and] at res
    refine rm hr0 "sees" (by decide +kernel) (seesC hr0 (fun e => ⟨_, rfl, ?_⟩) (fun e => ⟨_, rfl, ?_⟩))
    · rw [if_pos rfl]
      rw [e, if_pos rfl] at res
      exact ⟨r, F, len, ts, rfl, hr0, res⟩
    · rw [if_neg (by decide)]
      rw [e, if_neg (by decide)] at res
      exact ⟨r, F, len, ts, rfl, hr0, res⟩
theorem c_read_unit0 {f : Addr} {fd : FuncData} (D : C8.Def K mg "read_unit" s_read_unit f fd) (b : Binds K fd ["reader", "level"] []) {CR CM CO : Addr} (c_read_unit : CalX P w K mg base 1 "read_unit" (fun _ _ _ _ => False)) (c_read_formula : CalX P w K mg base 1 "read_formula" (fun _ _ _ _ => False)) (c_read_quantified : CalX P w K mg base 1 "read_quantified" (fun _ _ _ _ => False)) (x_Oversized : ExF P w K mg base "Oversized" CO "limit") (m_Reader_passes : C8.Met P w K mg base 2 CR "passes" (sp_passes CR) []) (m_Reader_sees : C8.Met P w K mg base 1 CR "sees" (sp_sees CR) [.int 0]) (m_Reader_sees2 : C8.Met P w K mg base 1 CR "sees" (sp_sees CR) []) (m_Reader_has_kind : C8.Met P w K mg base 2 CR "has_kind" (sp_haskind CR) []) (m_Reader_skip : MetX P w K mg base 4 CR "skip" (sp_skip CR CM)) (c_read_power : CalX P w K mg base 5 "read_power" (spR CR CM CO powM AtF)) (c_read_word : CalX P w K mg base 6 "read_word" (spR CR CM CO wordM AtF)) (c_read_call : CalX P w K mg base 6 "read_call" (spR CR CM CO callM AtF)) (c_read_comparison : CalX P w K mg base 7 "read_comparison" (spR CR CM CO cmpM AtF)) (g_LEVEL_LIMIT : ∃ u, mg "LEVEL_LIMIT" = some u ∧ RelV (.int 30) u) : CalX P w K mg base 8 "read_unit" (spL CR CM CO (fun len ts => unitM len 0 ts) 0) := by
  refine calX0 D b sc_read_unit (fun vs H Q E h => ?_) (fun cdv A outer s H vs Q E hr h => ?_)
  · obtain ⟨_, _, _, _, rfl, _⟩ := h
    rfl
  · obtain ⟨r, F, len, ts, rfl, hr0, res⟩ := h
    refine ⟨_, (pss_cons (ps_if (pt_cmpR (op_gt) (pv 1) (C8.pe_gc (by rfl) g_LEVEL_LIMIT) (nomark _)) (pss_one (ps_raise rfl (takes_of rfl rfl rfl rfl) (pmk_ex x_Oversized hr (by decide) (by rfl) (pa_cons pe_str pa_nil)))) pss_nil) (pss_cons (ps_if (pt_val (C8.pe_mt m_Reader_passes hr (by decide) (pv 0) (pa_cons pe_str pa_nil))) (pss_one (ps_ret (pe_tup (pa_cons pe_str (pa_cons (pe_cx c_read_unit hr (by decide) (passes_call (takes_of rfl rfl rfl rfl) (fun _ _ _ _ h => h)) (by rfl) (pa_cons (pv 0) (pa_cons (pe_op op_add (pv 1) pe_int) pa_nil))) pa_nil))))) pss_nil) (pss_cons (ps_if (pt_val (C8.pe_mt m_Reader_passes hr (by decide) (pv 0) (pa_cons pe_str pa_nil))) (pss_cons (ps_set (i := 2) sc_read_unit.nd rfl (by first | exact Or.inl rfl | exact Or.inr rfl) (pe_cx c_read_formula hr (by decide) (passes_call (takes_of rfl rfl rfl rfl) (fun _ _ _ _ h => h)) (by rfl) (pa_cons (pv 0) (pa_cons (pe_op op_add (pv 1) pe_int) pa_nil)))) (pss_cons (ps_expr (pe_mtx m_Reader_skip hr (by decide) (passes_call (takes_of rfl rfl rfl rfl) (fun _ _ _ _ h => h)) (pv 0) (pa_cons pe_str pa_nil))) (pss_one (ps_ret (pv 2))))) pss_nil) (pss_cons (ps_if (PW.pt (pw_or (pt_val (C8.pe_mt m_Reader_sees hr (by decide) (pv 0) (pa_cons pe_str pa_nil))) (pw_or1 (pt_val (C8.pe_mt m_Reader_sees hr (by decide) (pv 0) (pa_cons pe_str pa_nil)))))) (pss_one (ps_ret (pe_cx c_read_quantified hr (by decide) (passes_call (takes_of rfl rfl rfl rfl) (fun _ _ _ _ h => h)) (by rfl) (pa_cons (pv 0) (pa_cons (pv 1) pa_nil))))) pss_nil) (pss_cons (ps_if (pt_val (C8.pe_mt m_Reader_sees hr (by decide) (pv 0) (pa_cons pe_str pa_nil))) (pss_one (ps_ret (pe_cx c_read_power hr (by decide) (passes_call (takes_of rfl rfl rfl rfl) (fun _ _ _ _ h => h)) (by rfl) (pa_cons (pv 0) pa_nil)))) pss_nil) (pss_cons (ps_if (pt_val (C8.pe_mt m_Reader_has_kind hr (by decide) (pv 0) (pa_cons pe_str pa_nil))) (pss_one (ps_ret (pe_cx c_read_word hr (by decide) (passes_call (takes_of rfl rfl rfl rfl) (fun _ _ _ _ h => h)) (by rfl) (pa_cons (pv 0) pa_nil)))) pss_nil) (pss_cons (ps_if (PW.pt (pw_and (pt_val (C8.pe_mt m_Reader_has_kind hr (by decide) (pv 0) (pa_cons pe_str pa_nil))) (pw_and1 (pt_val (C8.pe_mt m_Reader_sees2 hr (by decide) (pv 0) (pa_cons pe_str (pa_cons pe_int pa_nil))))))) (pss_one (ps_ret (pe_cx c_read_call hr (by decide) (passes_call (takes_of rfl rfl rfl rfl) (fun _ _ _ _ h => h)) (by rfl) (pa_cons (pv 0) pa_nil)))) pss_nil) (pss_one (ps_ret (pe_cx c_read_comparison hr (by decide) (passes_call (takes_of rfl rfl rfl rfl) (fun _ _ _ _ h => h)) (by rfl) (pa_cons (pv 0) pa_nil))))))))))), ?_⟩
    walk_at "rd"
    rw [if_pos (by decide)]
    have res' : ∀ H', But r H H' → Rz CO "limit" (.str (S (cs "depth"))) H' E := res
    exact ⟨by decide, fun a ha => by rw [← ofStr_S "limit"]; exact raise_rz (res' _ (But.refl _ _)) ha⟩

end
end
section
local macro_rules | `(tactic| walk_at "rd") => `(tactic| simp only [tSeq, tNext, tAsg, gName, tRet, tRetN, tIfS, tDrop, tVar, tC, tOp, tUn, tTest, tCB, tCons, tNil, tB, tAnd, tOr, tNot, tAndV, tOrV, tNotV, tIf, tCall, tTup, tLst, tSl, tPart, tNoPart, tM0, tM1, tBM, tChain, tBreak, tCont, tNever, tAug, ipI, tPar, tyV_str,
  tFor_eq, tLc_eq, tMkO, tYes, wipe, ofStr_S, S_cat, one_S, len_S, S_iff, S_cps, Int.zero_add, gNil, gCons, gTup, gSub, iRng1, iRng2, iList, iTup, iStr, rI0, rI, rU, rEq, rNe, rIxL, rIxT, rIxS, Dw.rLen, rListOf, rTupOf, rNotB, rIsB, rMulS, rIn, rCat, rAppend, rCatA, rEqD, rNeD, C8.rSlX, tDGet, Int.toNat_natCast, WE, iEnum, iRev, rSum, tFd, tFs, tMake, tMakeS, tMeth, Dw.tMethS, tCallS, rSlL, rSlA, tDGet2, tDIn, tDNotIn, rSetD, rAll, rKIn, tBM0, rPop, rExtend, tAddT, rAddT, rSetT0, Dw.rSetL, rSortT, StX.tStar, tDNewK, tDisp, tPairs, L2.start, cxOf_K, cxOf_w, cxOf_prog,
  List.map_cons, List.map_nil, List.length_cons, List.length_nil, List.replicate, List.cons_append, List.nil_append, Nat.reduceAdd, Nat.reduceSub, Nat.zero_add, List.append_nil,
  List.set_cons_zero, List.set_cons_succ, List.getElem?_cons_zero, List.getElem?_cons_succ, Option.some.injEq, V.int.injEq, V.bl.injEq, V.ref.injEq, V.str.injEq, V.ty.injEq, List.cons.injEq, and_true, true_and, reduceCtorEq, false_and, exists_false, or_false, false_or, exists_eq_left, exists_eq_left', exists_eq', sw_S, an_S, exists_and_left, exists_const, exists_eq, decide_eq_true_eq, Bool.false_eq_true, if_true, if_false, Bool.not_eq_true', decide_eq_false_iff_not, Bool.not_true, Bool.not_false, ite_not, scal, and_false])
section
variable {P : Program} {w : World} {K : PySem.W.Frag} {mg : Str → Option Value} {base : Heap}
theorem preL_subs (f : Fm) (l : Int) : preL f l = (f, l) :: (subs f).flatMap fun g => preL g (l + 1) := by cases f <;> simp [preL, subs]
theorem preLS_rev (fs : List Fm) (l : Int) : preLS ((fs.map fun g => (g, l)).reverse) = fs.flatMap fun g => preL g l := by
  unfold preLS
  rw [List.reverse_reverse, List.flatMap_map]
theorem FmsAt.tups {H H' : Hp} (e : Tups H H') : ∀ {as : List Addr} {fs : List Fm}, FmsAt H as fs → FmsAt H' as fs
  | [], [], _ => trivial
  | _ :: _, _ :: _, ⟨h1, h2⟩ => ⟨h1.tups e, FmsAt.tups e h2⟩
  | [], _ :: _, h => h.elim
  | _ :: _, [], h => h.elim
theorem FmsAt.len {H : Hp} : ∀ {as : List Addr} {fs : List Fm}, FmsAt H as fs → as.length = fs.length
  | [], [], _ => rfl
  | _ :: as, _ :: fs, ⟨_, h2⟩ => congrArg (· + 1) (FmsAt.len (as := as) (fs := fs) h2)
  | [], _ :: _, h => h.elim
  | _ :: _, [], h => h.elim
theorem FmsAt.at_ {H : Hp} : ∀ {as : List Addr} {fs : List Fm} {i : Nat} {a : Addr}, FmsAt H as fs → as[i]? = some a → ∃ f, fs[i]? = some f ∧ FmAt H a f
  | a :: as, f :: fs, 0, _, ⟨h1, _⟩, e => by cases e; exact ⟨f, rfl, h1⟩
  | a :: as, f :: fs, i + 1, _, ⟨_, h2⟩, e => FmsAt.at_ (as := as) (fs := fs) (i := i) h2 e
  | [], [], _, _, _, e => by cases e
  | [], _ :: _, _, _, h, _ => h.elim
  | _ :: _, [], _, _, h, _ => h.elim
theorem subs_few (f : Fm) : (subs f).length ≤ 2 := by cases f <;> simp [subs]
def sp_nodesL : Sp := fun vs H Q _ => ∃ (t : Addr) (f : Fm), vs = [.ref t] ∧ FmAt H t f ∧ szN f ≤ 1000 ∧ ∀ (l : Addr) (es : List Addr) H', Same H H' → H l = none → H' l = some (.lst (es.map V.ref)) → NlAt H' es (preL f 1) → Q (.ref l) H'
theorem c_nodes {f : Addr} {fd : FuncData} (D : C8.Def K mg "nodes" s_nodes f fd) (b : Binds K fd ["formula"] []) (c_parts : C8.Cal P w K mg base 1 "parts" sp_parts []) (z_reversed : mg "reversed" = none) : C8.Cal P w K mg base 2 "nodes" sp_nodesL [] := by
  refine C8.cal0 D b .nil sc_nodes (fun vs H Q E h => ?_) (fun cdv A outer s H vs Q E hr h => ?_)
  · obtain ⟨_, _, rfl, _⟩ := h
    rfl
  · obtain ⟨t, f1, rfl, hf, hsz, ok⟩ := h
    refine ⟨_, (pss_cons (ps_set (i := 1) sc_nodes.nd rfl (by first | exact Or.inl rfl | exact Or.inr rfl) (pe_lst pa_nil)) (pss_cons (ps_set (i := 2) sc_nodes.nd rfl (by first | exact Or.inl rfl | exact Or.inr rfl) (pe_lst (pa_cons (pe_tup (pa_cons (pv 0) (pa_cons pe_int pa_nil))) pa_nil))) (pss_cons (ps_while PassesOwn.never (pt_truth (pv 2) (by intro _; rfl)) (pss_cons (ps_asg (pe_bm0 PySem.F.plainAttrs_list PySem.F.slot_list_pop PySem.F.type_list_pop mt_pop (pv 2)) (pg_tup (n := 2) rfl (pgs_cons (pg_name (i := 3) sc_nodes.nd rfl (by first | exact Or.inl rfl | exact Or.inr rfl)) (pgs_cons (pg_name (i := 4) sc_nodes.nd rfl (by first | exact Or.inl rfl | exact Or.inr rfl)) pgs_nil)))) (C8.pss_cut (ps_expr (pe_bm PySem.F.plainAttrs_list PySem.F.slot_list_append PySem.F.type_list_append mt_append (pv 1) (pa_cons (pe_tup (pa_cons (pv 3) (pa_cons (pv 4) pa_nil))) pa_nil))) (pss_one (ps_expr (pe_bm PySem.F.plainAttrs_list PySem.F.slot_list_extend PySem.F.type_list_extend mt_extend (pv 2) (pa_cons (pe_lc (own := [("part", 5)]) (g := (gName 5)) (tt := tYes) rfl sc_nodes.nd (piRev K (by rfl) z_reversed (pa_cons (C8.pe_c c_parts hr (by decide) (by rfl) (pa_cons (pv 3) pa_nil)) pa_nil)) (blkOk_by (N := N_nodes) (sc := C8.fnScope s_nodes) (by decide +kernel)) (fun _ _ _ _ _ => (pg_name (i := 5) sc_nodes.nd rfl (by first | exact Or.inl rfl | exact Or.inr rfl))) (fun _ _ _ _ _ => pts_nil) (fun _ _ _ _ _ => (pe_tup (pa_cons (pv 5) (pa_cons (pe_op op_add (pv 4) pe_int) pa_nil))))) pa_nil))))))) (pss_one (ps_ret (pv 1)))))), ?_⟩
    walk_at "rd"
    refine ⟨Nat.zero_le _, fun Fd hFd => ⟨by decide, fun T0 hT0 => ⟨by decide, fun Wt hWt => ?_⟩⟩⟩
    have s1 := same_upd (o := .lst []) hFd
    have sT := same_upd (o := .tup [V.ref t, V.int 1]) hT0
    have s2 := s1.trans sT
    have sW := same_upd (o := .lst [V.ref T0]) hWt
    have hW0 : H Wt = none := s2.free hWt
    have hFW : Fd ≠ Wt := ne_of_none (sT _ _ upd_same) hWt
    obtain ⟨W, hW⟩ : ∃ W : Nat → L2.St → Hp → Prop, W = fun m σ H2 => ∃ (das : List Addr) (ds : List (Fm × Int)) (was : List Addr) (xs : List (Fm × Int)) (u3 u4 : Option V), σ = [some (V.ref t), some (V.ref Fd), some (V.ref Wt), u3, u4, none] ∧ H2 Fd = some (.lst (das.map V.ref)) ∧ H2 Wt = some (.lst (was.map V.ref)) ∧ NlAt H2 das ds ∧ NlAt H2 was xs ∧ m = (preLS xs).length ∧ Same H H2 ∧ ds ++ preLS xs = preL f1 1 := ⟨_, rfl⟩
    refine while_W W ?_ ?_
    · rw [hW]
      refine ⟨_, [], [], [T0], [(f1, 1)], none, none, rfl, sW _ _ (sT _ _ upd_same), upd_same, trivial, ⟨⟨t, sW _ _ upd_same, hf.tups (Tups.same (s2.trans sW))⟩, trivial⟩, rfl, s2.trans sW, by simp [preLS]⟩
    intro m σ H2 hw
    rw [hW] at hw
    obtain ⟨das, ds, was, xs, u3, u4, rfl, h2F, h2W, hlv, hst, rfl, s2H, hct⟩ := hw
    walk_at "rd"
    refine ⟨!(was.map V.ref).isEmpty, .inl ⟨_, SqL.of h2W, rfl⟩, ?_⟩
    have hsl := hst.len
    have hfl := preLS_len xs
    have hdl := hlv.len
    have hcl := congrArg List.length hct
    rw [List.length_append] at hcl
    rcases List.eq_nil_or_concat was with e | ⟨was', a, e⟩
    · rw [e] at hst
      cases xs with
      | cons z r => exact hst.elim
      | nil =>
        rw [e]
        refine ok Fd das H2 s2H hFd h2F ?_
        rw [← hct]
        simpa [preLS] using hlv
    · rw [List.concat_eq_append] at e
      rw [e] at hst h2W ⊢
      obtain ⟨xs', ⟨f2, l⟩, rfl, hst', t2, hav, hfx⟩ := hst.split
      rw [if_pos (by simp)]
      refine nxw_of fun N hN => ?_
      walk_at "rd"
      have hW2 : H2 Wt = some (.lst (was'.map V.ref ++ [V.ref a])) := by
        rw [h2W, List.map_append]
        rfl
      refine ⟨tyL hW2, _, hW2, .ref a, by simp, a, rfl, ?_⟩
      rw [List.dropLast_concat]
      have t3 : Tups H2 (upd H2 Wt (.lst (was'.map V.ref))) := tups_lst hW2
      have s3 : Same H (upd H2 Wt (.lst (was'.map V.ref))) := Dw.Same.new s2H hW0
      have h3F : (upd H2 Wt (.lst (was'.map V.ref))) Fd = some (.lst (das.map V.ref)) := by
        rw [upd_ne hFW]
        exact h2F
      refine ⟨_, SqT.of (t3 _ _ hav), rfl, _, _, rfl, _, _, rfl, rfl, ?_⟩
      have h3W : (upd H2 Wt (.lst (was'.map V.ref))) Wt = some (.lst (was'.map V.ref)) := upd_same
      have hst3 := hst'.tups t3
      have hlv3 := hlv.tups t3
      have hfx3 := hfx.tups t3
      obtain ⟨H3, hH3⟩ : ∃ H3, H3 = upd H2 Wt (.lst (was'.map V.ref)) := ⟨_, rfl⟩
      rw [← hH3] at s3 h3W hst3 hlv3 h3F hfx3 ⊢
      have hcl0 := preL_len f1 1
      rw [preLS_snoc, preL_subs] at hct hcl
      dsimp only at hct hcl
      rw [List.length_append, List.length_cons] at hcl
      have hfl2 := preLS_len xs'
      refine cut_by (fun σ' H' => [some (V.ref t), some (V.ref Fd), some (V.ref Wt), some (V.ref t2), some (.int l), none] = σ' ∧ Same H H' ∧ Tups H3 H' ∧ H' Wt = some (.lst (was'.map V.ref)) ∧ ∃ T1, H' Fd = some (.lst ((das ++ [T1]).map V.ref)) ∧ NlAt H' (das ++ [T1]) (ds ++ [(f2, l)])) (fun N2 hN2 => ?_) ?_
      · walk_at "rd"
        refine ⟨tyL h3F, by decide, fun T1 hT1 => ?_⟩
        have sT1 := same_upd (o := .tup [V.ref t2, V.int l]) hT1
        have h4F := sT1 _ _ h3F
        refine ⟨_, h4F, smallt (by rw [List.length_map]; omega), ?_⟩
        have t45 := tups_lst (o := .lst (das.map V.ref ++ [V.ref T1])) h4F
        have t35 := (Tups.same sT1).trans t45
        refine hN2 _ _ ⟨rfl, Dw.Same.new (s3.trans sT1) hFd, t35, by rw [upd_ne hFW.symm]; exact sT1 _ _ h3W, T1, by rw [upd_same, List.map_append]; rfl, (hlv3.tups t35).append ⟨⟨t2, t45 _ _ upd_same, hfx3.tups t35⟩, trivial⟩⟩
      rintro σ' H4 ⟨rfl, s4, t34, h4W, T1, h4F, hlv4⟩
      walk_at "rd"
      refine ⟨tyL h4W, t2, f2, rfl, hfx3.tups t34, fun Pl as H5 s5 hPl ePl hvs => ⟨Pl, rfl, as.map V.ref, SqL.of ePl, fun Dl hDl => ?_⟩⟩
      have hvl := hvs.len
      have hsf := subs_few f2
      refine lc_itN (walk_rev (xs := as.map V.ref)) (fun i H7 => ∃ qs : List Addr, H7 Dl = some (.lst (qs.map V.ref)) ∧ NlAt H7 qs ((((subs f2).map fun g => (g, l + 1)).reverse).take i) ∧ Same H5 H7) ?_ ?_ ?_ ?_
      · exact ⟨[], upd_same, trivial, same_upd hDl⟩
      · rintro i H7 _ ⟨_, _, _, s7⟩
        exact SqL.of (s7 _ _ ePl)
      · rintro i y H7 H8 M hi ⟨qs, h7, p7, s7⟩ ⟨rfl, hy⟩ hM
        rw [List.length_map] at hi hy
        rw [List.getElem?_map] at hy
        obtain ⟨a2, ha2, rfl⟩ := Option.map_eq_some_iff.mp hy
        obtain ⟨f3, hf3, hfa⟩ := hvs.at_ ha2
        have hrev : ((subs f2).map fun g => (g, l + 1)).reverse[i]? = some (f3, l + 1) := by
          rw [List.getElem?_reverse (by rw [List.length_map]; omega), List.length_map, List.getElem?_map, ← hvl, hf3]
          rfl
        have hql := p7.len
        rw [List.length_take, List.length_reverse, List.length_map] at hql
        walk_at "rd"
        refine ⟨by decide, fun T2 hT2 => ⟨_, (same_upd hT2) _ _ h7, smallt (by rw [List.length_map]; omega), hM _ ⟨qs ++ [T2], ?_, ?_, Dw.Same.new (s7.trans (same_upd hT2)) hDl⟩⟩⟩
        · rw [upd_same, List.map_append]
          rfl
        · rw [List.take_add_one, hrev]
          have tt := tups_lst (o := .lst (qs.map V.ref ++ [V.ref T2])) ((same_upd (o := .tup [V.ref a2, V.int (l + 1)]) hT2) _ _ h7)
          have tq := (Tups.same (same_upd (o := .tup [V.ref a2, V.int (l + 1)]) hT2)).trans tt
          exact (p7.tups tq).append ⟨⟨a2, tt _ _ upd_same, hfa.tups ((Tups.same s7).trans tq)⟩, trivial⟩
      · rintro H7 ⟨qs, h7, p7, s7⟩
        rw [List.take_of_length_le (by rw [List.length_reverse, List.length_map, List.length_map]; omega)] at p7
        have h7W := s7 _ _ (s5 _ _ h4W)
        have h7F := s7 _ _ (s5 _ _ h4F)
        have hql := p7.len
        rw [List.length_reverse, List.length_map] at hql
        have hes := hst'.len
        refine ⟨_, h7W, _, h7, by rw [List.length_map, List.length_map]; exact small (by omega), ?_⟩
        have t8 := tups_lst (o := .lst (was'.map V.ref ++ qs.map V.ref)) h7W
        have t47 := (Tups.same s5).trans (Tups.same s7)
        have e3 : preLS (xs' ++ ((subs f2).map fun g => (g, l + 1)).reverse) = ((subs f2).flatMap fun g => preL g (l + 1)) ++ preLS xs' := by rw [preLS_app, preLS_rev]
        have e4 : (preLS (xs' ++ ((subs f2).map fun g => (g, l + 1)).reverse)).length + 1 = (preLS (xs' ++ [(f2, l)])).length := by
          rw [e3, preLS_snoc, preL_subs f2, List.length_append, List.length_append, List.length_cons]
          dsimp only
          omega
        refine hN (preLS (xs' ++ ((subs f2).map fun g => (g, l + 1)).reverse)).length _ _ (by omega) ?_
        rw [hW]
        refine ⟨das ++ [T1], ds ++ [(f2, l)], was' ++ qs, xs' ++ ((subs f2).map fun g => (g, l + 1)).reverse, some (V.ref t2), some (.int l), rfl, by rw [upd_ne hFW]; exact h7F, by rw [upd_same, List.map_append], hlv4.tups (t47.trans t8), (hst3.tups ((t34.trans t47).trans t8)).append (p7.tups t8), rfl, Dw.Same.new ((s4.trans s5).trans s7) hW0, ?_⟩
        rw [e3, ← hct]
        simp

end
end
section
local macro_rules | `(tactic| walk_at "rd") => `(tactic| simp only [tSeq, tNext, tAsg, gName, tRet, tRetN, tIfS, tDrop, tVar, tC, tOp, tUn, tTest, tCB, tCons, tNil, tB, tAnd, tOr, tNot, tAndV, tOrV, tNotV, tIf, tCall, tTup, tLst, tSl, tPart, tNoPart, tM0, tM1, tBM, tChain, tBreak, tCont, tNever, tAug, ipI, tPar, tyV_str,
  tFor_eq, tLc_eq, tMkO, tYes, wipe, ofStr_S, S_cat, one_S, len_S, S_iff, S_cps, Int.zero_add, gNil, gCons, gTup, gSub, iRng1, iRng2, iList, iTup, iStr, rI0, rI, rU, rEq, rNe, rIxL, rIxT, rIxS, Dw.rLen, rListOf, rTupOf, rNotB, rIsB, rMulS, rIn, rCat, rAppend, rCatA, rEqD, rNeD, C8.rSlX, tDGet, Int.toNat_natCast, WE, iEnum, iRev, rSum, tFd, tFs, tFa_eq, L2.rAdd, tMake, tMakeS, tMeth, Dw.tMethS, tCallS, rSlL, rSlA, tDGet2, tDIn, tDNotIn, rSetD, rAll, rSum, rMax, rKIn, tBM0, rPop, rExtend, tAddT, rAddT, rSetT0, Dw.rSetL, rSortT, StX.tStar, tDNewK, tDisp, tPairs, L2.start, cxOf_K, cxOf_w, cxOf_prog,
  List.map_cons, List.map_nil, List.length_cons, List.length_nil, List.replicate, List.cons_append, List.nil_append, Nat.reduceAdd, Nat.reduceSub, Nat.zero_add, List.append_nil,
  List.set_cons_zero, List.set_cons_succ, List.getElem?_cons_zero, List.getElem?_cons_succ, Option.some.injEq, V.int.injEq, V.bl.injEq, V.ref.injEq, V.str.injEq, V.ty.injEq, List.cons.injEq, and_true, true_and, reduceCtorEq, false_and, exists_false, or_false, false_or, exists_eq_left, exists_eq_left', exists_eq', sw_S, an_S, exists_and_left, exists_const, exists_eq, decide_eq_true_eq, Bool.false_eq_true, if_true, if_false, Bool.not_eq_true', decide_eq_false_iff_not, Bool.not_true, Bool.not_false, ite_not, scal, and_false])
section
variable {P : Program} {w : World} {K : PySem.W.Frag} {mg : Str → Option Value} {base : Heap}
def sp_nc : Sp := fun vs H Q _ => ∃ (t : Addr) (f : Fm), vs = [.ref t] ∧ FmAt H t f ∧ szN f ≤ 1000 ∧ ∀ H', Same H H' → Q (nv (szN f)) H'
def sp_lev : Sp := fun vs H Q _ => ∃ (t : Addr) (f : Fm), vs = [.ref t] ∧ FmAt H t f ∧ szN f ≤ 1000 ∧ ∀ H', Same H H' → Q (nv (dpN f)) H'
theorem c_node_count {f : Addr} {fd : FuncData} (D : C8.Def K mg "node_count" s_node_count f fd) (b : Binds K fd ["formula"] []) (c_nodes : C8.Cal P w K mg base 2 "nodes" sp_nodesL []) (z_len : mg "len" = none) : C8.Cal P w K mg base 3 "node_count" sp_nc [] := by
  refine C8.cal0 D b .nil sc_node_count (fun vs H Q E h => ?_) (fun cdv A outer s H vs Q E hr h => ?_)
  · obtain ⟨_, _, rfl, _⟩ := h
    rfl
  · obtain ⟨t, f1, rfl, hf, hsz, ok⟩ := h
    refine ⟨_, (pss_one (ps_ret (pe_callB (lenS K) (by rfl) z_len PySem.boot_len (pa_cons (C8.pe_c c_nodes hr (by decide) (by rfl) (pa_cons (pv 0) pa_nil)) pa_nil)))), ?_⟩
    walk_at "rd"
    refine ⟨t, f1, rfl, hf, hsz, fun l es H' s1 hl h1 hnl => ?_⟩
    have := hnl.len
    refine ⟨l, rfl, _, .inl (SqL.of h1), ?_⟩
    rw [List.length_map, this, preL_len]
    exact ok H' s1
theorem c_levels {f : Addr} {fd : FuncData} (D : C8.Def K mg "levels" s_levels f fd) (b : Binds K fd ["formula"] []) (c_nodes : C8.Cal P w K mg base 2 "nodes" sp_nodesL []) (z_max : mg "max" = none) : C8.Cal P w K mg base 3 "levels" sp_lev [] := by
  refine C8.cal0 D b .nil sc_levels (fun vs H Q E h => ?_) (fun cdv A outer s H vs Q E hr h => ?_)
  · obtain ⟨_, _, rfl, _⟩ := h
    rfl
  · obtain ⟨t, f1, rfl, hf, hsz, ok⟩ := h
    refine ⟨_, (pss_one (ps_ret (pe_callB (maxK K) (by rfl) z_max (by decide +kernel) (pa_cons (pe_lc (own := [("_", 1), ("level", 2)]) (g := (gTup K 2 (gCons (gName 1) (gCons (gName 2) gNil)))) (tt := tYes) rfl sc_levels.nd (piL K (C8.pe_c c_nodes hr (by decide) (by rfl) (pa_cons (pv 0) pa_nil))) (blkOk_by (N := N_levels) (sc := C8.fnScope s_levels) (by decide +kernel)) (fun _ _ _ _ _ => (pg_tup (n := 2) rfl (pgs_cons (pg_name (i := 1) sc_levels.nd rfl (by first | exact Or.inl rfl | exact Or.inr rfl)) (pgs_cons (pg_name (i := 2) sc_levels.nd rfl (by first | exact Or.inl rfl | exact Or.inr rfl)) pgs_nil)))) (fun _ _ _ _ _ => pts_nil) (fun _ _ _ _ _ => (pv 2))) pa_nil)))), ?_⟩
    walk_at "rd"
    refine ⟨t, f1, rfl, hf, hsz, fun l es H' s1 hl h1 hnl => ?_⟩
    have hl3 := hnl.len
    have hl4 := preL_len f1 1
    refine ⟨l, rfl, ⟨_, SqL.of h1⟩, fun D hD => ?_⟩
    refine lc_listN (xs := es.map V.ref) (fun i H2 => H2 D = some (.lst ((((preL f1 1).take i).map (·.2)).map V.int)) ∧ Same H' H2) ⟨upd_same, same_upd hD⟩ (fun i H2 _ p => SqL.of (p.2 _ _ h1)) (fun i x2 H2 N hx2 ⟨h2, s2⟩ hN => ?_) (fun H2 ⟨h2, s2⟩ => ?_)
    · rw [List.getElem?_map] at hx2
      obtain ⟨e, he, rfl⟩ := Option.map_eq_some_iff.mp hx2
      obtain ⟨x, v, hl2, hv, _⟩ := hnl.at_ he
      walk_at "rd"
      refine ⟨_, SqT.of (s2 _ _ hv), rfl, _, _, rfl, _, _, rfl, rfl, _, h2, smallt (by rw [List.length_map, List.length_map, List.length_take]; omega), hN _ ⟨?_, Dw.Same.new s2 hD⟩⟩
      rw [upd_same, List.take_add_one, hl2, List.map_append, List.map_append]
      rfl
    · rw [List.length_map, hl3, List.take_length] at h2
      obtain ⟨g1, x, hx, g2⟩ := preL_le f1 1
      refine ⟨(preL f1 1).map (·.2), SqL.of h2, ?_, fun m h3 h4 => ?_⟩
      · rw [List.length_map, hl4]
        exact szN_pos _
      · obtain ⟨y, hy, rfl⟩ := List.mem_map.mp h3
        have e1 := g1 y hy
        have e2 := h4 x.2 (List.mem_map.mpr ⟨x, hx, rfl⟩)
        rw [show y.2 = ((dpN f1 : Nat) : Int) by omega]
        exact ok H2 (s1.trans s2)
def sp_chk (CO : Addr) : Sp := fun vs H Q E => ∃ (t : Addr) (f : Fm), vs = [.ref t] ∧ FmAt H t f ∧ szN f ≤ 1000 ∧ ((szN f ≤ 200 ∧ dpN f ≤ 30) → ∀ H', Same H H' → Q .non H') ∧ (¬ (szN f ≤ 200 ∧ dpN f ≤ 30) → Rz CO "limit" (.str (S (cs "nodes"))) H E)
theorem c_check_size {f : Addr} {fd : FuncData} (D : C8.Def K mg "check_size" s_check_size f fd) (b : Binds K fd ["formula"] []) {CO : Addr} (x_Oversized : ExF P w K mg base "Oversized" CO "limit") (c_node_count : C8.Cal P w K mg base 3 "node_count" sp_nc []) (c_levels : C8.Cal P w K mg base 3 "levels" sp_lev []) (g_NODE_LIMIT : ∃ u, mg "NODE_LIMIT" = some u ∧ RelV (.int 200) u) (g_LEVEL_LIMIT : ∃ u, mg "LEVEL_LIMIT" = some u ∧ RelV (.int 30) u) : CalX P w K mg base 5 "check_size" (sp_chk CO) := by
  refine calX0 D b sc_check_size (fun vs H Q E h => ?_) (fun cdv A outer s H vs Q E hr h => ?_)
  · obtain ⟨_, _, rfl, _⟩ := h
    rfl
  · obtain ⟨t, f1, rfl, hf, hsz, ok, no⟩ := h
    refine ⟨_, (pss_one (ps_if (PW.pt (pw_or (pt_cmpR (op_gt) (C8.pe_c c_node_count hr (by decide) (by rfl) (pa_cons (pv 0) pa_nil)) (C8.pe_gc (by rfl) g_NODE_LIMIT) (nomark _)) (pw_or1 (pt_cmpR (op_gt) (C8.pe_c c_levels hr (by decide) (by rfl) (pa_cons (pv 0) pa_nil)) (C8.pe_gc (by rfl) g_LEVEL_LIMIT) (nomark _))))) (pss_one (ps_raise rfl (takes_of rfl rfl rfl rfl) (pmk_ex x_Oversized hr (by decide) (by rfl) (pa_cons pe_str pa_nil)))) pss_nil)), ?_⟩
    walk_at "rd"
    refine ⟨t, f1, rfl, hf, hsz, fun H1 s1 => ⟨_, rfl, ?_⟩⟩
    by_cases h2 : szN f1 ≤ 200
    · rw [if_neg (by omega)]
      refine ⟨t, f1, rfl, hf.tups (Tups.same s1), hsz, fun H2 s2 => ⟨_, rfl, ?_⟩⟩
      by_cases h3 : dpN f1 ≤ 30
      · rw [if_neg (by omega)]
        exact ok ⟨h2, h3⟩ _ (s1.trans s2)
      · rw [if_pos (by omega)]
        exact ⟨by decide, fun a ha => by rw [← ofStr_S "limit"]; exact raise_rz (Rz.same (no fun z => h3 z.2) (s1.trans s2)) ha⟩
    · rw [if_pos (by omega)]
      exact ⟨by decide, fun a ha => by rw [← ofStr_S "limit"]; exact raise_rz (Rz.same (no fun z => h2 z.1) s1) ha⟩

end
end
section
local macro_rules | `(tactic| walk_at "rd") => `(tactic| simp only [tSeq, tNext, tAsg, gName, tRet, tRetN, tIfS, tDrop, tVar, tC, tOp, tUn, tTest, tCB, tCons, tNil, tB, tAnd, tOr, tNot, tAndV, tOrV, tNotV, tIf, tCall, tTup, tLst, tSl, tPart, tNoPart, tM0, tM1, tBM, tChain, tBreak, tCont, tNever, tAug, ipI, tPar, tyV_str,
  tFor_eq, tLc_eq, tMkO, tYes, wipe, ofStr_S, S_cat, one_S, len_S, S_iff, S_cps, Int.zero_add, gNil, gCons, gTup, gSub, iRng1, iRng2, iList, iTup, iStr, rI0, rI, rU, rEq, rNe, rIxL, rIxT, rIxS, Dw.rLen, rListOf, rTupOf, rNotB, rIsB, rMulS, rIn, rCat, rAppend, rCatA, rEqD, rNeD, C8.rSlX, tDGet, Int.toNat_natCast, WE, iEnum, iRev, rSum, tFd, tFs, tFa_eq, L2.rAdd, tMake, tMakeS, tMeth, Dw.tMethS, tCallS, rSlL, rSlA, tDGet2, tDIn, tDNotIn, rSetD, rAll, rKIn, tBM0, rPop, rExtend, tAddT, rAddT, rSetT0, Dw.rSetL, rSortT, StX.tStar, tDNewK, tDisp, tPairs, L2.start, cxOf_K, cxOf_w, cxOf_prog,
  List.map_cons, List.map_nil, List.length_cons, List.length_nil, List.replicate, List.cons_append, List.nil_append, Nat.reduceAdd, Nat.reduceSub, Nat.zero_add, List.append_nil,
  List.set_cons_zero, List.set_cons_succ, List.getElem?_cons_zero, List.getElem?_cons_succ, Option.some.injEq, V.int.injEq, V.bl.injEq, V.ref.injEq, V.str.injEq, V.ty.injEq, List.cons.injEq, and_true, true_and, reduceCtorEq, false_and, exists_false, or_false, false_or, exists_eq_left, exists_eq_left', exists_eq', sw_S, an_S, exists_and_left, exists_const, exists_eq, decide_eq_true_eq, Bool.false_eq_true, if_true, if_false, Bool.not_eq_true', decide_eq_false_iff_not, Bool.not_true, Bool.not_false, ite_not, scal, and_false])
section
variable {P : Program} {w : World} {K : PySem.W.Frag} {mg : Str → Option Value} {base : Heap}
def sp_parse (CM CO : Addr) : Sp := fun vs H Q E => ∃ (l0 : List Nat) (is : List Itm), vs = [.str (S (l0 ++ iflat is))] ∧ Blank l0 ∧ Goods is ∧ is.length ≤ 4000 ∧ (l0 ++ iflat is).length ≤ 4000 ∧ PRes CM CO H Q E (parseM (l0 ++ iflat is).length (tks l0.length is))
theorem c_parse_formula {f : Addr} {fd : FuncData} (D : C8.Def K mg "parse_formula" s_parse_formula f fd) (b : Binds K fd ["text"] []) {CR CM CO : Addr} (x_Malformed : ExF P w K mg base "Malformed" CM "at") (m_Reader_is_done : C8.Met P w K mg base 1 CR "is_done" (sp_isdone CR) []) (m_Reader_spot : C8.Met P w K mg base 2 CR "spot" (sp_spot CR) []) (k_Reader : C8.Mak P w K mg base 6 "Reader" CR (sp_rinit CR) []) (c_read_formula : CalX P w K mg base 192 "read_formula" (spL CR CM CO (fun len ts => formM (unitM len 30) ts) 30)) (c_check_size : CalX P w K mg base 5 "check_size" (sp_chk CO)) : CalX P w K mg base 194 "parse_formula" (sp_parse CM CO) := by
  refine calX0 D b sc_parse_formula (fun vs H Q E h => ?_) (fun cdv A outer s H vs Q E hr h => ?_)
  · obtain ⟨_, _, rfl, _⟩ := h
    rfl
  · obtain ⟨l0, is, rfl, hb, hg, hl, hl4, res⟩ := h
    refine ⟨_, (pss_cons (ps_set (i := 1) sc_parse_formula.nd rfl (by first | exact Or.inl rfl | exact Or.inr rfl) (C8.pe_mk k_Reader hr (by decide) (by rfl) (pa_cons (pv 0) pa_nil))) (pss_cons (ps_set (i := 2) sc_parse_formula.nd rfl (by first | exact Or.inl rfl | exact Or.inr rfl) (pe_cx c_read_formula hr (by decide) (passes_call (takes_of rfl rfl rfl rfl) (fun _ _ _ _ h => h)) (by rfl) (pa_cons (pv 1) (pa_cons pe_int pa_nil)))) (pss_cons (ps_if (pt_not (pt_val (C8.pe_mt0 m_Reader_is_done hr (by decide) (pv 1)))) (pss_one (ps_raise rfl (takes_of rfl rfl rfl rfl) (pmk_ex x_Malformed hr (by decide) (by rfl) (pa_cons (C8.pe_mt0 m_Reader_spot hr (by decide) (pv 1)) pa_nil)))) pss_nil) (pss_cons (ps_expr (pe_cx c_check_size hr (by decide) (passes_call (takes_of rfl rfl rfl rfl) (fun _ _ _ _ h => h)) (by rfl) (pa_cons (pv 2) pa_nil))) (pss_one (ps_ret (pv 2))))))), ?_⟩
    walk_at "rd"
    intro r dx hr0 hdx hne
    have hr2 : (upd H dx (.own r)) r = none := by rw [upd_ne hne.symm]; exact hr0
    have s1 : Same H (upd (upd H dx (.own r)) r (.ins CR dx [])) := (same_upd hdx).trans (same_upd hr2)
    refine ⟨r, dx, l0, is, rfl, upd_same, hb, hg, hl, hl4, fun F H1 b1 hr1 => ⟨rfl, ?_⟩⟩
    have sH1 : Same H H1 := same_of_but hr0 ((But.of s1).trans b1)
    obtain ⟨len, hlen⟩ : ∃ len, len = (l0 ++ iflat is).length := ⟨_, rfl⟩
    obtain ⟨ts, hts⟩ : ∃ ts, ts = tks l0.length is := ⟨_, rfl⟩
    rw [← hlen, ← hts] at hr1 res
    have hrr : H1 r ≠ none := by
      obtain ⟨_, _, _, _, e, _⟩ := hr1.ex
      rw [e]; exact fun z => nomatch z
    have sB : ∀ H', But r H1 H' → Same H H' := fun H' b2 a o e => b2 a o (fun z => by rw [z, hr0] at e; cases e) (sH1 a o e)
    refine ⟨r, F, len, ts, rfl, hr1, ?_⟩
    unfold parseM at res
    show RRes CR CM CO F r len H1 _ E AtF (formM (unitM len 30) ts)
    cases hm : formM (unitM len 30) ts with
    | out => rw [hm] at res; exact res.elim
    | mal n => rw [hm] at res; exact fun H2 b2 => Rz.same res (sB H2 b2)
    | over x => rw [hm] at res; exact fun H2 b2 => Rz.same res (sB H2 b2)
    | ok f ts2 =>
      rw [hm] at res
      intro v H2 b2 hr2 hv
      obtain ⟨t, rfl, ht⟩ := hv
      have res : PRes CM CO H Q E (if ts2.isEmpty = false then .mal (spotM len ts2) else if 1000 < szN f then .out else if szN f ≤ 200 ∧ dpN f ≤ 30 then .ok f [] else .over "nodes") := res
      have sH2 := sB H2 b2
      refine rm hr2 "is_done" (by rfl) ⟨r, F, len, ts2, rfl, hr2, ts2.isEmpty, rfl, ?_⟩
      by_cases he : ts2.isEmpty = false
      · rw [if_pos he] at res
        rw [if_pos he]
        refine rm hr2 "spot" (by rfl) ⟨r, F, len, ts2, rfl, hr2, by decide, fun a ha => ?_⟩
        rw [← ofStr_S "at"]
        exact raise_rz (Rz.same res sH2) ha
      · rw [if_neg he] at res
        rw [if_neg he]
        by_cases h1 : 1000 < szN f
        · rw [if_pos h1] at res
          exact res.elim
        · rw [if_neg h1] at res
          refine ⟨t, f, rfl, ht, by omega, fun h2 H3 s3 => ?_, fun h2 => ?_⟩
          · rw [if_pos h2] at res
            exact res t H3 (sH2.trans s3) (ht.tups (Tups.same s3))
          · rw [if_neg h2] at res
            exact Rz.same res sH2

end
end
section
local macro_rules | `(tactic| walk_at "rd") => `(tactic| simp only [tSeq, tNext, tAsg, gName, tRet, tRetN, tIfS, tDrop, tVar, tC, tOp, tUn, tTest, tCB, tCons, tNil, tB, tAnd, tOr, tNot, tAndV, tOrV, tNotV, tIf, tCall, tTup, tLst, tSl, tPart, tNoPart, tM0, tM1, tBM, tChain, tBreak, tCont, tNever, tAug, ipI, tPar, tyV_str,
  tFor_eq, tLc_eq, tMkO, tYes, wipe, ofStr_S, S_cat, one_S, len_S, S_iff, S_cps, Int.zero_add, gNil, gCons, gTup, gSub, iRng1, iRng2, iList, iTup, iStr, rI0, rI, rU, rEq, rNe, rIxL, rIxT, rIxS, Dw.rLen, rListOf, rTupOf, rNotB, rIsB, rMulS, rIn, rCat, rAppend, rCatA, rEqD, rNeD, C8.rSlX, tDGet, Int.toNat_natCast, WE, iEnum, iRev, rSum, tFd, tFs, tFa_eq, L2.rAdd, tMake, tMakeS, tMeth, Dw.tMethS, tCallS, rSlL, rSlA, tDGet2, tDIn, tDNotIn, rSetD, rAll, rKIn, tBM0, rPop, rExtend, tAddT, rAddT, rSetT0, Dw.rSetL, rSortT, StX.tStar, tDNewK, tDisp, tPairs, L2.start, cxOf_K, cxOf_w, cxOf_prog,
  List.map_cons, List.map_nil, List.length_cons, List.length_nil, List.replicate, List.cons_append, List.nil_append, Nat.reduceAdd, Nat.reduceSub, Nat.zero_add, List.append_nil,
  List.set_cons_zero, List.set_cons_succ, List.getElem?_cons_zero, List.getElem?_cons_succ, Option.some.injEq, V.int.injEq, V.bl.injEq, V.ref.injEq, V.str.injEq, V.ty.injEq, List.cons.injEq, and_true, true_and, reduceCtorEq, false_and, exists_false, or_false, false_or, exists_eq_left, exists_eq_left', exists_eq', sw_S, an_S, exists_and_left, exists_const, exists_eq, decide_eq_true_eq, Bool.false_eq_true, if_true, if_false, Bool.not_eq_true', decide_eq_false_iff_not, Bool.not_true, Bool.not_false, ite_not, scal, and_false])
section
variable {P : Program} {w : World} {K : PySem.W.Frag} {mg : Str → Option Value} {base : Heap}
theorem units {CR CM CO : Addr} {f_u : Addr} {fd_u : FuncData} {f_bo : Addr} {fd_bo : FuncData} {f_ei : Addr} {fd_ei : FuncData} {f_im : Addr} {fd_im : FuncData} {f_fo : Addr} {fd_fo : FuncData} {f_qu : Addr} {fd_qu : FuncData} (D_u : C8.Def K mg "read_unit" s_read_unit f_u fd_u) (b_u : Binds K fd_u ["reader", "level"] []) (D_bo : C8.Def K mg "read_both" s_read_both f_bo fd_bo) (b_bo : Binds K fd_bo ["reader", "level"] []) (D_ei : C8.Def K mg "read_either" s_read_either f_ei fd_ei) (b_ei : Binds K fd_ei ["reader", "level"] []) (D_im : C8.Def K mg "read_implied" s_read_implied f_im fd_im) (b_im : Binds K fd_im ["reader", "level"] []) (D_fo : C8.Def K mg "read_formula" s_read_formula f_fo fd_fo) (b_fo : Binds K fd_fo ["reader", "level"] []) (D_qu : C8.Def K mg "read_quantified" s_read_quantified f_qu fd_qu) (b_qu : Binds K fd_qu ["reader", "level"] []) (x_Oversized : ExF P w K mg base "Oversized" CO "limit") (m_Reader_passes : C8.Met P w K mg base 2 CR "passes" (sp_passes CR) []) (m_Reader_sees : C8.Met P w K mg base 1 CR "sees" (sp_sees CR) [.int 0]) (m_Reader_sees2 : C8.Met P w K mg base 1 CR "sees" (sp_sees CR) []) (m_Reader_has_kind : C8.Met P w K mg base 2 CR "has_kind" (sp_haskind CR) []) (m_Reader_skip : MetX P w K mg base 4 CR "skip" (sp_skip CR CM)) (c_read_power : CalX P w K mg base 5 "read_power" (spR CR CM CO powM AtF)) (c_read_word : CalX P w K mg base 6 "read_word" (spR CR CM CO wordM AtF)) (c_read_call : CalX P w K mg base 6 "read_call" (spR CR CM CO callM AtF)) (c_read_comparison : CalX P w K mg base 7 "read_comparison" (spR CR CM CO cmpM AtF)) (g_LEVEL_LIMIT : ∃ u, mg "LEVEL_LIMIT" = some u ∧ RelV (.int 30) u) (m_Reader_take : MetX P w K mg base 4 CR "take" (sp_rtake CR CM)) (c_read_names : CalX P w K mg base 5 "read_names" (spR CR CM CO namesM AtNs)) (z_reversed : mg "reversed" = none) : ∀ n : Nat, n ≤ 30 → CalX P w K mg base (6 * n + 8) "read_unit" (spL CR CM CO (fun len ts => unitM len n ts) n)
  | 0, _ => by
    have c_read_unit : CalX P w K mg base 1 "read_unit" (fun _ _ _ _ => False) := calX0 (k := 0) D_u b_u sc_read_unit (fun vs H Q E h => h.elim) (fun cdv A outer s H vs Q E hr h => h.elim)
    have c_read_formula : CalX P w K mg base 1 "read_formula" (fun _ _ _ _ => False) := calX0 (k := 0) D_fo b_fo sc_read_formula (fun vs H Q E h => h.elim) (fun cdv A outer s H vs Q E hr h => h.elim)
    have c_read_quantified : CalX P w K mg base 1 "read_quantified" (fun _ _ _ _ => False) := calX0 (k := 0) D_qu b_qu sc_read_quantified (fun vs H Q E h => h.elim) (fun cdv A outer s H vs Q E hr h => h.elim)
    exact c_read_unit0 D_u b_u c_read_unit c_read_formula c_read_quantified x_Oversized m_Reader_passes m_Reader_sees m_Reader_sees2 m_Reader_has_kind m_Reader_skip c_read_power c_read_word c_read_call c_read_comparison g_LEVEL_LIMIT
  | n + 1, hn => by
    have c_read_unit := units D_u b_u D_bo b_bo D_ei b_ei D_im b_im D_fo b_fo D_qu b_qu x_Oversized m_Reader_passes m_Reader_sees m_Reader_sees2 m_Reader_has_kind m_Reader_skip c_read_power c_read_word c_read_call c_read_comparison g_LEVEL_LIMIT m_Reader_take c_read_names z_reversed n (by omega)
    have c_read_both := c_read_both D_bo b_bo (by omega : n ≤ 30) m_Reader_passes c_read_unit
    have c_read_either := c_read_either D_ei b_ei (by omega : n ≤ 30) m_Reader_passes c_read_both
    have c_read_implied := c_read_implied D_im b_im (by omega : n ≤ 30) m_Reader_passes c_read_either
    have c_read_formula := c_read_formula D_fo b_fo (by omega : n ≤ 30) m_Reader_passes c_read_implied
    have c_read_quantified := c_read_quantified D_qu b_qu (by omega : n ≤ 30) m_Reader_skip m_Reader_take c_read_names c_read_formula z_reversed
    exact c_read_unitS D_u b_u (by omega) c_read_unit c_read_formula c_read_quantified x_Oversized m_Reader_passes m_Reader_sees m_Reader_sees2 m_Reader_has_kind m_Reader_skip c_read_power c_read_word c_read_call c_read_comparison g_LEVEL_LIMIT
theorem c_formula30 {CR CM CO : Addr} {f_u : Addr} {fd_u : FuncData} {f_bo : Addr} {fd_bo : FuncData} {f_ei : Addr} {fd_ei : FuncData} {f_im : Addr} {fd_im : FuncData} {f_fo : Addr} {fd_fo : FuncData} {f_qu : Addr} {fd_qu : FuncData} (D_u : C8.Def K mg "read_unit" s_read_unit f_u fd_u) (b_u : Binds K fd_u ["reader", "level"] []) (D_bo : C8.Def K mg "read_both" s_read_both f_bo fd_bo) (b_bo : Binds K fd_bo ["reader", "level"] []) (D_ei : C8.Def K mg "read_either" s_read_either f_ei fd_ei) (b_ei : Binds K fd_ei ["reader", "level"] []) (D_im : C8.Def K mg "read_implied" s_read_implied f_im fd_im) (b_im : Binds K fd_im ["reader", "level"] []) (D_fo : C8.Def K mg "read_formula" s_read_formula f_fo fd_fo) (b_fo : Binds K fd_fo ["reader", "level"] []) (D_qu : C8.Def K mg "read_quantified" s_read_quantified f_qu fd_qu) (b_qu : Binds K fd_qu ["reader", "level"] []) (x_Oversized : ExF P w K mg base "Oversized" CO "limit") (m_Reader_passes : C8.Met P w K mg base 2 CR "passes" (sp_passes CR) []) (m_Reader_sees : C8.Met P w K mg base 1 CR "sees" (sp_sees CR) [.int 0]) (m_Reader_sees2 : C8.Met P w K mg base 1 CR "sees" (sp_sees CR) []) (m_Reader_has_kind : C8.Met P w K mg base 2 CR "has_kind" (sp_haskind CR) []) (m_Reader_skip : MetX P w K mg base 4 CR "skip" (sp_skip CR CM)) (c_read_power : CalX P w K mg base 5 "read_power" (spR CR CM CO powM AtF)) (c_read_word : CalX P w K mg base 6 "read_word" (spR CR CM CO wordM AtF)) (c_read_call : CalX P w K mg base 6 "read_call" (spR CR CM CO callM AtF)) (c_read_comparison : CalX P w K mg base 7 "read_comparison" (spR CR CM CO cmpM AtF)) (g_LEVEL_LIMIT : ∃ u, mg "LEVEL_LIMIT" = some u ∧ RelV (.int 30) u) (m_Reader_take : MetX P w K mg base 4 CR "take" (sp_rtake CR CM)) (c_read_names : CalX P w K mg base 5 "read_names" (spR CR CM CO namesM AtNs)) (z_reversed : mg "reversed" = none) : CalX P w K mg base 192 "read_formula" (spL CR CM CO (fun len ts => formM (unitM len 30) ts) 30) := by
  have c_read_unit := units D_u b_u D_bo b_bo D_ei b_ei D_im b_im D_fo b_fo D_qu b_qu x_Oversized m_Reader_passes m_Reader_sees m_Reader_sees2 m_Reader_has_kind m_Reader_skip c_read_power c_read_word c_read_call c_read_comparison g_LEVEL_LIMIT m_Reader_take c_read_names z_reversed 30 (by omega)
  have c_read_both := c_read_both D_bo b_bo (by omega : 30 ≤ 30) m_Reader_passes c_read_unit
  have c_read_either := c_read_either D_ei b_ei (by omega : 30 ≤ 30) m_Reader_passes c_read_both
  have c_read_implied := c_read_implied D_im b_im (by omega : 30 ≤ 30) m_Reader_passes c_read_either
  have c_read_formula := c_read_formula D_fo b_fo (by omega : 30 ≤ 30) m_Reader_passes c_read_implied
  exact c_read_formula

end
end
section
local macro_rules | `(tactic| walk_at "rd") => `(tactic| simp only [tSeq, tNext, tAsg, gName, tRet, tRetN, tIfS, tDrop, tVar, tC, tOp, tUn, tTest, tCB, tCons, tNil, tB, tAnd, tOr, tNot, tAndV, tOrV, tNotV, tIf, tCall, tTup, tLst, tSl, tPart, tNoPart, tM0, tM1, tBM, tChain, tBreak, tCont, tNever, tAug, ipI, tPar, tyV_str,
  tFor_eq, tLc_eq, tMkO, tYes, wipe, ofStr_S, S_cat, one_S, len_S, S_iff, S_cps, Int.zero_add, gNil, gCons, gTup, gSub, iRng1, iRng2, iList, iTup, iStr, rI0, rI, rU, rEq, rNe, rIxL, rIxT, rIxS, Dw.rLen, rListOf, rTupOf, rNotB, rIsB, rMulS, rIn, rCat, rAppend, rCatA, rEqD, rNeD, C8.rSlX, tDGet, Int.toNat_natCast, WE, iEnum, iRev, rSum, tFd, tFs, tFa_eq, L2.rAdd, tMake, tMakeS, tMeth, Dw.tMethS, tCallS, rSlL, rSlA, tDGet2, tDIn, tDNotIn, rSetD, rAll, rKIn, tBM0, rPop, rExtend, tAddT, rAddT, rSetT0, Dw.rSetL, rSortT, StX.tStar, tDNewK, tDisp, tPairs, L2.start, cxOf_K, cxOf_w, cxOf_prog,
  List.map_cons, List.map_nil, List.length_cons, List.length_nil, List.replicate, List.cons_append, List.nil_append, Nat.reduceAdd, Nat.reduceSub, Nat.zero_add, List.append_nil,
  List.set_cons_zero, List.set_cons_succ, List.getElem?_cons_zero, List.getElem?_cons_succ, Option.some.injEq, V.int.injEq, V.bl.injEq, V.ref.injEq, V.str.injEq, V.ty.injEq, List.cons.injEq, and_true, true_and, reduceCtorEq, false_and, exists_false, or_false, false_or, exists_eq_left, exists_eq_left', exists_eq', sw_S, an_S, exists_and_left, exists_const, exists_eq, decide_eq_true_eq, Bool.false_eq_true, if_true, if_false, Bool.not_eq_true', decide_eq_false_iff_not, Bool.not_true, Bool.not_false, ite_not, scal, and_false])
section
variable {P : Program} {w : World} {K : PySem.W.Frag} {mg : Str → Option Value} {base : Heap}
def sp_side : Sp := fun vs H Q _ => ∃ (a : Addr) (as : List Addr) (qs : List (List Nat × Int)) (c : Int), vs = [.ref a, .int c] ∧ H a = some (.lst (as.map V.ref)) ∧ PrsAt H as (qs.map pS) ∧ qs.length ≤ 30 ∧ (∀ q ∈ qs, q.2.natAbs ≤ 255) ∧ c.natAbs ≤ 255 ∧
  ∀ (l : Addr) H', Same H H' → H l = none → H' l = some (.lst ((sideL qs c).map txV)) → Q (.ref l) H'
theorem c__law_side {f : Addr} {fd : FuncData} (D : C8.Def K mg "_law_side" s__law_side f fd) (b : Binds K fd ["pairs", "constant"] []) (z_int : mg "int" = none) (z_abs : mg "abs" = none) (z_str : mg "str" = none) : C8.Cal P w K mg base 1 "_law_side" sp_side [] := by
  refine C8.cal0 D b .nil sc__law_side (fun vs H Q E h => ?_) (fun cdv A outer s H vs Q E hr h => ?_)
  · obtain ⟨_, _, _, _, rfl, _⟩ := h
    rfl
  · obtain ⟨a, as, qs, c, rfl, hA, hp, hn, hq, hc, ok⟩ := h
    refine ⟨_, (pss_cons (ps_set (i := 2) sc__law_side.nd rfl (by first | exact Or.inl rfl | exact Or.inr rfl) (pe_lst pa_nil)) (pss_cons (ps_for PassesOwn.never rfl (piL K (pv 0)) (pg_name (i := 3) sc__law_side.nd rfl (by first | exact Or.inl rfl | exact Or.inr rfl)) (pss_cons (ps_expr (pe_bm PySem.F.plainAttrs_list PySem.F.slot_list_append PySem.F.type_list_append mt_append (pv 2) (pa_cons (pe_ix (ixL K) (pe_lst (pa_cons pe_str (pa_cons pe_str pa_nil))) (pe_callTy call_int1 (by rfl) z_int (by decide +kernel) (pa_cons (pe_cmpR (op_lt) (pe_ix (ixT K) (pv 3) pe_int (fun _ _ => rfl)) pe_int (nomark _)) pa_nil)) (fun _ _ => rfl)) pa_nil))) (pss_one (ps_if (pt_cmpR (op_eq) (pe_callB call_abs (by rfl) z_abs (by decide +kernel) (pa_cons (pe_ix (ixT K) (pv 3) pe_int (fun _ _ => rfl)) pa_nil)) pe_int (nomark _)) (pss_one (ps_expr (pe_bm PySem.F.plainAttrs_list PySem.F.slot_list_append PySem.F.type_list_append mt_append (pv 2) (pa_cons (pe_ix (ixT K) (pv 3) pe_int (fun _ _ => rfl)) pa_nil)))) (pss_one (ps_expr (pe_bm PySem.F.plainAttrs_list PySem.F.slot_list_extend PySem.F.type_list_extend mt_extend (pv 2) (pa_cons (pe_lst (pa_cons (pe_callTy call_str_int (by rfl) z_str (by decide +kernel) (pa_cons (pe_callB call_abs (by rfl) z_abs (by decide +kernel) (pa_cons (pe_ix (ixT K) (pv 3) pe_int (fun _ _ => rfl)) pa_nil)) pa_nil)) (pa_cons pe_str (pa_cons (pe_ix (ixT K) (pv 3) pe_int (fun _ _ => rfl)) pa_nil)))) pa_nil)))))))) (pss_cons (ps_if (PW.pt (pw_or (pt_cmpR (op_ne) (pv 1) pe_int (nomark _)) (pw_or1 (pt_not (pt_truth (pv 2) (by intro _; rfl)))))) (pss_one (ps_expr (pe_bm PySem.F.plainAttrs_list PySem.F.slot_list_extend PySem.F.type_list_extend mt_extend (pv 2) (pa_cons (pe_lst (pa_cons (pe_ix (ixL K) (pe_lst (pa_cons pe_str (pa_cons pe_str pa_nil))) (pe_callTy call_int1 (by rfl) z_int (by decide +kernel) (pa_cons (pe_cmpR (op_lt) (pv 1) pe_int (nomark _)) pa_nil)) (fun _ _ => rfl)) (pa_cons (pe_callTy call_str_int (by rfl) z_str (by decide +kernel) (pa_cons (pe_callB call_abs (by rfl) z_abs (by decide +kernel) (pa_cons (pv 1) pa_nil)) pa_nil)) pa_nil))) pa_nil)))) pss_nil) (pss_cons (ps_if (pt_cmpR (op_eq) (pe_ix (ixL K) (pv 2) pe_int (fun _ _ => rfl)) pe_str (nomark _)) (pss_one (ps_ret (pe_slice (slL K) (pv 2) (po_some pe_int) po_none))) pss_nil) (pss_one (ps_ret (pv 2))))))), ?_⟩
    walk_at "rd"
    refine ⟨Nat.zero_le _, fun p hp0 => ⟨⟨_, SqL.of ((same_upd hp0) _ _ hA)⟩, ?_⟩⟩
    refine for_listN (xs := as.map V.ref) (fun i σ H3 => (∃ y, σ = [some (V.ref a), some (V.int c), some (V.ref p), y]) ∧ H3 p = some (.lst (((qs.take i).flatMap sideB).map txV)) ∧ Same H H3) ⟨⟨_, rfl⟩, upd_same, same_upd hp0⟩ (fun i σ H3 _ ⟨_, _, s3⟩ => SqL.of (s3 _ _ hA)) ?_ ?_
    · rintro i σ v H3 N hv ⟨⟨y, rfl⟩, h3, s3⟩ hN
      rw [List.getElem?_map] at hv
      obtain ⟨e, he, rfl⟩ := Option.map_eq_some_iff.mp hv
      obtain ⟨e2, q0, he2, hv2, hq0, hpq⟩ := hp.at (v := V.ref e) (by rw [List.getElem?_map, he]; rfl)
      cases hv2
      rw [List.getElem?_map] at hq0
      obtain ⟨q, hqi, rfl⟩ := Option.map_eq_some_iff.mp hq0
      walk_at "rd"
      have hle : ((qs.take i).flatMap sideB).length ≤ 120 := by
        have h1 := sidesB_len (qs.take i)
        have h2 : (qs.take i).length ≤ qs.length := by rw [List.length_take]; omega
        omega
      have hqm := List.mem_of_getElem? hqi
      have he3 := s3 _ _ hpq
      have hpe : p ≠ e := fun z => by rw [← z, h3] at he3; cases he3
      refine ⟨.inl ⟨rfl, _, SqL.of h3⟩, by decide, fun p1 hp1 => ?_⟩
      have h31 := (same_upd (o := HO.lst [V.str (S (cs "+")), V.str (S (cs "-"))]) hp1) _ _ h3
      have he31 := (same_upd (o := HO.lst [V.str (S (cs "+")), V.str (S (cs "-"))]) hp1) _ _ he3
      refine ⟨_, SqT.of he31, _, atI_nat (j := 1) rfl, q.2, rfl, _, SqL.of upd_same, _, sgn_at q.2, _, h31, smallt (by rw [List.length_map]; omega), ?_⟩
      obtain ⟨H4, hH4⟩ : ∃ H4, H4 = upd (upd H3 p1 (HO.lst [V.str (S (cs "+")), V.str (S (cs "-"))])) p (HO.lst (((qs.take i).flatMap sideB).map txV ++ [txV (sgnT q.2)])) := ⟨_, rfl⟩
      rw [← hH4]
      have h4 : H4 p = some (.lst (((qs.take i).flatMap sideB ++ [sgnT q.2]).map txV)) := by
        rw [hH4, upd_same, List.map_append]
        rfl
      have he4 : H4 e = some (.tup [.str (S q.1), .int q.2]) := by
        rw [hH4, upd_ne hpe.symm]
        exact he31
      have s4 : Same H H4 := by rw [hH4]; exact Dw.Same.new (s3.trans (same_upd hp1)) hp0
      have htk : (qs.take (i + 1)).flatMap sideB = (qs.take i).flatMap sideB ++ sideB q := by
        rw [List.take_add_one, hqi, List.flatMap_append]
        simp
      refine ⟨_, SqT.of he4, _, atI_nat (j := 1) rfl, q.2, rfl, ?_⟩
      rw [abs_nat]
      by_cases h1 : q.2.natAbs = 1
      · rw [if_pos (by omega)]
        refine ⟨.inl ⟨rfl, _, SqL.of h4⟩, _, SqT.of he4, _, atI_nat (j := 0) rfl, _, h4, smallt (by rw [List.length_map, List.length_append, List.length_singleton]; omega), hN _ _ ⟨⟨_, rfl⟩, ?_, Dw.Same.new s4 hp0⟩⟩
        rw [upd_same, htk]
        unfold sideB
        rw [if_pos h1, List.map_append, List.map_append, List.append_assoc]
        rfl
      · rw [if_neg (by omega)]
        refine ⟨.inl ⟨rfl, _, SqL.of h4⟩, _, SqT.of he4, _, atI_nat (j := 1) rfl, q.2, rfl, ?_⟩
        rw [abs_nat]
        refine ⟨log_ok (hq q hqm), _, SqT.of he4, _, atI_nat (j := 0) rfl, by decide, fun p2 hp2 => ?_⟩
        have hpp2 : p ≠ p2 := ne_of_none h4 hp2
        refine ⟨_, (same_upd hp2) _ _ h4, _, upd_same, small (by rw [List.length_map, List.length_append, List.length_singleton]; simp only [List.length_cons, List.length_nil]; omega), hN _ _ ⟨⟨_, rfl⟩, ?_, Dw.Same.new (s4.trans (same_upd hp2)) hp0⟩⟩
        rw [upd_same, htk]
        unfold sideB
        rw [if_neg h1, List.map_append, List.map_append, List.append_assoc]
        rfl
    · rintro σ H3 ⟨⟨y, rfl⟩, h3, s3⟩
      walk_at "rd"
      have hal : as.length = qs.length := by have := hp.len; rw [List.length_map] at this; exact this
      have hbl := sidesB_len qs
      rw [List.length_map] at h3
      by_cases hc0 : c ≠ 0
      · rw [if_neg hc0]
        refine ⟨.inl ⟨rfl, _, SqL.of h3⟩, by decide, fun p1 hp1 => ⟨_, SqL.of upd_same, _, sgn_at c, ?_⟩⟩
        rw [abs_nat]
        refine ⟨log_ok hc, by decide, fun p2 hp2 => ?_⟩
        have hpp1 : p ≠ p1 := ne_of_none h3 hp1
        have h31 := (same_upd (o := HO.lst [V.str (S (cs "+")), V.str (S (cs "-"))]) hp1) _ _ h3
        have hpp2 : p ≠ p2 := ne_of_none h31 hp2
        refine ⟨_, (same_upd hp2) _ _ h31, _, upd_same, ?_, ?_⟩
        · rw [List.length_map, List.take_of_length_le (by omega)]
          exact small (by simp only [List.length_cons, List.length_nil]; omega)
        obtain ⟨H4, hH4⟩ : ∃ H4, H4 = upd (upd (upd H3 p1 (HO.lst [V.str (S (cs "+")), V.str (S (cs "-"))])) p2 (HO.lst [txV (sgnT c), V.str (S (cs (toString ((c.natAbs : Nat) : Int))))])) p (HO.lst (((List.take as.length qs).flatMap sideB).map txV ++ [txV (sgnT c), V.str (S (cs (toString ((c.natAbs : Nat) : Int))))])) := ⟨_, rfl⟩
        have s4 : Same H H4 := by rw [hH4]; exact Dw.Same.new ((s3.trans (same_upd hp1)).trans (same_upd hp2)) hp0
        have h4 : H4 p = some (.lst ((sideA qs c).map txV)) := by
          rw [hH4, upd_same, List.take_of_length_le (by omega)]
          unfold sideA
          rw [if_pos (by first | exact Or.inl hc0 | exact Or.inr hq0), List.map_append]
          rfl
        rw [← hH4]
        have hd1 := sideA_cons qs c
        obtain ⟨n, r, hx⟩ := hd1
        have h40 := h4
        rw [hx, List.map_cons] at h4
        refine ⟨_, SqL.of h4, txV (sgnT n), atI_nat (j := 0) rfl, rfl, ?_⟩
        by_cases hn : sgnT n = sg "+"
        · rw [if_pos ((sgn_iff n).mpr hn)]
          refine ⟨_, SqL.of h4, fun p3 hp3 => ok p3 _ (s4.trans (same_upd hp3)) (s4.free hp3) ?_⟩
          rw [upd_same, show (some (1 : Int)) = some (((1 : Nat)) : Int) from rfl, cutV_from (xs := txV (sgnT n) :: r.map txV) (t := 1) (by simp)]
          show some (HO.lst (r.map txV)) = some (HO.lst ((dropP (sideA qs c)).map txV))
          rw [hx]
          show _ = some (HO.lst ((if sgnT n = sg "+" then r else sgnT n :: r).map txV))
          rw [if_pos hn]
        · rw [if_neg fun e => hn ((sgn_iff n).mp e)]
          refine ok p H4 s4 hp0 ?_
          show _ = some (HO.lst ((dropP (sideA qs c)).map txV))
          rw [hx]
          show _ = some (HO.lst ((if sgnT n = sg "+" then r else sgnT n :: r).map txV))
          rw [if_neg hn]
          exact h4
      · rw [if_pos (Decidable.not_not.mp hc0)]
        by_cases hq0 : qs = []
        · refine ⟨false, .inl ⟨_, SqL.of h3, by rw [hq0]; simp⟩, ?_⟩
          rw [if_pos rfl]
          refine ⟨.inl ⟨rfl, _, SqL.of h3⟩, by decide, fun p1 hp1 => ⟨_, SqL.of upd_same, _, sgn_at c, ?_⟩⟩
          rw [abs_nat]
          refine ⟨log_ok hc, by decide, fun p2 hp2 => ?_⟩
          have hpp1 : p ≠ p1 := ne_of_none h3 hp1
          have h31 := (same_upd (o := HO.lst [V.str (S (cs "+")), V.str (S (cs "-"))]) hp1) _ _ h3
          have hpp2 : p ≠ p2 := ne_of_none h31 hp2
          refine ⟨_, (same_upd hp2) _ _ h31, _, upd_same, ?_, ?_⟩
          · rw [List.length_map, List.take_of_length_le (by omega)]
            exact small (by simp only [List.length_cons, List.length_nil]; omega)
          obtain ⟨H4, hH4⟩ : ∃ H4, H4 = upd (upd (upd H3 p1 (HO.lst [V.str (S (cs "+")), V.str (S (cs "-"))])) p2 (HO.lst [txV (sgnT c), V.str (S (cs (toString ((c.natAbs : Nat) : Int))))])) p (HO.lst (((List.take as.length qs).flatMap sideB).map txV ++ [txV (sgnT c), V.str (S (cs (toString ((c.natAbs : Nat) : Int))))])) := ⟨_, rfl⟩
          have s4 : Same H H4 := by rw [hH4]; exact Dw.Same.new ((s3.trans (same_upd hp1)).trans (same_upd hp2)) hp0
          have h4 : H4 p = some (.lst ((sideA qs c).map txV)) := by
            rw [hH4, upd_same, List.take_of_length_le (by omega)]
            unfold sideA
            rw [if_pos (by first | exact Or.inl hc0 | exact Or.inr hq0), List.map_append]
            rfl
          rw [← hH4]
          have hd1 := sideA_cons qs c
          obtain ⟨n, r, hx⟩ := hd1
          have h40 := h4
          rw [hx, List.map_cons] at h4
          refine ⟨_, SqL.of h4, txV (sgnT n), atI_nat (j := 0) rfl, rfl, ?_⟩
          by_cases hn : sgnT n = sg "+"
          · rw [if_pos ((sgn_iff n).mpr hn)]
            refine ⟨_, SqL.of h4, fun p3 hp3 => ok p3 _ (s4.trans (same_upd hp3)) (s4.free hp3) ?_⟩
            rw [upd_same, show (some (1 : Int)) = some (((1 : Nat)) : Int) from rfl, cutV_from (xs := txV (sgnT n) :: r.map txV) (t := 1) (by simp)]
            show some (HO.lst (r.map txV)) = some (HO.lst ((dropP (sideA qs c)).map txV))
            rw [hx]
            show _ = some (HO.lst ((if sgnT n = sg "+" then r else sgnT n :: r).map txV))
            rw [if_pos hn]
          · rw [if_neg fun e => hn ((sgn_iff n).mp e)]
            refine ok p H4 s4 hp0 ?_
            show _ = some (HO.lst ((dropP (sideA qs c)).map txV))
            rw [hx]
            show _ = some (HO.lst ((if sgnT n = sg "+" then r else sgnT n :: r).map txV))
            rw [if_neg hn]
            exact h4
        · have h4 : H3 p = some (.lst ((sideA qs c).map txV)) := by
            rw [h3, List.take_of_length_le (by omega)]
            unfold sideA
            rw [if_neg (by intro z; exact z.elim hc0 hq0), List.append_nil]
          refine ⟨true, .inl ⟨_, SqL.of h3, ?_⟩, ?_⟩
          · rw [h3] at h4
            have e := HO.lst.inj (Option.some.inj h4)
            rw [e]
            obtain ⟨n, r, hx⟩ := sideA_cons qs c
            rw [hx]
            rfl
          rw [if_neg (by decide)]
          obtain ⟨H4, hH4⟩ : ∃ H4, H4 = H3 := ⟨_, rfl⟩
          have s4 : Same H H4 := by rw [hH4]; exact s3
          rw [← hH4] at h4 ⊢
          have hd1 := sideA_cons qs c
          obtain ⟨n, r, hx⟩ := hd1
          have h40 := h4
          rw [hx, List.map_cons] at h4
          refine ⟨_, SqL.of h4, txV (sgnT n), atI_nat (j := 0) rfl, rfl, ?_⟩
          by_cases hn : sgnT n = sg "+"
          · rw [if_pos ((sgn_iff n).mpr hn)]
            refine ⟨_, SqL.of h4, fun p3 hp3 => ok p3 _ (s4.trans (same_upd hp3)) (s4.free hp3) ?_⟩
            rw [upd_same, show (some (1 : Int)) = some (((1 : Nat)) : Int) from rfl, cutV_from (xs := txV (sgnT n) :: r.map txV) (t := 1) (by simp)]
            show some (HO.lst (r.map txV)) = some (HO.lst ((dropP (sideA qs c)).map txV))
            rw [hx]
            show _ = some (HO.lst ((if sgnT n = sg "+" then r else sgnT n :: r).map txV))
            rw [if_pos hn]
          · rw [if_neg fun e => hn ((sgn_iff n).mp e)]
            refine ok p H4 s4 hp0 ?_
            show _ = some (HO.lst ((dropP (sideA qs c)).map txV))
            rw [hx]
            show _ = some (HO.lst ((if sgnT n = sg "+" then r else sgnT n :: r).map txV))
            rw [if_neg hn]
            exact h4

end
end
section
local macro_rules | `(tactic| walk_at "rd") => `(tactic| simp only [tSeq, tNext, tAsg, gName, tRet, tRetN, tIfS, tDrop, tVar, tC, tOp, tUn, tTest, tCB, tCons, tNil, tB, tAnd, tOr, tNot, tAndV, tOrV, tNotV, tIf, tCall, tTup, tLst, tSl, tPart, tNoPart, tM0, tM1, tBM, tChain, tBreak, tCont, tNever, tAug, ipI, tPar, tyV_str,
  tFor_eq, tLc_eq, tMkO, tYes, wipe, ofStr_S, S_cat, one_S, len_S, S_iff, S_cps, Int.zero_add, gNil, gCons, gTup, gSub, iRng1, iRng2, iList, iTup, iStr, rI0, rI, rU, rEq, rNe, rIxL, rIxT, rIxS, Dw.rLen, rListOf, rTupOf, rNotB, rIsB, rMulS, rIn, rCat, rAppend, rCatA, rEqD, rNeD, C8.rSlX, tDGet, Int.toNat_natCast, WE, iEnum, iRev, rSum, tFd, tFs, tFa_eq, L2.rAdd, tMake, tMakeS, tMeth, Dw.tMethS, tCallS, rSlL, rSlA, tDGet2, tDIn, tDNotIn, rSetD, rAll, rKIn, tBM0, rPop, rExtend, tAddT, rAddT, rSetT0, Dw.rSetL, rSortT, StX.tStar, tDNewK, tDisp, tPairs, L2.start, cxOf_K, cxOf_w, cxOf_prog,
  List.map_cons, List.map_nil, List.length_cons, List.length_nil, List.replicate, List.cons_append, List.nil_append, Nat.reduceAdd, Nat.reduceSub, Nat.zero_add, List.append_nil,
  List.set_cons_zero, List.set_cons_succ, List.getElem?_cons_zero, List.getElem?_cons_succ, Option.some.injEq, V.int.injEq, V.bl.injEq, V.ref.injEq, V.str.injEq, V.ty.injEq, List.cons.injEq, and_true, true_and, reduceCtorEq, false_and, exists_false, or_false, false_or, exists_eq_left, exists_eq_left', exists_eq', sw_S, an_S, exists_and_left, exists_const, exists_eq, decide_eq_true_eq, Bool.false_eq_true, if_true, if_false, Bool.not_eq_true', decide_eq_false_iff_not, Bool.not_true, Bool.not_false, ite_not, scal, and_false])
section
variable {P : Program} {w : World} {K : PySem.W.Frag} {mg : Str → Option Value} {base : Heap}
def sp_compare : Sp := fun vs H Q _ => ∃ (p q t : Addr) (ns : List Int) (qs : List (List Nat × Int)) (c : Int) (s : String), vs = [.ref p, .ref t, .str (S (cs s))] ∧ Pool H p q ns ∧ TermAt H t (qs.map pS) c ∧ qs.length ≤ 30 ∧ (∀ q ∈ qs, q.2.natAbs ≤ 255) ∧ c.natAbs ≤ 255 ∧
  ∀ (l : Addr) (xs : List Tv) H', But p H H' → Pool H' p q ns → H l = none → H' l = some (.lst (xs.map txV)) → CmpS qs c s xs → Q (.ref l) H'
theorem c__law_compare {f : Addr} {fd : FuncData} (D : C8.Def K mg "_law_compare" s__law_compare f fd) (b : Binds K fd ["pool", "term", "sign"] []) (c__law_take : C8.Cal P w K mg base 2 "_law_take" sp_take []) (c__law_side : C8.Cal P w K mg base 1 "_law_side" sp_side []) (z_len : mg "len" = none) : C8.Cal P w K mg base 3 "_law_compare" sp_compare [] := by
  refine C8.cal0 D b .nil sc__law_compare (fun vs H Q E h => ?_) (fun cdv A outer s H vs Q E hr h => ?_)
  · obtain ⟨_, _, _, _, _, _, _, rfl, _⟩ := h
    rfl
  · obtain ⟨p, q, t, ns, qs, c, sn, rfl, hP, ht, hn, hq, hc, ok⟩ := h
    refine ⟨_, (pss_cons (ps_set (i := 3) sc__law_compare.nd rfl (by first | exact Or.inl rfl | exact Or.inr rfl) (pe_lst pa_nil)) (pss_cons (ps_set (i := 4) sc__law_compare.nd rfl (by first | exact Or.inl rfl | exact Or.inr rfl) (pe_lst pa_nil)) (pss_cons (ps_for PassesOwn.never rfl (piT K (pe_ix (ixT K) (pv 1) pe_int (fun _ _ => rfl))) (pg_name (i := 5) sc__law_compare.nd rfl (by first | exact Or.inl rfl | exact Or.inr rfl)) (pss_one (ps_if (pt_cmpR (op_eq) (C8.pe_c c__law_take hr (by decide) (by rfl) (pa_cons (pv 0) (pa_cons pe_int pa_nil))) pe_int (nomark _)) (pss_one (ps_expr (pe_bm PySem.F.plainAttrs_list PySem.F.slot_list_append PySem.F.type_list_append mt_append (pv 3) (pa_cons (pv 5) pa_nil)))) (pss_one (ps_expr (pe_bm PySem.F.plainAttrs_list PySem.F.slot_list_insert PySem.F.type_list_insert L2.mt_insert (pv 4) (pa_cons (C8.pe_c c__law_take hr (by decide) (by rfl) (pa_cons (pv 0) (pa_cons (pe_op op_add (pe_callB (lenS K) (by rfl) z_len PySem.boot_len (pa_cons (pv 4) pa_nil)) pe_int) pa_nil))) (pa_cons (pe_tup (pa_cons (pe_ix (ixT K) (pv 5) pe_int (fun _ _ => rfl)) (pa_cons (pe_op op_sub pe_int (pe_ix (ixT K) (pv 5) pe_int (fun _ _ => rfl))) pa_nil))) pa_nil)))))))) (pss_cons (ps_set (i := 6) sc__law_compare.nd rfl (by first | exact Or.inl rfl | exact Or.inr rfl) (pe_lst (pa_cons (pe_ix (ixT K) (pv 1) pe_int (fun _ _ => rfl)) (pa_cons pe_int pa_nil)))) (pss_cons (ps_if (pt_cmpR (op_eq) (C8.pe_c c__law_take hr (by decide) (by rfl) (pa_cons (pv 0) (pa_cons pe_int pa_nil))) pe_int (nomark _)) (pss_one (ps_set (i := 6) sc__law_compare.nd rfl (by first | exact Or.inl rfl | exact Or.inr rfl) (pe_lst (pa_cons pe_int (pa_cons (pe_op op_sub pe_int (pe_ix (ixT K) (pv 1) pe_int (fun _ _ => rfl))) pa_nil))))) pss_nil) (pss_one (ps_ret (pe_op op_cat (pe_op op_cat (C8.pe_c c__law_side hr (by decide) (by rfl) (pa_cons (pv 3) (pa_cons (pe_ix (ixL K) (pv 6) pe_int (fun _ _ => rfl)) pa_nil))) (pe_lst (pa_cons (pv 2) pa_nil))) (C8.pe_c c__law_side hr (by decide) (by rfl) (pa_cons (pv 4) (pa_cons (pe_ix (ixL K) (pv 6) pe_int (fun _ _ => rfl)) pa_nil))))))))))), ?_⟩
    walk_at "rd"
    obtain ⟨u, as, htt, hu, hpr⟩ := ht
    refine ⟨Nat.zero_le _, fun A hA0 => ⟨Nat.zero_le _, fun B hB0 => ?_⟩⟩
    have hAp : A ≠ p := hP.ne hA0
    have hAq : A ≠ q := hP.neq hA0
    have hP1 := hP.same (same_upd (o := HO.lst []) hA0)
    have hBp : B ≠ p := hP1.ne hB0
    have hBq : B ≠ q := hP1.neq hB0
    have hAB : A ≠ B := ne_of_none upd_same hB0
    have hB00 : H B = none := by rw [← hB0, upd_ne hAB.symm]
    have s0 : Same H (upd (upd H A (.lst [])) B (.lst [])) := (same_upd hA0).trans (same_upd hB0)
    have hutt := s0 _ _ htt
    refine ⟨_, SqT.of hutt, _, atI_nat (j := 0) rfl, u, rfl, ⟨_, SqT.of (s0 _ _ hu)⟩, ?_⟩
    have hqa : as.length = qs.length := by have := hpr.len; rw [List.length_map] at this; exact this
    refine for_tupN (xs := as.map V.ref) (fun i σ H3 => ∃ (y : Option V) (ls rs : List Addr) (l r : List (List Nat × Int)), σ = [some (V.ref p), some (V.ref t), some (V.str (S (cs sn))), some (V.ref A), some (V.ref B), y, none] ∧ H3 A = some (.lst (ls.map V.ref)) ∧ H3 B = some (.lst (rs.map V.ref)) ∧ PrsAt H3 ls (l.map pS) ∧ PrsAt H3 rs (r.map pS) ∧ (l ++ r.map ngQ).Perm (qs.take i) ∧ But p H H3 ∧ Pool H3 p q ns) ⟨none, [], [], [], [], rfl, by rw [upd_ne hAB, upd_same]; rfl, upd_same, trivial, trivial, .refl _, But.of s0, hP.same s0⟩ ?_ ?_ ?_
    · rintro i σ H3 _ ⟨_, _, _, _, _, _, _, _, _, _, _, hB3, _⟩
      exact SqT.of ((Tups.pool hP hB3) _ _ hu)
    · rintro i σ v H3 N hv ⟨y, ls, rs, l, r, rfl, h3A, h3B, p3l, p3r, hpm, hB3, hP3⟩ hN
      obtain ⟨e, q0, he2, rfl, hq0, hpq⟩ := hpr.at hv
      rw [List.getElem?_map] at hq0
      obtain ⟨qq, hqi, rfl⟩ := Option.map_eq_some_iff.mp hq0
      walk_at "rd"
      have hil : i < qs.length := (List.getElem?_eq_some_iff.mp hqi).1
      have hlr : l.length + r.length ≤ 30 := by
        have := hpm.length_eq
        rw [List.length_append, List.length_map, List.length_take] at this
        omega
      have hll := p3l.len
      have hrl := p3r.len
      rw [List.length_map] at hll hrl
      have htk : qs.take (i + 1) = qs.take i ++ [qq] := by
        rw [List.take_add_one, hqi]
        rfl
      refine ⟨p, q, ns, 2, rfl, hP3, by decide, by decide, fun y1 H4 y0 y2 hB4 hP4 => ?_⟩
      have h4A := hB4 A _ hAp h3A
      have h4B := hB4 B _ hBp h3B
      have T34 := Tups.pool hP3 hB4
      have hll30 : ls.length ≤ 30 ∧ rs.length ≤ 30 := by omega
      have hpe3 := (Tups.pool hP hB3) _ _ hpq
      have hpe4 := T34 _ _ hpe3
      have keepA : ∀ {o : HO} {zs : List Addr} {xs : Prs}, PrsAt H4 zs xs → PrsAt (upd H4 A o) zs xs := fun h => PrsAt.keep (fun x y z => by rw [h4A] at z; cases z) But.upd h
      refine ⟨rfl, ?_⟩
      by_cases h0 : V.int y1 = V.int 0
      · rw [if_pos h0]
        refine ⟨.inl ⟨rfl, _, SqL.of h4A⟩, _, h4A, smallt (by rw [List.length_map]; omega), hN _ _ ⟨_, ls ++ [e], rs, l ++ [qq], r, rfl, by rw [upd_same, List.map_append]; rfl, by rw [upd_ne hAB.symm]; exact h4B, ?_, keepA (p3r.tups T34), ?_, (hB3.trans hB4).new hA0, hP4.set hAp hAq⟩⟩
        · rw [List.map_append]
          exact (keepA (p3l.tups T34)).snoc (by rw [upd_ne (fun z => by rw [z, h4A] at hpe4; cases hpe4)]; exact hpe4)
        · rw [htk]
          exact cmp_left hpm
      · rw [if_neg h0]
        refine ⟨.inl ⟨rfl, _, SqL.of h4B⟩, _, .inl (SqL.of h4B), p, q, ns, _, rfl, hP4, by rw [List.length_map]; omega, by rw [List.length_map]; omega, fun k H5 k0 k1 hB5 hP5 => ?_⟩
        have h5A := hB5 A _ hAp h4A
        have h5B := hB5 B _ hBp h4B
        have T45 := Tups.pool hP4 hB5
        have hpe5 := T45 _ _ hpe4
        refine ⟨_, SqT.of hpe5, _, atI_nat (j := 0) rfl, _, SqT.of hpe5, _, atI_nat (j := 1) rfl, qq.2, rfl, by decide, fun w0 hw0 => ?_⟩
        have h6B := (same_upd (o := HO.tup [V.str (S qq.1), V.int (0 - qq.2)]) hw0) _ _ h5B
        have h6A := (same_upd (o := HO.tup [V.str (S qq.1), V.int (0 - qq.2)]) hw0) _ _ h5A
        have T56 : Tups H5 (upd H5 w0 (HO.tup [V.str (S qq.1), V.int (0 - qq.2)])) := Tups.same (same_upd hw0)
        have hwB : w0 ≠ B := (ne_of_none h5B hw0).symm
        have keepB : ∀ {o : HO} {zs : List Addr} {xs : Prs}, PrsAt (upd H5 w0 (HO.tup [V.str (S qq.1), V.int (0 - qq.2)])) zs xs → PrsAt (upd (upd H5 w0 (HO.tup [V.str (S qq.1), V.int (0 - qq.2)])) B o) zs xs := fun h => PrsAt.keep (fun x y z => by rw [h6B] at z; cases z) But.upd h
        rw [List.length_map] at k1
        refine ⟨_, k, _, ⟨rfl, rfl⟩, h6B, smallt (by rw [List.length_map]; omega), k0, Int.lt_of_lt_of_le (b := 1073741824) (by omega) (by decide), hN _ _ ⟨_, ls, rs.take k.toNat ++ [w0] ++ rs.drop k.toNat, l, r.take k.toNat ++ [ngQ qq] ++ r.drop k.toNat, rfl, by rw [upd_ne hAB]; exact h6A, ?_, keepB (((p3l.tups T34).tups T45).tups T56), ?_, ?_, (((hB3.trans hB4).trans hB5).upd2 hw0).new hB00, (hP5.same (same_upd hw0)).set hBp hBq⟩⟩
        · rw [upd_same, List.map_append, List.map_append, List.map_take, List.map_drop]
          rfl
        · rw [List.map_append, List.map_append, List.map_take, List.map_drop]
          refine keepB (PrsAt.ins _ (((p3r.tups T34).tups T45).tups T56) ?_)
          rw [upd_same]
          rfl
        · rw [htk]
          exact cmp_right _ hpm
    · rintro σ H3 ⟨y, ls, rs, l, r, rfl, h3A, h3B, p3l, p3r, hpm, hB3, hP3⟩
      walk_at "rd"
      have hqi30 : qs.length ≤ 30 := hn
      rw [List.length_map, hqa, List.take_length] at hpm
      have hlr : l.length + r.length ≤ 30 := by
        have := hpm.length_eq
        rw [List.length_append, List.length_map] at this
        omega
      have hql : ∀ x ∈ l, x.2.natAbs ≤ 255 := fun x hx => hq x (hpm.mem_iff.mp (List.mem_append_left _ hx))
      have hqr : ∀ x ∈ r, x.2.natAbs ≤ 255 := fun x hx => by
        have := hq (ngQ x) (hpm.mem_iff.mp (List.mem_append_right _ (List.mem_map.mpr ⟨x, hx, rfl⟩)))
        unfold ngQ at this
        dsimp only at this
        omega
      have htt3 := (Tups.pool hP hB3) _ _ htt
      refine ⟨_, SqT.of htt3, _, atI_nat (j := 1) rfl, by decide, fun G hG => ⟨p, q, ns, 2, rfl, hP3.same (same_upd hG), by decide, by decide, fun y1 H4 y0 y2 hB4 hP4 => ⟨rfl, ?_⟩⟩⟩
      have sG := (same_upd (o := HO.lst [V.int c, V.int 0]) hG)
      have hB04 : But p H H4 := hB3.trans ((But.of sG).trans hB4)
      have h4A := hB4 A _ hAp (sG _ _ h3A)
      have h4B := hB4 B _ hBp (sG _ _ h3B)
      have T34 : Tups H3 H4 := (Tups.same sG).trans (Tups.pool (hP3.same sG) hB4)
      have hGp : G ≠ p := hP3.ne hG
      have h4G := hB4 G _ hGp upd_same
      by_cases h0 : V.int y1 = V.int 0
      · rw [if_pos h0]
        refine ⟨_, SqT.of (T34 _ _ htt3), _, atI_nat (j := 1) rfl, c, rfl, by decide, fun G2 hG2 => ?_⟩
        have sG2 := (same_upd (o := HO.lst [V.int 0, V.int (0 - c)]) hG2)
        have g0 : upd H4 G2 (HO.lst [V.int 0, V.int (0 - c)]) G2 = some (.lst [V.int 0, V.int (0 - c)]) := upd_same
        obtain ⟨H5, hH5⟩ : ∃ H5, H5 = upd H4 G2 (HO.lst [V.int 0, V.int (0 - c)]) := ⟨_, rfl⟩
        rw [← hH5] at g0 sG2 ⊢
        have fin : 0 - (0 - c) = c ∧ ((0 - c) = 0 ∨ (0 : Int) = 0) := ⟨by omega, .inr rfl⟩
        have hcl : (0 : Int).natAbs ≤ 255 := by decide
        have hcr : (0 - c).natAbs ≤ 255 := by omega
        have hB05 : But p H H5 := hB04.trans (But.of sG2)
        have hP5 := hP4.same sG2
        refine ⟨_, SqL.of g0, _, atI_nat (j := 0) rfl, A, ls, l, _, rfl, sG2 _ _ h4A, p3l.tups (T34.trans (Tups.same sG2)), by omega, hql, hcl, fun l1 H6 s6 hl10 hl1 => ⟨by decide, fun l2 hl2 => ?_⟩⟩
        refine ⟨l1, rfl, _, (same_upd hl2) _ _ hl1, _, upd_same, small ?_, fun l3 hl3 => ?_⟩
        · have := sideL_len l; simp only [List.length_map, List.length_cons, List.length_nil]
          exact Nat.le_trans (Nat.add_le_add_right (this _) 1) (by omega)
        have s63 := (same_upd (o := HO.lst [V.str (S (cs sn))]) hl2).trans (same_upd (o := HO.lst (List.map txV (sideL l 0) ++ [V.str (S (cs sn))])) hl3)
        have g3 := s63 _ _ (s6 _ _ g0)
        have h3B5 := s63 _ _ (s6 _ _ (sG2 _ _ h4B))
        refine ⟨_, SqL.of g3, _, atI_nat (j := 1) rfl, B, rs, r, _, rfl, h3B5, p3r.tups (T34.trans (Tups.same ((sG2.trans s6).trans s63))), by omega, hqr, hcr, fun l4 H7 s7 hl40 hl4 => ⟨l4, rfl, _, s7 _ _ upd_same, _, hl4, small ?_, fun l5 hl5 => ?_⟩⟩
        · have h1 := sideL_len l 0
          have h2 := sideL_len r (0 - c)
          simp only [List.length_append, List.length_map, List.length_cons, List.length_nil]
          omega
        have s57 : Same H5 (upd H7 l5 (.lst (List.map txV (sideL l 0) ++ [V.str (S (cs sn))] ++ List.map txV (sideL r (0 - c))))) := ((s6.trans s63).trans s7).trans (same_upd hl5)
        refine ok l5 (sideL l 0 ++ sg sn :: sideL r (0 - c)) _ (hB05.trans (But.of s57)) (hP5.same s57) ((hB05.trans (But.of ((s6.trans s63).trans s7))).free (hP5.same ((s6.trans s63).trans s7)) hl5) ?_ ⟨l, r, 0, (0 - c), hpm, fin.1, fin.2, rfl⟩
        rw [upd_same, List.map_append, List.append_assoc]
        rfl
      · rw [if_neg h0]
        obtain ⟨G2, hG2⟩ : ∃ G2, G2 = G := ⟨_, rfl⟩
        obtain ⟨H5, hH5⟩ : ∃ H5, H5 = H4 := ⟨_, rfl⟩
        have g0 : H5 G2 = some (.lst [V.int c, V.int 0]) := by rw [hH5, hG2]; exact h4G
        have sG2 : Same H4 H5 := by rw [hH5]; exact Same.refl _
        rw [← hG2, ← hH5]
        have fin : c - 0 = c ∧ ((0 : Int) = 0 ∨ c = 0) := ⟨by omega, .inl rfl⟩
        have hcl : c.natAbs ≤ 255 := hc
        have hcr : (0 : Int).natAbs ≤ 255 := by decide
        have hB05 : But p H H5 := hB04.trans (But.of sG2)
        have hP5 := hP4.same sG2
        refine ⟨_, SqL.of g0, _, atI_nat (j := 0) rfl, A, ls, l, _, rfl, sG2 _ _ h4A, p3l.tups (T34.trans (Tups.same sG2)), by omega, hql, hcl, fun l1 H6 s6 hl10 hl1 => ⟨by decide, fun l2 hl2 => ?_⟩⟩
        refine ⟨l1, rfl, _, (same_upd hl2) _ _ hl1, _, upd_same, small ?_, fun l3 hl3 => ?_⟩
        · have := sideL_len l; simp only [List.length_map, List.length_cons, List.length_nil]
          exact Nat.le_trans (Nat.add_le_add_right (this _) 1) (by omega)
        have s63 := (same_upd (o := HO.lst [V.str (S (cs sn))]) hl2).trans (same_upd (o := HO.lst (List.map txV (sideL l c) ++ [V.str (S (cs sn))])) hl3)
        have g3 := s63 _ _ (s6 _ _ g0)
        have h3B5 := s63 _ _ (s6 _ _ (sG2 _ _ h4B))
        refine ⟨_, SqL.of g3, _, atI_nat (j := 1) rfl, B, rs, r, _, rfl, h3B5, p3r.tups (T34.trans (Tups.same ((sG2.trans s6).trans s63))), by omega, hqr, hcr, fun l4 H7 s7 hl40 hl4 => ⟨l4, rfl, _, s7 _ _ upd_same, _, hl4, small ?_, fun l5 hl5 => ?_⟩⟩
        · have h1 := sideL_len l c
          have h2 := sideL_len r 0
          simp only [List.length_append, List.length_map, List.length_cons, List.length_nil]
          omega
        have s57 : Same H5 (upd H7 l5 (.lst (List.map txV (sideL l c) ++ [V.str (S (cs sn))] ++ List.map txV (sideL r 0)))) := ((s6.trans s63).trans s7).trans (same_upd hl5)
        refine ok l5 (sideL l c ++ sg sn :: sideL r 0) _ (hB05.trans (But.of s57)) (hP5.same s57) ((hB05.trans (But.of ((s6.trans s63).trans s7))).free (hP5.same ((s6.trans s63).trans s7)) hl5) ?_ ⟨l, r, c, 0, hpm, fin.1, fin.2, rfl⟩
        rw [upd_same, List.map_append, List.append_assoc]
        rfl

end
end
section
local macro_rules | `(tactic| walk_at "rd") => `(tactic| simp only [tSeq, tNext, tAsg, gName, tRet, tRetN, tIfS, tDrop, tVar, tC, tOp, tUn, tTest, tCB, tCons, tNil, tB, tAnd, tOr, tNot, tAndV, tOrV, tNotV, tIf, tCall, tTup, tLst, tSl, tPart, tNoPart, tM0, tM1, tBM, tChain, tBreak, tCont, tNever, tAug, ipI, tPar, tyV_str,
  tFor_eq, tLc_eq, tMkO, tYes, wipe, ofStr_S, S_cat, one_S, len_S, S_iff, S_cps, Int.zero_add, gNil, gCons, gTup, gSub, iRng1, iRng2, iList, iTup, iStr, rI0, rI, rU, rEq, rNe, rIxL, rIxT, rIxS, Dw.rLen, rListOf, rTupOf, rNotB, rIsB, rMulS, rIn, rCat, rAppend, rCatA, rEqD, rNeD, C8.rSlX, tDGet, Int.toNat_natCast, WE, iEnum, iRev, rSum, tFd, tFs, tFa_eq, L2.rAdd, tMake, tMakeS, tMeth, Dw.tMethS, tCallS, rSlL, rSlA, tDGet2, tDIn, tDNotIn, rSetD, rAll, rKIn, tBM0, rPop, rExtend, tAddT, rAddT, rSetT0, Dw.rSetL, rSortT, StX.tStar, tDNewK, tDisp, tPairs, L2.start, cxOf_K, cxOf_w, cxOf_prog,
  List.map_cons, List.map_nil, List.length_cons, List.length_nil, List.replicate, List.cons_append, List.nil_append, Nat.reduceAdd, Nat.reduceSub, Nat.zero_add, List.append_nil,
  List.set_cons_zero, List.set_cons_succ, List.getElem?_cons_zero, List.getElem?_cons_succ, Option.some.injEq, V.int.injEq, V.bl.injEq, V.ref.injEq, V.str.injEq, V.ty.injEq, List.cons.injEq, and_true, true_and, reduceCtorEq, false_and, exists_false, or_false, false_or, exists_eq_left, exists_eq_left', exists_eq', sw_S, an_S, exists_and_left, exists_const, exists_eq, decide_eq_true_eq, Bool.false_eq_true, if_true, if_false, Bool.not_eq_true', decide_eq_false_iff_not, Bool.not_true, Bool.not_false, ite_not, scal, and_false])
section
variable {P : Program} {w : World} {K : PySem.W.Frag} {mg : Str → Option Value} {base : Heap}
def sp_turned : Sp := fun vs H Q _ => ∃ (t : Addr) (qs : List (List Nat × Int)) (c m : Int), vs = [.ref t, .int m] ∧ TermAt H t (qs.map pS) c ∧ qs.length ≤ 30 ∧ ∀ u H', Same H H' → TermAt H' u ((qs.map ngQ).map pS) (m - c) → Q (.ref u) H'
theorem c__law_turned {f : Addr} {fd : FuncData} (D : C8.Def K mg "_law_turned" s__law_turned f fd) (b : Binds K fd ["term", "more"] []) (z_tuple : mg "tuple" = none) : C8.Cal P w K mg base 1 "_law_turned" sp_turned [] := by
  refine C8.cal0 D b .nil sc__law_turned (fun vs H Q E h => ?_) (fun cdv A outer s H vs Q E hr h => ?_)
  · obtain ⟨_, _, _, _, rfl, _⟩ := h
    rfl
  · obtain ⟨t, qs, c, m, rfl, ht, hn, ok⟩ := h
    refine ⟨_, (pss_one (ps_ret (pe_tup (pa_cons (pe_callTy (tupOf K) (by rfl) z_tuple (by decide +kernel) (pa_cons (pe_lc (own := [("pair", 2)]) (g := (gName 2)) (tt := tYes) rfl sc__law_turned.nd (piT K (pe_ix (ixT K) (pv 0) pe_int (fun _ _ => rfl))) (blkOk_by (N := N__law_turned) (sc := C8.fnScope s__law_turned) (by decide +kernel)) (fun _ _ _ _ _ => (pg_name (i := 2) sc__law_turned.nd rfl (by first | exact Or.inl rfl | exact Or.inr rfl))) (fun _ _ _ _ _ => pts_nil) (fun _ _ _ _ _ => (pe_tup (pa_cons (pe_ix (ixT K) (pv 2) pe_int (fun _ _ => rfl)) (pa_cons (pe_op op_sub pe_int (pe_ix (ixT K) (pv 2) pe_int (fun _ _ => rfl))) pa_nil))))) pa_nil)) (pa_cons (pe_op op_sub (pv 1) (pe_ix (ixT K) (pv 0) pe_int (fun _ _ => rfl))) pa_nil))))), ?_⟩
    walk_at "rd"
    obtain ⟨u, as, htt, hu, hpr⟩ := ht
    have hqa : as.length = qs.length := by have := hpr.len; rw [List.length_map] at this; exact this
    refine ⟨_, SqT.of htt, _, atI_nat (j := 0) rfl, u, rfl, ⟨_, SqT.of hu⟩, fun G hG => ?_⟩
    refine lc_tupN (xs := as.map V.ref) (fun i H2 => ∃ bs : List Addr, H2 G = some (.lst (bs.map V.ref)) ∧ PrsAt H2 bs (((qs.take i).map ngQ).map pS) ∧ Same H H2) ⟨[], upd_same, trivial, same_upd hG⟩ ?_ ?_ ?_
    · rintro i H2 _ ⟨bs, _, _, s2⟩
      exact SqT.of (s2 _ _ hu)
    · rintro i v H2 N hv ⟨bs, h2, p2, s2⟩ hN
      obtain ⟨e, q0, he2, rfl, hq0, hpq⟩ := hpr.at hv
      rw [List.getElem?_map] at hq0
      obtain ⟨qq, hqi, rfl⟩ := Option.map_eq_some_iff.mp hq0
      walk_at "rd"
      have hbl := p2.len
      rw [List.length_map, List.length_map, List.length_take] at hbl
      refine ⟨_, SqT.of (s2 _ _ hpq), _, atI_nat (j := 0) rfl, _, SqT.of (s2 _ _ hpq), _, atI_nat (j := 1) rfl, qq.2, rfl, by decide, fun T hT => ⟨_, (same_upd hT) _ _ h2, smallt (by rw [List.length_map]; omega), hN _ ⟨bs ++ [T], ?_, ?_, ?_⟩⟩⟩
      · rw [upd_same, List.map_append]
        rfl
      · have hTG : T ≠ G := (ne_of_none h2 hT).symm
        rw [List.take_add_one, hqi, List.map_append, List.map_append]
        refine PrsAt.snoc (PrsAt.keep ?_ But.upd (p2.same (same_upd hT))) ?_
        · intro x y z
          rw [(same_upd hT) _ _ h2] at z
          cases z
        · rw [upd_ne hTG, upd_same]
          rfl
      · exact Dw.Same.new (s2.trans (same_upd hT)) hG
    · rintro H2 ⟨bs, h2, p2, s2⟩
      rw [List.length_map, hqa, List.take_length] at p2
      refine ⟨_, .inl ⟨SqL.of h2, fun l hl => ?_⟩⟩
      have s2l := s2.trans (same_upd (o := HO.tup (bs.map V.ref)) hl)
      refine ⟨_, SqT.of (s2l _ _ htt), _, atI_nat (j := 1) rfl, c, rfl, by decide, fun w0 hw0 => ?_⟩
      have s3 := s2l.trans (same_upd (o := HO.tup [V.ref l, V.int (m - c)]) hw0)
      exact ok w0 _ s3 ⟨l, bs, upd_same, (same_upd hw0) _ _ upd_same, p2.same ((same_upd hl).trans (same_upd hw0))⟩

end
end
section
local macro_rules | `(tactic| walk_at "rd") => `(tactic| simp only [tSeq, tNext, tAsg, gName, tRet, tRetN, tIfS, tDrop, tVar, tC, tOp, tUn, tTest, tCB, tCons, tNil, tB, tAnd, tOr, tNot, tAndV, tOrV, tNotV, tIf, tCall, tTup, tLst, tSl, tPart, tNoPart, tM0, tM1, tBM, tChain, tBreak, tCont, tNever, tAug, ipI, tPar, tyV_str,
  tFor_eq, tLc_eq, tMkO, tYes, wipe, ofStr_S, S_cat, one_S, len_S, S_iff, S_cps, Int.zero_add, gNil, gCons, gTup, gSub, iRng1, iRng2, iList, iTup, iStr, rI0, rI, rU, rEq, rNe, rIxL, rIxT, rIxS, Dw.rLen, rListOf, rTupOf, rNotB, rIsB, rMulS, rIn, rCat, rAppend, rCatA, rEqD, rNeD, C8.rSlX, tDGet, Int.toNat_natCast, WE, iEnum, iRev, rSum, tFd, tFs, tFa_eq, L2.rAdd, tMake, tMakeS, tMeth, Dw.tMethS, tCallS, rSlL, rSlA, tDGet2, tDIn, tDNotIn, rSetD, rAll, rKIn, tBM0, rPop, rExtend, tAddT, rAddT, rSetT0, Dw.rSetL, rSortT, StX.tStar, tDNewK, tDisp, tPairs, L2.start, cxOf_K, cxOf_w, cxOf_prog,
  List.map_cons, List.map_nil, List.length_cons, List.length_nil, List.replicate, List.cons_append, List.nil_append, Nat.reduceAdd, Nat.reduceSub, Nat.zero_add, List.append_nil,
  List.set_cons_zero, List.set_cons_succ, List.getElem?_cons_zero, List.getElem?_cons_succ, Option.some.injEq, V.int.injEq, V.bl.injEq, V.ref.injEq, V.str.injEq, V.ty.injEq, List.cons.injEq, and_true, true_and, reduceCtorEq, false_and, exists_false, or_false, false_or, exists_eq_left, exists_eq_left', exists_eq', sw_S, an_S, exists_and_left, exists_const, exists_eq, decide_eq_true_eq, Bool.false_eq_true, if_true, if_false, Bool.not_eq_true', decide_eq_false_iff_not, Bool.not_true, Bool.not_false, ite_not, scal, and_false])
section
variable {P : Program} {w : World} {K : PySem.W.Frag} {mg : Str → Option Value} {base : Heap}
def isAtom : Fm → Prop
  | .not _ => False
  | .bin _ _ _ => False
  | .qf _ _ _ => False
  | _ => True
def sp_atom : Sp := fun vs H Q _ => ∃ (p q t : Addr) (ns : List Int) (f : Fm), vs = [.ref p, .ref t] ∧ Pool H p q ns ∧ FmAt H t f ∧ isAtom f ∧ f.Good ∧ f.Sm ∧
  ∀ (l : Addr) (xs : List Tv) H', But p H H' → Pool H' p q ns → H l = none → H' l = some (.lst (xs.map txV)) → AtomS f xs → Q (.ref l) H'
theorem c__law_spell_atom {f : Addr} {fd : FuncData} (D : C8.Def K mg "_law_spell_atom" s__law_spell_atom f fd) (b : Binds K fd ["pool", "formula"] []) (c__law_take : C8.Cal P w K mg base 2 "_law_take" sp_take []) (c__law_compare : C8.Cal P w K mg base 3 "_law_compare" sp_compare []) (c__law_turned : C8.Cal P w K mg base 1 "_law_turned" sp_turned []) (z_str : mg "str" = none) (z_len : mg "len" = none) : C8.Cal P w K mg base 4 "_law_spell_atom" sp_atom [] := by
  refine C8.cal0 D b .nil sc__law_spell_atom (fun vs H Q E h => ?_) (fun cdv A outer s H vs Q E hr h => ?_)
  · obtain ⟨_, _, _, _, _, rfl, _⟩ := h
    rfl
  · obtain ⟨p, q, t, ns, f1, rfl, hP, ht, ha, hg, hs, ok⟩ := h
    refine ⟨_, (pss_cons (ps_if (pt_cmpR (op_eq) (pe_ix (ixT K) (pv 1) pe_int (fun _ _ => rfl)) pe_str (nomark _)) (pss_one (ps_ret (C8.pe_c c__law_compare hr (by decide) (by rfl) (pa_cons (pv 0) (pa_cons (pe_ix (ixT K) (pv 1) pe_int (fun _ _ => rfl)) (pa_cons pe_str pa_nil)))))) pss_nil) (pss_cons (ps_if (pt_cmpR (op_eq) (pe_ix (ixT K) (pv 1) pe_int (fun _ _ => rfl)) pe_str (nomark _)) (pss_cons (ps_set (i := 2) sc__law_spell_atom.nd rfl (by first | exact Or.inl rfl | exact Or.inr rfl) (pe_ix (ixT K) (pv 1) pe_int (fun _ _ => rfl))) (pss_cons (ps_set (i := 3) sc__law_spell_atom.nd rfl (by first | exact Or.inl rfl | exact Or.inr rfl) (C8.pe_c c__law_take hr (by decide) (by rfl) (pa_cons (pv 0) (pa_cons pe_int pa_nil)))) (pss_cons (ps_if (pt_cmpR (op_eq) (pv 3) pe_int (nomark _)) (pss_one (ps_ret (C8.pe_c c__law_compare hr (by decide) (by rfl) (pa_cons (pv 0) (pa_cons (pv 2) (pa_cons pe_str pa_nil)))))) pss_nil) (pss_cons (ps_if (pt_cmpR (op_eq) (pv 3) pe_int (nomark _)) (pss_one (ps_ret (C8.pe_c c__law_compare hr (by decide) (by rfl) (pa_cons (pv 0) (pa_cons (pe_tup (pa_cons (pe_ix (ixT K) (pv 2) pe_int (fun _ _ => rfl)) (pa_cons (pe_op op_sub (pe_ix (ixT K) (pv 2) pe_int (fun _ _ => rfl)) pe_int) pa_nil))) (pa_cons pe_str pa_nil)))))) pss_nil) (pss_cons (ps_if (pt_cmpR (op_eq) (pv 3) pe_int (nomark _)) (pss_one (ps_ret (C8.pe_c c__law_compare hr (by decide) (by rfl) (pa_cons (pv 0) (pa_cons (C8.pe_c c__law_turned hr (by decide) (by rfl) (pa_cons (pv 2) (pa_cons pe_int pa_nil))) (pa_cons pe_str pa_nil)))))) pss_nil) (pss_one (ps_ret (C8.pe_c c__law_compare hr (by decide) (by rfl) (pa_cons (pv 0) (pa_cons (C8.pe_c c__law_turned hr (by decide) (by rfl) (pa_cons (pv 2) (pa_cons pe_int pa_nil))) (pa_cons pe_str pa_nil))))))))))) pss_nil) (pss_cons (ps_if (pt_cmpR (op_eq) (pe_ix (ixT K) (pv 1) pe_int (fun _ _ => rfl)) pe_str (nomark _)) (pss_one (ps_ret (pe_lst (pa_cons pe_str (pa_cons pe_str (pa_cons (pe_ix (ixT K) (pv 1) pe_int (fun _ _ => rfl)) (pa_cons pe_str pa_nil))))))) pss_nil) (pss_cons (ps_if (pt_cmpR (op_eq) (pe_ix (ixT K) (pv 1) pe_int (fun _ _ => rfl)) pe_str (nomark _)) (pss_one (ps_ret (pe_lst (pa_cons (pe_ix (ixT K) (pv 1) pe_int (fun _ _ => rfl)) (pa_cons pe_str (pa_cons (pe_ix (ixT K) (pv 1) pe_int (fun _ _ => rfl)) (pa_cons pe_str (pa_cons pe_str (pa_cons (pe_callTy call_str_int (by rfl) z_str (by decide +kernel) (pa_cons (pe_ix (ixT K) (pv 1) pe_int (fun _ _ => rfl)) pa_nil)) pa_nil))))))))) pss_nil) (pss_cons (ps_set (i := 4) sc__law_spell_atom.nd rfl (by first | exact Or.inl rfl | exact Or.inr rfl) (pe_lst (pa_cons (pe_ix (ixT K) (pv 1) pe_int (fun _ _ => rfl)) (pa_cons pe_str pa_nil)))) (pss_cons (ps_for PassesOwn.never rfl (piT K (pe_ix (ixT K) (pv 1) pe_int (fun _ _ => rfl))) (pg_name (i := 5) sc__law_spell_atom.nd rfl (by first | exact Or.inl rfl | exact Or.inr rfl)) (pss_cons (ps_if (pt_cmpR (op_gt) (pe_callB (lenS K) (by rfl) z_len PySem.boot_len (pa_cons (pv 4) pa_nil)) pe_int (nomark _)) (pss_one (ps_expr (pe_bm PySem.F.plainAttrs_list PySem.F.slot_list_append PySem.F.type_list_append mt_append (pv 4) (pa_cons pe_str pa_nil)))) pss_nil) (pss_one (ps_expr (pe_bm PySem.F.plainAttrs_list PySem.F.slot_list_append PySem.F.type_list_append mt_append (pv 4) (pa_cons (pv 5) pa_nil)))))) (pss_one (ps_ret (pe_op op_cat (pv 4) (pe_lst (pa_cons pe_str pa_nil))))))))))), ?_⟩
    obtain ⟨xs, hxs⟩ := fm_hd ht
    walk_at "rd"
    cases f1 with
    | not a => exact ha.elim
    | bin k a b => exact ha.elim
    | qf k z a => exact ha.elim
    | pow z =>
      have htt : H t = some (.tup [.str (S (cs "pow")), .str (S z)]) := ht
      refine ⟨_, SqT.of htt, _, atI_nat (j := 0) rfl, rfl, ?_⟩
      rw [if_neg (nSc (by decide))]
      refine ⟨_, SqT.of htt, _, atI_nat (j := 0) rfl, rfl, ?_⟩
      rw [if_neg (nSc (by decide))]
      refine ⟨_, SqT.of htt, _, atI_nat (j := 0) rfl, rfl, ?_⟩
      rw [if_pos rfl]
      refine ⟨_, SqT.of htt, _, atI_nat (j := 1) rfl, by decide, fun l hl => ?_⟩
      exact ok l _ _ (But.of (same_upd hl)) (hP.same (same_upd hl)) hl (by rw [upd_same]; rfl) (.pow z)
    | word w z o =>
      have htt : H t = some (.tup [.str (S (cs "word")), .str (S w), .str (S z), .int o]) := ht
      refine ⟨_, SqT.of htt, _, atI_nat (j := 0) rfl, rfl, ?_⟩
      rw [if_neg (nSc (by decide))]
      refine ⟨_, SqT.of htt, _, atI_nat (j := 0) rfl, rfl, ?_⟩
      rw [if_neg (nSc (by decide))]
      refine ⟨_, SqT.of htt, _, atI_nat (j := 0) rfl, rfl, ?_⟩
      rw [if_neg (nSc (by decide))]
      refine ⟨_, SqT.of htt, _, atI_nat (j := 0) rfl, rfl, ?_⟩
      rw [if_pos rfl]
      obtain ⟨_, _, o0, o9⟩ := hg
      obtain ⟨m, rfl⟩ : ∃ m : Nat, o = (m : Nat) := ⟨o.toNat, by omega⟩
      refine ⟨_, SqT.of htt, _, atI_nat (j := 1) rfl, _, SqT.of htt, _, atI_nat (j := 2) rfl, _, SqT.of htt, _, atI_nat (j := 3) rfl, (m : Nat), rfl, log_ok (by omega), by decide, fun l hl => ?_⟩
      exact ok l _ _ (But.of (same_upd hl)) (hP.same (same_upd hl)) hl (by rw [upd_same]; rfl) (.word w z m)
    | call g zs =>
      obtain ⟨u, htt, hu⟩ := ht
      refine ⟨_, SqT.of htt, _, atI_nat (j := 0) rfl, rfl, ?_⟩
      rw [if_neg (nSc (by decide))]
      refine ⟨_, SqT.of htt, _, atI_nat (j := 0) rfl, rfl, ?_⟩
      rw [if_neg (nSc (by decide))]
      refine ⟨_, SqT.of htt, _, atI_nat (j := 0) rfl, rfl, ?_⟩
      rw [if_neg (nSc (by decide))]
      refine ⟨_, SqT.of htt, _, atI_nat (j := 0) rfl, rfl, ?_⟩
      rw [if_neg (nSc (by decide))]
      refine ⟨_, SqT.of htt, _, atI_nat (j := 1) rfl, by decide, fun L hL => ?_⟩
      have hLp := hP.ne hL
      have sL := same_upd (o := HO.lst [V.str (S g), V.str (S (cs "("))]) hL
      have h3 : zs.length ≤ 3 := hs
      refine ⟨_, SqT.of (sL _ _ htt), _, atI_nat (j := 2) rfl, u, rfl, ⟨_, SqT.of (sL _ _ hu)⟩, ?_⟩
      refine for_tupN (xs := zs.map vS) (fun i σ H3 => (∃ y, σ = [some (V.ref p), some (V.ref t), none, none, some (V.ref L), y]) ∧ H3 L = some (.lst ((.name g :: sg "(" :: namesJ (zs.take i)).map txV)) ∧ Same H H3) ⟨⟨_, rfl⟩, by rw [upd_same]; rfl, sL⟩ ?_ ?_ ?_
      · rintro i σ H3 _ ⟨_, _, s3⟩
        exact SqT.of (s3 _ _ hu)
      · rintro i σ v H3 N hv ⟨⟨y, rfl⟩, h3L, s3⟩ hN
        rw [List.getElem?_map] at hv
        obtain ⟨z, hz, rfl⟩ := Option.map_eq_some_iff.mp hv
        have hil : i < zs.length := (List.getElem?_eq_some_iff.mp hz).1
        have htk : zs.take (i + 1) = zs.take i ++ [z] := by
          rw [List.take_add_one, hz]
          rfl
        have hjl := namesJ_len (zs.take i)
        rw [List.length_take] at hjl
        walk_at "rd"
        refine ⟨_, .inl (SqL.of h3L), ?_⟩
        by_cases h0 : i = 0
        · rw [if_neg (by rw [h0, List.length_map]; show ¬ (2 : Int) < ((2 : Nat) : Int); decide)]
          refine ⟨.inl ⟨rfl, _, SqL.of h3L⟩, _, h3L, smallt (by rw [List.length_map, List.length_cons, List.length_cons]; omega), hN _ _ ⟨⟨_, rfl⟩, ?_, Dw.Same.new s3 hL⟩⟩
          rw [upd_same, htk, h0]
          rfl
        · have hne : zs.take i ≠ [] := fun e => by
            have := congrArg List.length e
            rw [List.length_take, List.length_nil] at this
            omega
          have hpos := namesJ_pos hne
          rw [if_pos (by rw [List.length_map, List.length_cons, List.length_cons]; omega)]
          refine ⟨.inl ⟨rfl, _, SqL.of h3L⟩, _, h3L, smallt (by rw [List.length_map, List.length_cons, List.length_cons]; omega), ?_⟩
          refine ⟨.inl ⟨rfl, _, SqL.of upd_same⟩, _, upd_same, smallt (by rw [List.length_append, List.length_map, List.length_cons, List.length_cons, List.length_singleton]; omega), hN _ _ ⟨⟨_, rfl⟩, ?_, Dw.Same.new (Dw.Same.new s3 hL) hL⟩⟩
          rw [upd_same, htk, namesJ_snoc hne, List.append_assoc, ← List.cons_append, ← List.cons_append, List.map_append]
          rfl
      · rintro σ H3 ⟨⟨y, rfl⟩, h3L, s3⟩
        rw [List.length_map, List.take_length] at h3L
        have hjl := namesJ_len zs
        walk_at "rd"
        refine ⟨by decide, fun l1 hl1 => ⟨_, (same_upd hl1) _ _ h3L, _, upd_same, small (by rw [List.length_map, List.length_cons, List.length_cons]; simp only [List.length_cons, List.length_nil]; omega), fun l hl => ?_⟩⟩
        have s5 := (s3.trans (same_upd (o := HO.lst [V.str (S (cs ")"))]) hl1)).trans (same_upd (o := HO.lst (List.map txV (.name g :: sg "(" :: namesJ zs) ++ [V.str (S (cs ")"))])) hl)
        refine ok l _ _ (But.of s5) (hP.same s5) (s3.free (Same.free (same_upd hl1) hl)) ?_ (.call g zs)
        rw [upd_same, ← List.cons_append, ← List.cons_append, List.map_append]
        rfl
    | cmp k ps c =>
      obtain ⟨u, htt, hu⟩ := ht
      obtain ⟨hgg, _, _, _, _, _⟩ := hg
      obtain ⟨qs, rfl, _⟩ := good_qs hgg
      obtain ⟨s1, s2, s3⟩ := hs
      rw [List.length_map] at s1
      have hq64 : ∀ q ∈ qs, q.2.natAbs ≤ 64 := fun q hq => s2 (pS q) (List.mem_map.mpr ⟨q, hq, rfl⟩)
      have hq : ∀ q ∈ qs, q.2.natAbs ≤ 255 := fun q hm => Nat.le_trans (hq64 q hm) (by decide)
      have hqn : ∀ q ∈ qs.map ngQ, q.2.natAbs ≤ 255 := fun q hm => by
        obtain ⟨y, hy, rfl⟩ := List.mem_map.mp hm
        have := hq y hy
        show (0 - y.2).natAbs ≤ 255
        omega
      cases k with
      | true =>
        have htt : H t = some (.tup [.str (S (cs "eq")), .ref u]) := htt
        refine ⟨_, SqT.of htt, _, atI_nat (j := 0) rfl, rfl, ?_⟩
        rw [if_pos rfl]
        exact ⟨_, SqT.of htt, _, atI_nat (j := 1) rfl, p, q, u, ns, qs, c, "=", rfl, hP, hu, by omega, hq, by omega, fun l xs H' hB hP' hl h1 hc => ok l xs H' hB hP' hl h1 (.eq hc)⟩
      | false =>
        have htt : H t = some (.tup [.str (S (cs "le")), .ref u]) := htt
        refine ⟨_, SqT.of htt, _, atI_nat (j := 0) rfl, rfl, ?_⟩
        rw [if_neg (nSc (by decide))]
        refine ⟨_, SqT.of htt, _, atI_nat (j := 0) rfl, rfl, ?_⟩
        rw [if_pos rfl]
        refine ⟨_, SqT.of htt, _, atI_nat (j := 1) rfl, p, q, ns, 4, rfl, hP, by decide, by decide, fun y1 H1 y0 y2 hB1 hP1 => ⟨rfl, ?_⟩⟩
        have hu1 := hu.tups (Tups.pool hP hB1)
        by_cases e0 : V.int y1 = V.int 0
        · rw [if_pos e0]
          exact ⟨p, q, u, ns, qs, c, "<=", rfl, hP1, hu1, by omega, hq, by omega, fun l xs H' hB hP' hl h1 hc => ok l xs H' (hB1.trans hB) hP' (hB1.free hP1 hl) h1 (.le hc)⟩
        rw [if_neg e0]
        refine ⟨rfl, ?_⟩
        by_cases e1 : V.int y1 = V.int 1
        · rw [if_pos e1]
          obtain ⟨v, as, hv1, hv2, hv3⟩ := hu1
          refine ⟨u, rfl, _, SqT.of hv1, _, atI_nat (j := 0) rfl, u, rfl, _, SqT.of hv1, _, atI_nat (j := 1) rfl, c, rfl, by decide, fun w0 hw0 => ?_⟩
          have sw := same_upd (o := HO.tup [V.ref v, V.int (c - 1)]) hw0
          exact ⟨p, q, w0, ns, qs, c - 1, "<", rfl, hP1.same sw, ⟨v, as, upd_same, sw _ _ hv2, hv3.same sw⟩, by omega, hq, by omega, fun l xs H' hB hP' hl h1 hc => ok l xs H' ((hB1.trans (But.of sw)).trans hB) hP' ((hB1.trans (But.of sw)).free (hP1.same sw) hl) h1 (.lt hc)⟩
        rw [if_neg e1]
        refine ⟨rfl, ?_⟩
        by_cases e2 : V.int y1 = V.int 2
        · rw [if_pos e2]
          refine ⟨u, qs, c, 0, rfl, hu1, by omega, fun v H2 s2 hv => ?_⟩
          exact ⟨p, q, v, ns, qs.map ngQ, 0 - c, ">=", rfl, hP1.same s2, hv, by rw [List.length_map]; omega, hqn, by omega, fun l xs H' hB hP' hl h1 hc => ok l xs H' ((hB1.trans (But.of s2)).trans hB) hP' ((hB1.trans (But.of s2)).free (hP1.same s2) hl) h1 (.ge hc)⟩
        rw [if_neg e2]
        refine ⟨u, qs, c, 1, rfl, hu1, by omega, fun v H2 s2 hv => ?_⟩
        exact ⟨p, q, v, ns, qs.map ngQ, 1 - c, ">", rfl, hP1.same s2, hv, by rw [List.length_map]; omega, hqn, by omega, fun l xs H' hB hP' hl h1 hc => ok l xs H' ((hB1.trans (But.of s2)).trans hB) hP' ((hB1.trans (But.of s2)).free (hP1.same s2) hl) h1 (.gt hc)⟩

end
end
section
local macro_rules | `(tactic| walk_at "rd") => `(tactic| simp only [tSeq, tNext, tAsg, gName, tRet, tRetN, tIfS, tDrop, tVar, tC, tOp, tUn, tTest, tCB, tCons, tNil, tB, tAnd, tOr, tNot, tAndV, tOrV, tNotV, tIf, tCall, tTup, tLst, tSl, tPart, tNoPart, tM0, tM1, tBM, tChain, tBreak, tCont, tNever, tAug, ipI, tPar, tyV_str,
  tFor_eq, tLc_eq, tMkO, tYes, wipe, ofStr_S, S_cat, one_S, len_S, S_iff, S_cps, Int.zero_add, gNil, gCons, gTup, gSub, iRng1, iRng2, iList, iTup, iStr, rI0, rI, rU, rEq, rNe, rIxL, rIxT, rIxS, Dw.rLen, rListOf, rTupOf, rNotB, rIsB, rMulS, rIn, rCat, rAppend, rCatA, rEqD, rNeD, C8.rSlX, tDGet, Int.toNat_natCast, WE, iEnum, iRev, rSum, tFd, tFs, tFa_eq, L2.rAdd, tMake, tMakeS, tMeth, Dw.tMethS, tCallS, rSlL, rSlA, tDGet2, tDIn, tDNotIn, rSetD, rAll, rKIn, tBM0, rPop, rExtend, tAddT, rAddT, rSetT0, Dw.rSetL, rSortT, StX.tStar, tDNewK, tDisp, tPairs, L2.start, cxOf_K, cxOf_w, cxOf_prog,
  List.map_cons, List.map_nil, List.length_cons, List.length_nil, List.replicate, List.cons_append, List.nil_append, Nat.reduceAdd, Nat.reduceSub, Nat.zero_add, List.append_nil,
  List.set_cons_zero, List.set_cons_succ, List.getElem?_cons_zero, List.getElem?_cons_succ, Option.some.injEq, V.int.injEq, V.bl.injEq, V.ref.injEq, V.str.injEq, V.ty.injEq, List.cons.injEq, and_true, true_and, reduceCtorEq, false_and, exists_false, or_false, false_or, exists_eq_left, exists_eq_left', exists_eq', sw_S, an_S, exists_and_left, exists_const, exists_eq, decide_eq_true_eq, Bool.false_eq_true, if_true, if_false, Bool.not_eq_true', decide_eq_false_iff_not, Bool.not_true, Bool.not_false, ite_not, scal, and_false])
section
variable {P : Program} {w : World} {K : PySem.W.Frag} {mg : Str → Option Value} {base : Heap}
theorem hd_word {f : Fm} (h : V.str (S (hdF f)) = V.str (S (cs "word"))) : ∃ w z o, f = .word w z o := by
  have n : ∀ {a : List Nat}, hdF f = a → a ≠ cs "word" → False := fun e k => absurd h (nSc (by rw [e]; exact k))
  cases f with
  | word w z o => exact ⟨w, z, o, rfl⟩
  | cmp k ps c => exact (n (a := kCmp k) rfl (by cases k <;> decide)).elim
  | bin k a b => exact (n (a := kBin k) rfl ((by decide : ∀ k : Fin 4, kBin k ≠ cs "word") k)).elim
  | qf k z a => exact (n (a := kQf k) rfl (by cases k <;> decide)).elim
  | not a => exact (n (a := cs "not") rfl (by decide)).elim
  | pow z => exact (n (a := cs "pow") rfl (by decide)).elim
  | call g zs => exact (n (a := cs "call") rfl (by decide)).elim
theorem hd_eq {f : Fm} (h : V.str (S (hdF f)) = V.str (S (cs "eq"))) : ∃ ps c, f = .cmp true ps c := by
  have n : ∀ {a : List Nat}, hdF f = a → a ≠ cs "eq" → False := fun e k => absurd h (nSc (by rw [e]; exact k))
  cases f with
  | word w z o => exact (n (a := cs "word") rfl (by decide)).elim
  | cmp k ps c =>
    cases k with
    | true => exact ⟨ps, c, rfl⟩
    | false => exact (n (a := cs "le") rfl (by decide)).elim
  | bin k a b => exact (n (a := kBin k) rfl ((by decide : ∀ k : Fin 4, kBin k ≠ cs "eq") k)).elim
  | qf k z a => exact (n (a := kQf k) rfl (by cases k <;> decide)).elim
  | not a => exact (n (a := cs "not") rfl (by decide)).elim
  | pow z => exact (n (a := cs "pow") rfl (by decide)).elim
  | call g zs => exact (n (a := cs "call") rfl (by decide)).elim
theorem hd_qf {f : Fm} {b : Bool} (h : V.str (S (hdF f)) = V.str (S (kQf b))) : ∃ z a, f = .qf b z a := by
  have n : ∀ {a : List Nat}, hdF f = a → (∀ b, a ≠ kQf b) → False := fun e k => absurd h (nSc (by rw [e]; exact k b))
  cases f with
  | word w z o => exact (n (a := cs "word") rfl (by decide)).elim
  | cmp k ps c => exact (n (a := kCmp k) rfl ((by decide : ∀ k b, kCmp k ≠ kQf b) k)).elim
  | bin k a b => exact (n (a := kBin k) rfl ((by decide : ∀ (k : Fin 4) (b : Bool), kBin k ≠ kQf b) k)).elim
  | qf k z a =>
    have e : k = b := by
      have h2 : V.str (S (kQf k)) = V.str (S (kQf b)) := h
      have h3 := S_inj (V.str.inj h2)
      revert h3
      cases k <;> cases b <;> decide
    exact ⟨z, a, by rw [e]⟩
  | not a => exact (n (a := cs "not") rfl (by decide)).elim
  | pow z => exact (n (a := cs "pow") rfl (by decide)).elim
  | call g zs => exact (n (a := cs "call") rfl (by decide)).elim
def SpSp (m : Nat) : Sp := fun vs H Q _ => ∃ (p q t : Addr) (ns : List Int) (f : Fm) (L : Nat) (la : Bool), vs = [.ref p, .ref t, .int (L : Nat), .bl la] ∧ Pool H p q ns ∧ FmAt H t f ∧ f.Good ∧ f.Sm ∧ szN f ≤ 100 ∧ 2 * f.dep + (if L = 0 ∧ la = true then 0 else 1) < m ∧
  ∀ (l : Addr) (xs : List Tv) H', But p H H' → Pool H' p q ns → H l = none → H' l = some (.lst (xs.map txV)) → Spl f L la xs → Q (.ref l) H'
def SpSn (m : Nat) : Sp := fun vs H Q _ => ∃ (p q t : Addr) (ns : List Int) (f : Fm) (la : Bool), vs = [.ref p, .ref t, .bl la] ∧ Pool H p q ns ∧ FmAt H t f ∧ f.Good ∧ f.Sm ∧ szN f ≤ 100 ∧ 2 * f.dep + 1 < m ∧
  ∀ (l : Addr) (xs : List Tv) H', But p H H' → Pool H' p q ns → H l = none → H' l = some (.lst (xs.map txV)) → (∀ L, Spl (.not f) L la xs) → Q (.ref l) H'
theorem c__law_spell_not {f : Addr} {fd : FuncData} (D : C8.Def K mg "_law_spell_not" s__law_spell_not f fd) (b : Binds K fd ["pool", "part", "last"] []) {m : Nat} (c__law_take : C8.Cal P w K mg base 2 "_law_take" sp_take []) (c__law_compare : C8.Cal P w K mg base 3 "_law_compare" sp_compare []) (c__law_spell : C8.Cal P w K mg base (2 * m + 5) "_law_spell" (SpSp m) []) (z_str : mg "str" = none) : C8.Cal P w K mg base (2 * m + 6) "_law_spell_not" (SpSn m) [] := by
  refine C8.cal0 D b .nil sc__law_spell_not (fun vs H Q E h => ?_) (fun cdv A outer s H vs Q E hr h => ?_)
  · obtain ⟨_, _, _, _, _, _, rfl, _⟩ := h
    rfl
  · obtain ⟨p, q, t, ns, f1, la, rfl, hP, ht, hg, hs, hz, hm, ok⟩ := h
    refine ⟨_, (pss_cons (ps_if (PW.pt (pw_and (pt_cmpR (op_eq) (pe_ix (ixT K) (pv 1) pe_int (fun _ _ => rfl)) pe_str (nomark _)) (pw_and1 (pt_cmpR (op_eq) (C8.pe_c c__law_take hr (by omega) (by rfl) (pa_cons (pv 0) (pa_cons pe_int pa_nil))) pe_int (nomark _))))) (pss_one (ps_ret (C8.pe_c c__law_compare hr (by omega) (by rfl) (pa_cons (pv 0) (pa_cons (pe_ix (ixT K) (pv 1) pe_int (fun _ _ => rfl)) (pa_cons pe_str pa_nil)))))) pss_nil) (pss_cons (ps_if (PW.pt (pw_and (pt_cmpR (op_eq) (pe_ix (ixT K) (pv 1) pe_int (fun _ _ => rfl)) pe_str (nomark _)) (pw_and1 (pt_cmpR (op_eq) (C8.pe_c c__law_take hr (by omega) (by rfl) (pa_cons (pv 0) (pa_cons pe_int pa_nil))) pe_int (nomark _))))) (pss_one (ps_ret (pe_lst (pa_cons (pe_ix (ixT K) (pv 1) pe_int (fun _ _ => rfl)) (pa_cons pe_str (pa_cons (pe_ix (ixT K) (pv 1) pe_int (fun _ _ => rfl)) (pa_cons pe_str (pa_cons pe_str (pa_cons (pe_callTy call_str_int (by rfl) z_str (by decide +kernel) (pa_cons (pe_ix (ixT K) (pv 1) pe_int (fun _ _ => rfl)) pa_nil)) pa_nil))))))))) pss_nil) (pss_one (ps_ret (pe_op op_cat (pe_lst (pa_cons pe_str pa_nil)) (C8.pe_c c__law_spell hr (by omega) (by rfl) (pa_cons (pv 0) (pa_cons (pv 1) (pa_cons pe_int (pa_cons (pv 2) pa_nil)))))))))), ?_⟩
    obtain ⟨xs, hxs⟩ := fm_hd ht
    walk_at "rd"
    refine ⟨_, SqT.of hxs, _, atI_nat (j := 0) rfl, rfl, ?_⟩
    by_cases he : V.str (S (hdF f1)) = V.str (S (cs "eq"))
    · rw [if_pos he]
      refine ⟨p, q, ns, 2, rfl, hP, by decide, by decide, fun y1 H1 y0 y2 hB1 hP1 => ⟨rfl, ?_⟩⟩
      have hx1 := (Tups.pool hP hB1) _ _ hxs
      by_cases e0 : V.int y1 = V.int 0
      · rw [if_pos e0]
        obtain ⟨ps, c, rfl⟩ := hd_eq he
        obtain ⟨u, htt, hu⟩ := ht
        obtain ⟨hgg, _, _, _, _, _⟩ := hg
        obtain ⟨qs, rfl, _⟩ := good_qs hgg
        obtain ⟨s1, s2, s3⟩ := hs
        rw [List.length_map] at s1
        have hq : ∀ q ∈ qs, q.2.natAbs ≤ 255 := fun q hq => Nat.le_trans (s2 (pS q) (List.mem_map.mpr ⟨q, hq, rfl⟩)) (by decide)
        have T1 := Tups.pool hP hB1
        exact ⟨_, SqT.of (T1 _ _ htt), _, atI_nat (j := 1) rfl, p, q, u, ns, qs, c, "!=", rfl, hP1, hu.tups T1, by omega, hq, by omega, fun l xs H' hB hP' hl h1 hc => ok l xs H' (hB1.trans hB) hP' (hB1.free hP1 hl) h1 (fun L => .notE hc)⟩
      · rw [if_neg e0]
        refine ⟨_, SqT.of hx1, _, atI_nat (j := 0) rfl, rfl, ?_⟩
        by_cases hw : V.str (S (hdF f1)) = V.str (S (cs "word"))
        · rw [if_pos hw]
          refine ⟨p, q, ns, 2, rfl, hP1, by decide, by decide, fun yw H2 yw0 yw1 hB2 hP2 => ⟨rfl, ?_⟩⟩
          by_cases ew : V.int yw = V.int 0
          · rw [if_pos ew]
            obtain ⟨w, z, o, rfl⟩ := hd_word hw
            obtain ⟨_, _, o0, o9⟩ := hg
            obtain ⟨n, rfl⟩ : ∃ n : Nat, o = (n : Nat) := ⟨o.toNat, by omega⟩
            have htt := (Tups.pool hP (hB1.trans hB2)) _ _ (show H t = some (.tup [.str (S (cs "word")), .str (S w), .str (S z), .int (n : Nat)]) from ht)
            refine ⟨_, SqT.of htt, _, atI_nat (j := 1) rfl, _, SqT.of htt, _, atI_nat (j := 2) rfl, _, SqT.of htt, _, atI_nat (j := 3) rfl, (n : Nat), rfl, log_ok (by omega), by decide, fun l hl => ?_⟩
            have sl := (same_upd (o := HO.lst [V.str (S w), V.str (S (cs "[")), V.str (S z), V.str (S (cs "]")), V.str (S (cs "!=")), V.str (S (cs (toString ((n : Nat) : Int))))]) hl)
            exact ok l _ _ ((hB1.trans hB2).trans (But.of sl)) (hP2.same sl) ((hB1.trans hB2).free hP2 hl) (by rw [upd_same]; rfl) (fun L => .notW w z n)
          · rw [if_neg ew]
            refine ⟨by decide, fun G hG => ?_⟩
            have hGp := hP2.ne hG
            have hGq := hP2.neq hG
            have sG := same_upd (o := HO.lst [V.str (S (cs "~"))]) hG
            refine ⟨p, q, t, ns, f1, 4, la, rfl, hP2.same sG, (ht.tups (Tups.pool hP (hB1.trans hB2))).tups (Tups.same sG), hg, hs, hz, by rw [if_neg (by omega)]; omega, fun l1 xs1 H3 hB3 hP3 hl10 hl1 hsp => ⟨l1, rfl, _, hB3 G _ hGp upd_same, _, hl1, small ?_, fun l hl => ?_⟩⟩
            · have := spl_len hsp hs
              simp only [List.length_cons, List.length_nil, List.length_map]
              omega
            have sl := same_upd (o := HO.lst ([V.str (S (cs "~"))] ++ List.map txV xs1)) hl
            have hBB := ((hB1.trans hB2).trans (But.of sG)).trans hB3
            exact ok l (sg "~" :: xs1) _ (hBB.trans (But.of sl)) (hP3.same sl) (hBB.free hP3 hl) (by rw [upd_same]; rfl) (fun L => .not hsp)
        · rw [if_neg hw]
          refine ⟨by decide, fun G hG => ?_⟩
          have hGp := hP1.ne hG
          have hGq := hP1.neq hG
          have sG := same_upd (o := HO.lst [V.str (S (cs "~"))]) hG
          refine ⟨p, q, t, ns, f1, 4, la, rfl, hP1.same sG, (ht.tups (Tups.pool hP hB1)).tups (Tups.same sG), hg, hs, hz, by rw [if_neg (by omega)]; omega, fun l1 xs1 H3 hB3 hP3 hl10 hl1 hsp => ⟨l1, rfl, _, hB3 G _ hGp upd_same, _, hl1, small ?_, fun l hl => ?_⟩⟩
          · have := spl_len hsp hs
            simp only [List.length_cons, List.length_nil, List.length_map]
            omega
          have sl := same_upd (o := HO.lst ([V.str (S (cs "~"))] ++ List.map txV xs1)) hl
          have hBB := (hB1.trans (But.of sG)).trans hB3
          exact ok l (sg "~" :: xs1) _ (hBB.trans (But.of sl)) (hP3.same sl) (hBB.free hP3 hl) (by rw [upd_same]; rfl) (fun L => .not hsp)
    · rw [if_neg he]
      refine ⟨_, SqT.of hxs, _, atI_nat (j := 0) rfl, rfl, ?_⟩
      by_cases hw : V.str (S (hdF f1)) = V.str (S (cs "word"))
      · rw [if_pos hw]
        refine ⟨p, q, ns, 2, rfl, hP, by decide, by decide, fun yw H2 yw0 yw1 hB2 hP2 => ⟨rfl, ?_⟩⟩
        by_cases ew : V.int yw = V.int 0
        · rw [if_pos ew]
          obtain ⟨w, z, o, rfl⟩ := hd_word hw
          obtain ⟨_, _, o0, o9⟩ := hg
          obtain ⟨n, rfl⟩ : ∃ n : Nat, o = (n : Nat) := ⟨o.toNat, by omega⟩
          have htt := (Tups.pool hP ((But.refl p H).trans hB2)) _ _ (show H t = some (.tup [.str (S (cs "word")), .str (S w), .str (S z), .int (n : Nat)]) from ht)
          refine ⟨_, SqT.of htt, _, atI_nat (j := 1) rfl, _, SqT.of htt, _, atI_nat (j := 2) rfl, _, SqT.of htt, _, atI_nat (j := 3) rfl, (n : Nat), rfl, log_ok (by omega), by decide, fun l hl => ?_⟩
          have sl := (same_upd (o := HO.lst [V.str (S w), V.str (S (cs "[")), V.str (S z), V.str (S (cs "]")), V.str (S (cs "!=")), V.str (S (cs (toString ((n : Nat) : Int))))]) hl)
          exact ok l _ _ (((But.refl p H).trans hB2).trans (But.of sl)) (hP2.same sl) (((But.refl p H).trans hB2).free hP2 hl) (by rw [upd_same]; rfl) (fun L => .notW w z n)
        · rw [if_neg ew]
          refine ⟨by decide, fun G hG => ?_⟩
          have hGp := hP2.ne hG
          have hGq := hP2.neq hG
          have sG := same_upd (o := HO.lst [V.str (S (cs "~"))]) hG
          refine ⟨p, q, t, ns, f1, 4, la, rfl, hP2.same sG, (ht.tups (Tups.pool hP ((But.refl p H).trans hB2))).tups (Tups.same sG), hg, hs, hz, by rw [if_neg (by omega)]; omega, fun l1 xs1 H3 hB3 hP3 hl10 hl1 hsp => ⟨l1, rfl, _, hB3 G _ hGp upd_same, _, hl1, small ?_, fun l hl => ?_⟩⟩
          · have := spl_len hsp hs
            simp only [List.length_cons, List.length_nil, List.length_map]
            omega
          have sl := same_upd (o := HO.lst ([V.str (S (cs "~"))] ++ List.map txV xs1)) hl
          have hBB := (((But.refl p H).trans hB2).trans (But.of sG)).trans hB3
          exact ok l (sg "~" :: xs1) _ (hBB.trans (But.of sl)) (hP3.same sl) (hBB.free hP3 hl) (by rw [upd_same]; rfl) (fun L => .not hsp)
      · rw [if_neg hw]
        refine ⟨by decide, fun G hG => ?_⟩
        have hGp := hP.ne hG
        have hGq := hP.neq hG
        have sG := same_upd (o := HO.lst [V.str (S (cs "~"))]) hG
        refine ⟨p, q, t, ns, f1, 4, la, rfl, hP.same sG, (ht.tups (Tups.pool hP (But.refl p H))).tups (Tups.same sG), hg, hs, hz, by rw [if_neg (by omega)]; omega, fun l1 xs1 H3 hB3 hP3 hl10 hl1 hsp => ⟨l1, rfl, _, hB3 G _ hGp upd_same, _, hl1, small ?_, fun l hl => ?_⟩⟩
        · have := spl_len hsp hs
          simp only [List.length_cons, List.length_nil, List.length_map]
          omega
        have sl := same_upd (o := HO.lst ([V.str (S (cs "~"))] ++ List.map txV xs1)) hl
        have hBB := ((But.refl p H).trans (But.of sG)).trans hB3
        exact ok l (sg "~" :: xs1) _ (hBB.trans (But.of sl)) (hP3.same sl) (hBB.free hP3 hl) (by rw [upd_same]; rfl) (fun L => .not hsp)

end
end
section
local macro_rules | `(tactic| walk_at "rd") => `(tactic| simp only [tSeq, tNext, tAsg, gName, tRet, tRetN, tIfS, tDrop, tVar, tC, tOp, tUn, tTest, tCB, tCons, tNil, tB, tAnd, tOr, tNot, tAndV, tOrV, tNotV, tIf, tCall, tTup, tLst, tSl, tPart, tNoPart, tM0, tM1, tBM, tChain, tBreak, tCont, tNever, tAug, ipI, tPar, tyV_str,
  tFor_eq, tLc_eq, tMkO, tYes, wipe, ofStr_S, S_cat, one_S, len_S, S_iff, S_cps, Int.zero_add, gNil, gCons, gTup, gSub, iRng1, iRng2, iList, iTup, iStr, rI0, rI, rU, rEq, rNe, rIxL, rIxT, rIxS, Dw.rLen, rListOf, rTupOf, rNotB, rIsB, rMulS, rIn, rCat, rAppend, rCatA, rEqD, rNeD, C8.rSlX, tDGet, Int.toNat_natCast, WE, iEnum, iRev, rSum, tFd, tFs, tFa_eq, L2.rAdd, tMake, tMakeS, tMeth, Dw.tMethS, tCallS, rSlL, rSlA, tDGet2, tDIn, tDNotIn, rSetD, rAll, rKIn, tBM0, rPop, rExtend, tAddT, rAddT, rSetT0, Dw.rSetL, rSortT, StX.tStar, tDNewK, tDisp, tPairs, L2.start, cxOf_K, cxOf_w, cxOf_prog,
  List.map_cons, List.map_nil, List.length_cons, List.length_nil, List.replicate, List.cons_append, List.nil_append, Nat.reduceAdd, Nat.reduceSub, Nat.zero_add, List.append_nil,
  List.set_cons_zero, List.set_cons_succ, List.getElem?_cons_zero, List.getElem?_cons_succ, Option.some.injEq, V.int.injEq, V.bl.injEq, V.ref.injEq, V.str.injEq, V.ty.injEq, List.cons.injEq, and_true, true_and, reduceCtorEq, false_and, exists_false, or_false, false_or, exists_eq_left, exists_eq_left', exists_eq', sw_S, an_S, exists_and_left, exists_const, exists_eq, decide_eq_true_eq, Bool.false_eq_true, if_true, if_false, Bool.not_eq_true', decide_eq_false_iff_not, Bool.not_true, Bool.not_false, ite_not, scal, and_false])
section
variable {P : Program} {w : World} {K : PySem.W.Frag} {mg : Str → Option Value} {base : Heap}
theorem c__law_spell {f : Addr} {fd : FuncData} (D : C8.Def K mg "_law_spell" s__law_spell f fd) (b : Binds K fd ["pool", "formula", "level", "last"] []) {m : Nat} (c__law_take : C8.Cal P w K mg base 2 "_law_take" sp_take []) (c__law_spell_atom : C8.Cal P w K mg base 4 "_law_spell_atom" sp_atom []) (c__law_spell : C8.Cal P w K mg base (2 * m + 5) "_law_spell" (SpSp m) []) (c__law_spell_not : C8.Cal P w K mg base (2 * m + 6) "_law_spell_not" (SpSn m) []) (z_int : mg "int" = none) : C8.Cal P w K mg base (2 * (m + 1) + 5) "_law_spell" (SpSp (m + 1)) [] := by
  refine C8.cal0 D b .nil sc__law_spell (fun vs H Q E h => ?_) (fun cdv A outer s H vs Q E hr h => ?_)
  · obtain ⟨_, _, _, _, _, _, _, rfl, _⟩ := h
    rfl
  · obtain ⟨p, q, t, ns, f1, L, la, rfl, hP, ht, hg, hs, hz, hm, ok⟩ := h
    refine ⟨_, (pss_cons (ps_set (i := 4) sc__law_spell.nd rfl (by first | exact Or.inl rfl | exact Or.inr rfl) (pe_ix (ixT K) (pv 1) pe_int (fun _ _ => rfl))) (pss_cons (ps_set (i := 5) sc__law_spell.nd rfl (by first | exact Or.inl rfl | exact Or.inr rfl) (pe_disp (pps_cons pe_str pe_int (pps_cons pe_str pe_int (pps_cons pe_str pe_int (pps_cons pe_str pe_int pps_nil)))) (by rfl) (by rfl) (by simp) (by decide))) (pss_cons (ps_if (pt_cmp (pc_din (hu1 hr) (pv 4) (pv 5))) (pss_cons (ps_set (i := 6) sc__law_spell.nd rfl (by first | exact Or.inl rfl | exact Or.inr rfl) (pe_dget (hu1 hr) (pv 5) (pv 4) (fun _ _ => rfl))) (pss_cons (ps_if (pt_cmpR (op_lt) (pv 6) (pv 2) (nomark _)) (pss_one (ps_ret (pe_op op_cat (pe_op op_cat (pe_lst (pa_cons pe_str pa_nil)) (C8.pe_c c__law_spell hr (by omega) (by rfl) (pa_cons (pv 0) (pa_cons (pv 1) (pa_cons pe_int (pa_cons pe_bl pa_nil)))))) (pe_lst (pa_cons pe_str pa_nil))))) pss_nil) (pss_cons (ps_set (i := 7) sc__law_spell.nd rfl (by first | exact Or.inl rfl | exact Or.inr rfl) (pe_op op_add (pv 6) (pe_callTy call_int1 (by rfl) z_int (by decide +kernel) (pa_cons (pe_cmpR (op_lt) (pv 6) pe_int (nomark _)) pa_nil)))) (pss_cons (ps_set (i := 8) sc__law_spell.nd rfl (by first | exact Or.inl rfl | exact Or.inr rfl) (pe_ix (ixL K) (pe_lst (pa_cons pe_str (pa_cons pe_str (pa_cons pe_str (pa_cons pe_str pa_nil))))) (pv 6) (fun _ _ => rfl))) (pss_one (ps_ret (pe_op op_cat (pe_op op_cat (C8.pe_c c__law_spell hr (by omega) (by rfl) (pa_cons (pv 0) (pa_cons (pe_ix (ixT K) (pv 1) pe_int (fun _ _ => rfl)) (pa_cons (pv 7) (pa_cons pe_bl pa_nil))))) (pe_lst (pa_cons (pv 8) pa_nil))) (C8.pe_c c__law_spell hr (by omega) (by rfl) (pa_cons (pv 0) (pa_cons (pe_ix (ixT K) (pv 1) pe_int (fun _ _ => rfl)) (pa_cons (pe_op op_add (pv 6) pe_int) (pa_cons (pv 3) pa_nil)))))))))))) pss_nil) (pss_cons (ps_if (PW.pt (pw_or (pt_cmpR (op_eq) (pv 4) pe_str (nomark _)) (pw_or1 (pt_cmpR (op_eq) (pv 4) pe_str (nomark _))))) (pss_cons (ps_if (pt_not (pt_val (pv 3))) (pss_one (ps_ret (pe_op op_cat (pe_op op_cat (pe_lst (pa_cons pe_str pa_nil)) (C8.pe_c c__law_spell hr (by omega) (by rfl) (pa_cons (pv 0) (pa_cons (pv 1) (pa_cons pe_int (pa_cons pe_bl pa_nil)))))) (pe_lst (pa_cons pe_str pa_nil))))) pss_nil) (pss_cons (ps_set (i := 9) sc__law_spell.nd rfl (by first | exact Or.inl rfl | exact Or.inr rfl) (pe_lst (pa_cons (pv 4) (pa_cons (pe_ix (ixT K) (pv 1) pe_int (fun _ _ => rfl)) pa_nil)))) (pss_cons (ps_set (i := 10) sc__law_spell.nd rfl (by first | exact Or.inl rfl | exact Or.inr rfl) (pe_ix (ixT K) (pv 1) pe_int (fun _ _ => rfl))) (pss_cons (ps_while PassesOwn.never (PW.pt (pw_and (pt_cmpR (op_eq) (pe_ix (ixT K) (pv 10) pe_int (fun _ _ => rfl)) (pv 4) (nomark _)) (pw_and1 (pt_cmpR (op_eq) (C8.pe_c c__law_take hr (by omega) (by rfl) (pa_cons (pv 0) (pa_cons pe_int pa_nil))) pe_int (nomark _))))) (pss_cons (ps_expr (pe_bm PySem.F.plainAttrs_list PySem.F.slot_list_extend PySem.F.type_list_extend mt_extend (pv 9) (pa_cons (pe_lst (pa_cons pe_str (pa_cons (pe_ix (ixT K) (pv 10) pe_int (fun _ _ => rfl)) pa_nil))) pa_nil))) (pss_one (ps_set (i := 10) sc__law_spell.nd rfl (by first | exact Or.inl rfl | exact Or.inr rfl) (pe_ix (ixT K) (pv 10) pe_int (fun _ _ => rfl)))))) (pss_one (ps_ret (pe_op op_cat (pe_op op_cat (pv 9) (pe_lst (pa_cons pe_str pa_nil))) (C8.pe_c c__law_spell hr (by omega) (by rfl) (pa_cons (pv 0) (pa_cons (pv 10) (pa_cons pe_int (pa_cons pe_bl pa_nil)))))))))))) pss_nil) (pss_cons (ps_if (pt_cmpR (op_eq) (pv 4) pe_str (nomark _)) (pss_one (ps_ret (C8.pe_c c__law_spell_not hr (by omega) (by rfl) (pa_cons (pv 0) (pa_cons (pe_ix (ixT K) (pv 1) pe_int (fun _ _ => rfl)) (pa_cons (pv 3) pa_nil)))))) pss_nil) (pss_cons (ps_if (pt_cmpR (op_eq) (C8.pe_c c__law_take hr (by omega) (by rfl) (pa_cons (pv 0) (pa_cons pe_int pa_nil))) pe_int (nomark _)) (pss_one (ps_ret (pe_op op_cat (pe_op op_cat (pe_lst (pa_cons pe_str pa_nil)) (C8.pe_c c__law_spell_atom hr (by omega) (by rfl) (pa_cons (pv 0) (pa_cons (pv 1) pa_nil)))) (pe_lst (pa_cons pe_str pa_nil))))) pss_nil) (pss_one (ps_ret (C8.pe_c c__law_spell_atom hr (by omega) (by rfl) (pa_cons (pv 0) (pa_cons (pv 1) pa_nil))))))))))), ?_⟩
    obtain ⟨xs, hxs⟩ := fm_hd ht
    walk_at "rd"
    refine ⟨_, SqT.of hxs, _, atI_nat (j := 0) rfl, fun D hD => ⟨upd_same, lvK, rfl, by decide, ?_⟩⟩
    have sD : Same H (upd (upd H D (.dK [])) D (.dK (mergeK [] lvK))) := Dw.Same.new (same_upd hD) hD
    have hDD : upd (upd H D (.dK [])) D (.dK (mergeK [] lvK)) D = some (.dK (mergeK [] lvK)) := upd_same
    obtain ⟨HD, hHD⟩ : ∃ HD, HD = upd (upd H D (.dK [])) D (.dK (mergeK [] lvK)) := ⟨_, rfl⟩
    rw [← hHD] at sD hDD ⊢
    have hPD := hP.same sD
    have hBD : But p H HD := But.of sD
    have hget : ∀ {o : Option V} (l : List Nat), valV (mergeK [] lvK) (Sum.inr (S l)) = o → DGet HD D (.str (S l)) o := fun l e => by
      have := DGet.k (k := Sum.inr (S l)) hDD
      rw [e] at this
      exact this
    cases f1 with
    | bin k a b =>
      refine ⟨_, hget _ (lv_bin k), ?_⟩
      rw [if_pos (show (Option.some (V.int ((ownB k : Nat) : Int))).isSome = true from rfl)]
      obtain ⟨ua, ub, htt, hfa, hfb⟩ := ht
      refine ⟨.int ((ownB k : Nat) : Int), hget _ (lv_bin k), ?_⟩
      refine ⟨_, rfl, ?_⟩
      have hos := own_le k
      have hdep : (Fm.bin k a b).dep = max a.dep b.dep + 1 := rfl
      have hszz := szN_lt (a := a) (b := b) (k := k)
      have httd := sD _ _ htt
      by_cases hlt : ownB k < L
      · rw [if_pos (by omega)]
        refine ⟨by decide, fun G hG => ?_⟩
        have hGp := hPD.ne hG
        have sG := same_upd (o := HO.lst [V.str (S (cs "("))]) hG
        refine ⟨p, q, t, ns, .bin k a b, 0, true, rfl, hPD.same sG, (show FmAt H t (.bin k a b) from ⟨ua, ub, htt, hfa, hfb⟩).tups (Tups.same (sD.trans sG)), hg, hs, hz, by rw [if_pos ⟨rfl, rfl⟩]; rw [if_neg (by omega)] at hm; omega, fun l1 xs1 H3 hB3 hP3 hl10 hl1 hsp => ⟨l1, rfl, _, hB3 G _ hGp upd_same, _, hl1, small ?_, fun l2 hl2 => ⟨by decide, fun l3 hl3 => ⟨_, (same_upd hl3) _ _ upd_same, _, upd_same, small ?_, fun l hl => ?_⟩⟩⟩⟩
        · have hlen : xs1.length ≤ 2400 := (by have := spl_len hsp hs; omega)
          simp only [List.length_cons, List.length_nil, List.length_map]
          omega
        · have hlen : xs1.length ≤ 2400 := (by have := spl_len hsp hs; omega)
          simp only [List.length_cons, List.length_nil, List.length_map, List.length_append]
          omega
        have s2 := same_upd (o := HO.lst ([V.str (S (cs "("))] ++ List.map txV xs1)) hl2
        have s3 := same_upd (o := HO.lst [V.str (S (cs ")"))]) hl3
        have s4 := same_upd (o := HO.lst ([V.str (S (cs "("))] ++ List.map txV xs1 ++ [V.str (S (cs ")"))])) hl
        have hBB := ((hBD.trans (But.of sG)).trans hB3).trans (But.of (s2.trans s3))
        exact ok l (sg "(" :: (xs1 ++ [sg ")"])) _ (hBB.trans (But.of s4)) (hP3.same ((s2.trans s3).trans s4)) (hBB.free (hP3.same (s2.trans s3)) hl) (by rw [upd_same, List.map_cons, List.map_append]; rfl) (.binP hlt hsp)
      · rw [if_neg (by omega)]
        refine ⟨_, rfl, _, rfl, by decide, fun S4 hS4 => ?_⟩
        have s4 := same_upd (o := HO.lst [V.str (S (cs "<=>")), V.str (S (cs "=>")), V.str (S (cs "|")), V.str (S (cs "&"))]) hS4
        have TD := Tups.same (sD.trans s4)
        refine ⟨_, ((ownB k : Nat) : Int), rfl, SqL.of upd_same, _, sign_at k, _, SqT.of (s4 _ _ httd), _, atI_nat (j := 1) rfl, ?_⟩
        rw [left_own]
        have hm2 : 2 * (Fm.bin k a b).dep < m + 1 := Nat.lt_of_le_of_lt (Nat.le_add_right _ _) hm
        have hP4 := hPD.same s4
        refine ⟨p, q, ua, ns, a, leftB k, false, rfl, hP4, hfa.tups TD, hg.1, hs.1, by omega, by rw [if_neg (fun z => by cases z.2)]; omega, fun l1 xs1 H3 hB3 hP3 hl10 hl1 hsp1 => ⟨by decide, fun G2 hG2 => ⟨l1, rfl, _, (same_upd hG2) _ _ hl1, _, upd_same, small ?_, fun l2 hl2 => ?_⟩⟩⟩
        · have := spl_len hsp1 hs.1
          simp only [List.length_cons, List.length_nil, List.length_map]
          omega
        have g2 := same_upd (o := HO.lst [txV (binSg k)]) hG2
        have g3 := same_upd (o := HO.lst (List.map txV xs1 ++ [txV (binSg k)])) hl2
        have T3 := Tups.pool hP4 hB3
        have T5 := (TD.trans T3).trans (Tups.same (g2.trans g3))
        have hP5 := hP3.same (g2.trans g3)
        have hl2p : l2 ≠ p := (hP3.same g2).ne hl2
        have htt5 := ((Tups.same (s4)).trans T3).trans (Tups.same (g2.trans g3)) _ _ httd
        refine ⟨_, SqT.of htt5, _, atI_nat (j := 2) rfl, _, rfl, p, q, ub, ns, b, ownB k + 1, la, rfl, hP5, hfb.tups T5, hg.2, hs.2, by omega, by split <;> omega, fun l4 ys1 H6 hB6 hP6 hl40 hl4 hsp2 => ⟨l4, rfl, _, hB6 l2 _ hl2p upd_same, _, hl4, small ?_, fun l hl => ?_⟩⟩
        · have h1 := spl_len hsp1 hs.1
          have h2 := spl_len hsp2 hs.2
          simp only [List.length_append, List.length_cons, List.length_nil, List.length_map]
          omega
        have g6 := same_upd (o := HO.lst (List.map txV xs1 ++ [txV (binSg k)] ++ List.map txV ys1)) hl
        have hBB := (((hBD.trans (But.of s4)).trans hB3).trans (But.of (g2.trans g3))).trans hB6
        exact ok l (xs1 ++ binSg k :: ys1) _ (hBB.trans (But.of g6)) (hP6.same g6) (hBB.free hP6 hl) (by rw [upd_same, List.map_append, List.map_cons, List.append_assoc]; rfl) (.bin (by omega) hsp1 hsp2)
    | qf k z a =>
      obtain ⟨ua, htt, hfa⟩ := ht
      refine ⟨none, hget _ (by cases k <;> exact lv_no _ (by decide)), ?_⟩
      rw [if_neg (by decide)]
      have hm2 : 2 * (Fm.qf k z a).dep < m + 1 := Nat.lt_of_le_of_lt (Nat.le_add_right _ _) hm
      have hdep : (Fm.qf k z a).dep = a.dep + 1 := rfl
      cases k with
      | true =>
        refine ⟨rfl, ?_⟩
        rw [if_pos (show V.str (S (hdF (Fm.qf true z a))) = V.str (S (cs "some")) from rfl)]
        by_cases hla : la = false
        · rw [if_pos hla]
          subst hla
          refine ⟨by decide, fun G hG => ?_⟩
          have hGp := hPD.ne hG
          have sG := same_upd (o := HO.lst [V.str (S (cs "("))]) hG
          refine ⟨p, q, t, ns, .qf true z a, 0, true, rfl, hPD.same sG, (show FmAt H t (.qf true z a) from ⟨ua, htt, hfa⟩).tups (Tups.same (sD.trans sG)), hg, hs, hz, by rw [if_pos ⟨rfl, rfl⟩]; rw [if_neg (fun z => by cases z.2)] at hm; omega, fun l1 xs1 H3 hB3 hP3 hl10 hl1 hsp => ⟨l1, rfl, _, hB3 G _ hGp upd_same, _, hl1, small ?_, fun l2 hl2 => ⟨by decide, fun l3 hl3 => ⟨_, (same_upd hl3) _ _ upd_same, _, upd_same, small ?_, fun l hl => ?_⟩⟩⟩⟩
          · have hlen : xs1.length ≤ 2400 := (by have := spl_len hsp hs; omega)
            simp only [List.length_cons, List.length_nil, List.length_map]
            omega
          · have hlen : xs1.length ≤ 2400 := (by have := spl_len hsp hs; omega)
            simp only [List.length_cons, List.length_nil, List.length_map, List.length_append]
            omega
          have s2 := same_upd (o := HO.lst ([V.str (S (cs "("))] ++ List.map txV xs1)) hl2
          have s3 := same_upd (o := HO.lst [V.str (S (cs ")"))]) hl3
          have s4 := same_upd (o := HO.lst ([V.str (S (cs "("))] ++ List.map txV xs1 ++ [V.str (S (cs ")"))])) hl
          have hBB := ((hBD.trans (But.of sG)).trans hB3).trans (But.of (s2.trans s3))
          exact ok l (sg "(" :: (xs1 ++ [sg ")"])) _ (hBB.trans (But.of s4)) (hP3.same ((s2.trans s3).trans s4)) (hBB.free (hP3.same (s2.trans s3)) hl) (by rw [upd_same, List.map_cons, List.map_append]; rfl) (.qfP hsp)
        · rw [if_neg hla]
          have hla : la = true := by cases la <;> simp_all
          subst hla
          have httd := sD _ _ htt
          refine ⟨_, SqT.of httd, _, atI_nat (j := 1) rfl, by decide, fun PA hPA => ?_⟩
          have hPAp := hPD.ne hPA
          have hPAq := hPD.neq hPA
          have sPA := same_upd (o := HO.lst [V.str (S (kQf true)), V.str (S z)]) hPA
          have hPA0 : H PA = none := sD.free hPA
          refine ⟨_, SqT.of (sPA _ _ httd), _, atI_nat (j := 2) rfl, ?_⟩
          refine while_W (fun n σ H3 => ∃ (zs : List (List Nat)) (c : Fm) (tc : Addr), σ = [some (V.ref p), some (V.ref t), some (V.int (L : Nat)), some (V.bl true), some (V.str (S (kQf true))), some (V.ref D), none, none, none, some (V.ref PA), some (V.ref tc)] ∧ a = zs.foldr (fun z f => Fm.qf true z f) c ∧ FmAt H3 tc c ∧ H3 PA = some (.lst ((.res (kQf true) :: namesJ (z :: zs)).map txV)) ∧ But p H H3 ∧ Pool H3 p q ns ∧ szN c ≤ n) ⟨szN a, [], a, ua, rfl, rfl, hfa.tups (Tups.same (sD.trans sPA)), by rw [upd_same]; rfl, hBD.trans (But.of sPA), hPD.same sPA, Nat.le_refl _⟩ ?_
          rintro n σ H3 ⟨zs, c, tc, rfl, hac, hfc, h3, hB3, hP3, hn⟩
          obtain ⟨ys, hys⟩ := fm_hd hfc
          walk_at "rd"
          refine ⟨_, SqT.of hys, _, atI_nat (j := 0) rfl, rfl, ?_⟩
          have hsz2 := qf_sz true c zs
          have hdp2 := qf_dep true c zs
          rw [← hac] at hsz2 hdp2
          have hgc : c.Good := qf_good true c zs (by rw [← hac]; exact hg.2)
          have hsc : c.Sm := qf_sm true c zs (by rw [← hac]; exact hs)
          have hsza : szN (.qf true z a) = szN a + 1 := rfl
          have hjl := namesJ_len (z :: zs)
          rw [List.length_cons] at hjl
          by_cases hh : V.str (S (hdF c)) = V.str (S (kQf true))
          · rw [if_pos hh]
            refine ⟨p, q, ns, 2, rfl, hP3, by decide, by decide, fun y1 H4 y0 y2 hB4 hP4 => ⟨rfl, ?_⟩⟩
            have h4 := hB4 PA _ hPAp h3
            have hfc4 := hfc.tups (Tups.pool hP3 hB4)
            by_cases e0 : V.int y1 = V.int 0
            · rw [if_pos e0]
              obtain ⟨z2, c2, rfl⟩ := hd_qf hh
              obtain ⟨u2, hc4, hf2⟩ := hfc4
              refine nxw_of fun N hN => ?_
              walk_at "rd"
              refine ⟨.inl ⟨rfl, _, SqL.of h4⟩, _, SqT.of hc4, _, atI_nat (j := 1) rfl, by decide, fun T hT => ?_⟩
              have gT := same_upd (o := HO.lst [V.str (S (cs ",")), V.str (S z2)]) hT
              have h5 := gT _ _ h4
              refine ⟨_, h5, _, upd_same, small (by simp only [List.length_cons, List.length_nil, List.length_map]; omega), ?_⟩
              have hctc : tc ≠ PA := fun e => by rw [e, h4] at hc4; cases hc4
              have hc5 := gT _ _ hc4
              have TT : Tups H4 (upd (upd H4 T (HO.lst [V.str (S (cs ",")), V.str (S z2)])) PA (HO.lst (txV (Tv.res (kQf true)) :: List.map txV (namesJ (z :: zs)) ++ [V.str (S (cs ",")), V.str (S z2)]))) := fun b ws e => by
                have e1 := gT _ _ e
                rw [upd_ne (fun w => by rw [w, h5] at e1; cases e1)]
                exact e1
              refine ⟨_, SqT.of (TT _ _ hc4), _, atI_nat (j := 2) rfl, hN (szN c2) _ _ (Nat.lt_of_lt_of_le (Nat.lt_succ_self _) hn) ⟨zs ++ [z2], c2, u2, rfl, ?_, hf2.tups TT, ?_, ((hB3.trans hB4).upd2 hT).new hPA0, (hP4.same gT).set hPAp hPAq, Nat.le_refl _⟩⟩
              · rw [hac, List.foldr_append]
                rfl
              · rw [upd_same, show namesJ (z :: (zs ++ [z2])) = namesJ (z :: zs) ++ [sg ",", .name z2] from namesJ_snoc (zs := z :: zs) (by simp), List.map_append]
                rfl
            · rw [if_neg e0]
              refine ⟨by decide, fun l1 hl1 => ⟨_, (same_upd hl1) _ _ h4, _, upd_same, small ?_, fun l2 hl2 => ?_⟩⟩
              · simp only [List.length_cons, List.length_nil, List.length_map]
                omega
              have g2 := same_upd (o := HO.lst [V.str (S (cs ":"))]) hl1
              have g3 := same_upd (o := HO.lst (txV (Tv.res (kQf true)) :: List.map txV (namesJ (z :: zs)) ++ [V.str (S (cs ":"))])) hl2
              have hl2p : l2 ≠ p := (hP4.same g2).ne hl2
              refine ⟨p, q, tc, ns, c, 0, true, rfl, hP4.same (g2.trans g3), hfc4.tups (Tups.same (g2.trans g3)), hgc, hsc, by omega, by rw [if_pos ⟨rfl, rfl⟩]; omega, fun l4 xs1 H6 hB6 hP6 hl40 hl4 hsp => ⟨l4, rfl, _, hB6 l2 _ hl2p upd_same, _, hl4, small ?_, fun l hl => ?_⟩⟩
              · have h1 := spl_len hsp hsc
                simp only [List.length_append, List.length_cons, List.length_nil, List.length_map]
                omega
              have g6 := same_upd (o := HO.lst (txV (Tv.res (kQf true)) :: List.map txV (namesJ (z :: zs)) ++ [V.str (S (cs ":"))] ++ List.map txV xs1)) hl
              have hBB := ((hB3.trans hB4).trans (But.of (g2.trans g3))).trans hB6
              have hspl : Spl (.qf true z a) L true (.res (kQf true) :: (namesJ (z :: zs) ++ sg ":" :: xs1)) := by
                rw [hac]
                exact .qf (zs := zs) hsp
              exact ok l _ _ (hBB.trans (But.of g6)) (hP6.same g6) (hBB.free hP6 hl) (by rw [upd_same]; simp only [List.map_cons, List.map_append, List.append_assoc, List.cons_append, List.nil_append]; rfl) hspl
          · rw [if_neg hh]
            refine ⟨by decide, fun l1 hl1 => ⟨_, (same_upd hl1) _ _ h3, _, upd_same, small ?_, fun l2 hl2 => ?_⟩⟩
            · simp only [List.length_cons, List.length_nil, List.length_map]
              omega
            have g2 := same_upd (o := HO.lst [V.str (S (cs ":"))]) hl1
            have g3 := same_upd (o := HO.lst (txV (Tv.res (kQf true)) :: List.map txV (namesJ (z :: zs)) ++ [V.str (S (cs ":"))])) hl2
            have hl2p : l2 ≠ p := (hP3.same g2).ne hl2
            refine ⟨p, q, tc, ns, c, 0, true, rfl, hP3.same (g2.trans g3), hfc.tups (Tups.same (g2.trans g3)), hgc, hsc, by omega, by rw [if_pos ⟨rfl, rfl⟩]; omega, fun l4 xs1 H6 hB6 hP6 hl40 hl4 hsp => ⟨l4, rfl, _, hB6 l2 _ hl2p upd_same, _, hl4, small ?_, fun l hl => ?_⟩⟩
            · have h1 := spl_len hsp hsc
              simp only [List.length_append, List.length_cons, List.length_nil, List.length_map]
              omega
            have g6 := same_upd (o := HO.lst (txV (Tv.res (kQf true)) :: List.map txV (namesJ (z :: zs)) ++ [V.str (S (cs ":"))] ++ List.map txV xs1)) hl
            have hBB := (hB3.trans (But.of (g2.trans g3))).trans hB6
            have hspl : Spl (.qf true z a) L true (.res (kQf true) :: (namesJ (z :: zs) ++ sg ":" :: xs1)) := by
              rw [hac]
              exact .qf (zs := zs) hsp
            exact ok l _ _ (hBB.trans (But.of g6)) (hP6.same g6) (hBB.free hP6 hl) (by rw [upd_same]; simp only [List.map_cons, List.map_append, List.append_assoc, List.cons_append, List.nil_append]; rfl) hspl
      | false =>
        refine ⟨rfl, ?_⟩
        rw [if_neg (show ¬ V.str (S (hdF (Fm.qf false z a))) = V.str (S (cs "some")) from nSc (a := cs "all") (by decide))]
        refine ⟨rfl, ?_⟩
        rw [if_pos (show V.str (S (hdF (Fm.qf false z a))) = V.str (S (cs "all")) from rfl)]
        by_cases hla : la = false
        · rw [if_pos hla]
          subst hla
          refine ⟨by decide, fun G hG => ?_⟩
          have hGp := hPD.ne hG
          have sG := same_upd (o := HO.lst [V.str (S (cs "("))]) hG
          refine ⟨p, q, t, ns, .qf false z a, 0, true, rfl, hPD.same sG, (show FmAt H t (.qf false z a) from ⟨ua, htt, hfa⟩).tups (Tups.same (sD.trans sG)), hg, hs, hz, by rw [if_pos ⟨rfl, rfl⟩]; rw [if_neg (fun z => by cases z.2)] at hm; omega, fun l1 xs1 H3 hB3 hP3 hl10 hl1 hsp => ⟨l1, rfl, _, hB3 G _ hGp upd_same, _, hl1, small ?_, fun l2 hl2 => ⟨by decide, fun l3 hl3 => ⟨_, (same_upd hl3) _ _ upd_same, _, upd_same, small ?_, fun l hl => ?_⟩⟩⟩⟩
          · have hlen : xs1.length ≤ 2400 := (by have := spl_len hsp hs; omega)
            simp only [List.length_cons, List.length_nil, List.length_map]
            omega
          · have hlen : xs1.length ≤ 2400 := (by have := spl_len hsp hs; omega)
            simp only [List.length_cons, List.length_nil, List.length_map, List.length_append]
            omega
          have s2 := same_upd (o := HO.lst ([V.str (S (cs "("))] ++ List.map txV xs1)) hl2
          have s3 := same_upd (o := HO.lst [V.str (S (cs ")"))]) hl3
          have s4 := same_upd (o := HO.lst ([V.str (S (cs "("))] ++ List.map txV xs1 ++ [V.str (S (cs ")"))])) hl
          have hBB := ((hBD.trans (But.of sG)).trans hB3).trans (But.of (s2.trans s3))
          exact ok l (sg "(" :: (xs1 ++ [sg ")"])) _ (hBB.trans (But.of s4)) (hP3.same ((s2.trans s3).trans s4)) (hBB.free (hP3.same (s2.trans s3)) hl) (by rw [upd_same, List.map_cons, List.map_append]; rfl) (.qfP hsp)
        · rw [if_neg hla]
          have hla : la = true := by cases la <;> simp_all
          subst hla
          have httd := sD _ _ htt
          refine ⟨_, SqT.of httd, _, atI_nat (j := 1) rfl, by decide, fun PA hPA => ?_⟩
          have hPAp := hPD.ne hPA
          have hPAq := hPD.neq hPA
          have sPA := same_upd (o := HO.lst [V.str (S (kQf false)), V.str (S z)]) hPA
          have hPA0 : H PA = none := sD.free hPA
          refine ⟨_, SqT.of (sPA _ _ httd), _, atI_nat (j := 2) rfl, ?_⟩
          refine while_W (fun n σ H3 => ∃ (zs : List (List Nat)) (c : Fm) (tc : Addr), σ = [some (V.ref p), some (V.ref t), some (V.int (L : Nat)), some (V.bl true), some (V.str (S (kQf false))), some (V.ref D), none, none, none, some (V.ref PA), some (V.ref tc)] ∧ a = zs.foldr (fun z f => Fm.qf false z f) c ∧ FmAt H3 tc c ∧ H3 PA = some (.lst ((.res (kQf false) :: namesJ (z :: zs)).map txV)) ∧ But p H H3 ∧ Pool H3 p q ns ∧ szN c ≤ n) ⟨szN a, [], a, ua, rfl, rfl, hfa.tups (Tups.same (sD.trans sPA)), by rw [upd_same]; rfl, hBD.trans (But.of sPA), hPD.same sPA, Nat.le_refl _⟩ ?_
          rintro n σ H3 ⟨zs, c, tc, rfl, hac, hfc, h3, hB3, hP3, hn⟩
          obtain ⟨ys, hys⟩ := fm_hd hfc
          walk_at "rd"
          refine ⟨_, SqT.of hys, _, atI_nat (j := 0) rfl, rfl, ?_⟩
          have hsz2 := qf_sz false c zs
          have hdp2 := qf_dep false c zs
          rw [← hac] at hsz2 hdp2
          have hgc : c.Good := qf_good false c zs (by rw [← hac]; exact hg.2)
          have hsc : c.Sm := qf_sm false c zs (by rw [← hac]; exact hs)
          have hsza : szN (.qf false z a) = szN a + 1 := rfl
          have hjl := namesJ_len (z :: zs)
          rw [List.length_cons] at hjl
          by_cases hh : V.str (S (hdF c)) = V.str (S (kQf false))
          · rw [if_pos hh]
            refine ⟨p, q, ns, 2, rfl, hP3, by decide, by decide, fun y1 H4 y0 y2 hB4 hP4 => ⟨rfl, ?_⟩⟩
            have h4 := hB4 PA _ hPAp h3
            have hfc4 := hfc.tups (Tups.pool hP3 hB4)
            by_cases e0 : V.int y1 = V.int 0
            · rw [if_pos e0]
              obtain ⟨z2, c2, rfl⟩ := hd_qf hh
              obtain ⟨u2, hc4, hf2⟩ := hfc4
              refine nxw_of fun N hN => ?_
              walk_at "rd"
              refine ⟨.inl ⟨rfl, _, SqL.of h4⟩, _, SqT.of hc4, _, atI_nat (j := 1) rfl, by decide, fun T hT => ?_⟩
              have gT := same_upd (o := HO.lst [V.str (S (cs ",")), V.str (S z2)]) hT
              have h5 := gT _ _ h4
              refine ⟨_, h5, _, upd_same, small (by simp only [List.length_cons, List.length_nil, List.length_map]; omega), ?_⟩
              have hctc : tc ≠ PA := fun e => by rw [e, h4] at hc4; cases hc4
              have hc5 := gT _ _ hc4
              have TT : Tups H4 (upd (upd H4 T (HO.lst [V.str (S (cs ",")), V.str (S z2)])) PA (HO.lst (txV (Tv.res (kQf false)) :: List.map txV (namesJ (z :: zs)) ++ [V.str (S (cs ",")), V.str (S z2)]))) := fun b ws e => by
                have e1 := gT _ _ e
                rw [upd_ne (fun w => by rw [w, h5] at e1; cases e1)]
                exact e1
              refine ⟨_, SqT.of (TT _ _ hc4), _, atI_nat (j := 2) rfl, hN (szN c2) _ _ (Nat.lt_of_lt_of_le (Nat.lt_succ_self _) hn) ⟨zs ++ [z2], c2, u2, rfl, ?_, hf2.tups TT, ?_, ((hB3.trans hB4).upd2 hT).new hPA0, (hP4.same gT).set hPAp hPAq, Nat.le_refl _⟩⟩
              · rw [hac, List.foldr_append]
                rfl
              · rw [upd_same, show namesJ (z :: (zs ++ [z2])) = namesJ (z :: zs) ++ [sg ",", .name z2] from namesJ_snoc (zs := z :: zs) (by simp), List.map_append]
                rfl
            · rw [if_neg e0]
              refine ⟨by decide, fun l1 hl1 => ⟨_, (same_upd hl1) _ _ h4, _, upd_same, small ?_, fun l2 hl2 => ?_⟩⟩
              · simp only [List.length_cons, List.length_nil, List.length_map]
                omega
              have g2 := same_upd (o := HO.lst [V.str (S (cs ":"))]) hl1
              have g3 := same_upd (o := HO.lst (txV (Tv.res (kQf false)) :: List.map txV (namesJ (z :: zs)) ++ [V.str (S (cs ":"))])) hl2
              have hl2p : l2 ≠ p := (hP4.same g2).ne hl2
              refine ⟨p, q, tc, ns, c, 0, true, rfl, hP4.same (g2.trans g3), hfc4.tups (Tups.same (g2.trans g3)), hgc, hsc, by omega, by rw [if_pos ⟨rfl, rfl⟩]; omega, fun l4 xs1 H6 hB6 hP6 hl40 hl4 hsp => ⟨l4, rfl, _, hB6 l2 _ hl2p upd_same, _, hl4, small ?_, fun l hl => ?_⟩⟩
              · have h1 := spl_len hsp hsc
                simp only [List.length_append, List.length_cons, List.length_nil, List.length_map]
                omega
              have g6 := same_upd (o := HO.lst (txV (Tv.res (kQf false)) :: List.map txV (namesJ (z :: zs)) ++ [V.str (S (cs ":"))] ++ List.map txV xs1)) hl
              have hBB := ((hB3.trans hB4).trans (But.of (g2.trans g3))).trans hB6
              have hspl : Spl (.qf false z a) L true (.res (kQf false) :: (namesJ (z :: zs) ++ sg ":" :: xs1)) := by
                rw [hac]
                exact .qf (zs := zs) hsp
              exact ok l _ _ (hBB.trans (But.of g6)) (hP6.same g6) (hBB.free hP6 hl) (by rw [upd_same]; simp only [List.map_cons, List.map_append, List.append_assoc, List.cons_append, List.nil_append]; rfl) hspl
          · rw [if_neg hh]
            refine ⟨by decide, fun l1 hl1 => ⟨_, (same_upd hl1) _ _ h3, _, upd_same, small ?_, fun l2 hl2 => ?_⟩⟩
            · simp only [List.length_cons, List.length_nil, List.length_map]
              omega
            have g2 := same_upd (o := HO.lst [V.str (S (cs ":"))]) hl1
            have g3 := same_upd (o := HO.lst (txV (Tv.res (kQf false)) :: List.map txV (namesJ (z :: zs)) ++ [V.str (S (cs ":"))])) hl2
            have hl2p : l2 ≠ p := (hP3.same g2).ne hl2
            refine ⟨p, q, tc, ns, c, 0, true, rfl, hP3.same (g2.trans g3), hfc.tups (Tups.same (g2.trans g3)), hgc, hsc, by omega, by rw [if_pos ⟨rfl, rfl⟩]; omega, fun l4 xs1 H6 hB6 hP6 hl40 hl4 hsp => ⟨l4, rfl, _, hB6 l2 _ hl2p upd_same, _, hl4, small ?_, fun l hl => ?_⟩⟩
            · have h1 := spl_len hsp hsc
              simp only [List.length_append, List.length_cons, List.length_nil, List.length_map]
              omega
            have g6 := same_upd (o := HO.lst (txV (Tv.res (kQf false)) :: List.map txV (namesJ (z :: zs)) ++ [V.str (S (cs ":"))] ++ List.map txV xs1)) hl
            have hBB := (hB3.trans (But.of (g2.trans g3))).trans hB6
            have hspl : Spl (.qf false z a) L true (.res (kQf false) :: (namesJ (z :: zs) ++ sg ":" :: xs1)) := by
              rw [hac]
              exact .qf (zs := zs) hsp
            exact ok l _ _ (hBB.trans (But.of g6)) (hP6.same g6) (hBB.free hP6 hl) (by rw [upd_same]; simp only [List.map_cons, List.map_append, List.append_assoc, List.cons_append, List.nil_append]; rfl) hspl
    | not a =>
      obtain ⟨ua, htt, hfa⟩ := ht
      refine ⟨none, hget _ (lv_no "not" (by decide)), ?_⟩
      rw [if_neg (by decide)]
      refine ⟨rfl, ?_⟩
      rw [if_neg (show ¬ V.str (S (hdF (Fm.not a))) = V.str (S (cs "some")) from nSc (a := cs "not") (by decide))]
      refine ⟨rfl, ?_⟩
      rw [if_neg (show ¬ V.str (S (hdF (Fm.not a))) = V.str (S (cs "all")) from nSc (a := cs "not") (by decide))]
      refine ⟨rfl, ?_⟩
      rw [if_pos (show V.str (S (hdF (Fm.not a))) = V.str (S (cs "not")) from rfl)]
      have hm2 : 2 * (Fm.not a).dep < m + 1 := Nat.lt_of_le_of_lt (Nat.le_add_right _ _) hm
      have hdep : (Fm.not a).dep = a.dep + 1 := rfl
      have hsza : szN (.not a) = szN a + 1 := rfl
      exact ⟨_, SqT.of (sD _ _ htt), _, atI_nat (j := 1) rfl, p, q, ua, ns, a, la, rfl, hPD, hfa.tups (Tups.same sD), hg, hs, by omega, by omega, fun l xs H' hB hP' hl h1 hsp => ok l xs H' (hBD.trans hB) hP' (hBD.free hPD hl) h1 (hsp L)⟩
    | pow z =>
      have hF : FmAt H t (Fm.pow z) := ht
      have hat : isAtom (Fm.pow z) := trivial
      obtain ⟨f1, hf1⟩ : ∃ f1 : Fm, f1 = Fm.pow z := ⟨_, rfl⟩
      have hhd : hdF f1 = cs "pow" := by rw [hf1]; rfl
      rw [← hf1] at hF hat hg hs ok ⊢
      rw [hhd]
      refine ⟨none, hget _ (lv_no _ (by decide)), ?_⟩
      rw [if_neg (by decide)]
      refine ⟨rfl, ?_⟩
      rw [if_neg (nSc (by decide))]
      refine ⟨rfl, ?_⟩
      rw [if_neg (nSc (by decide))]
      refine ⟨rfl, ?_⟩
      rw [if_neg (nSc (by decide))]
      refine ⟨p, q, ns, 6, rfl, hPD, by decide, by decide, fun y1 H4 y0 y2 hB4 hP4 => ⟨rfl, ?_⟩⟩
      have hF4 := hF.tups ((Tups.same sD).trans (Tups.pool hPD hB4))
      by_cases e0 : V.int y1 = V.int 0
      · rw [if_pos e0]
        refine ⟨by decide, fun G hG => ?_⟩
        have hGp := hP4.ne hG
        have sG := same_upd (o := HO.lst [V.str (S (cs "("))]) hG
        refine ⟨p, q, t, ns, f1, rfl, hP4.same sG, hF4.tups (Tups.same sG), hat, hg, hs, fun l1 xs1 H3 hB3 hP3 hl10 hl1 hsp => ⟨l1, rfl, _, hB3 G _ hGp upd_same, _, hl1, small ?_, fun l2 hl2 => ⟨by decide, fun l3 hl3 => ⟨_, (same_upd hl3) _ _ upd_same, _, upd_same, small ?_, fun l hl => ?_⟩⟩⟩⟩
        · have hlen : xs1.length ≤ 2400 := (by have := (atom_len hsp hs).1; omega)
          simp only [List.length_cons, List.length_nil, List.length_map]
          omega
        · have hlen : xs1.length ≤ 2400 := (by have := (atom_len hsp hs).1; omega)
          simp only [List.length_cons, List.length_nil, List.length_map, List.length_append]
          omega
        have s2 := same_upd (o := HO.lst ([V.str (S (cs "("))] ++ List.map txV xs1)) hl2
        have s3 := same_upd (o := HO.lst [V.str (S (cs ")"))]) hl3
        have s4 := same_upd (o := HO.lst ([V.str (S (cs "("))] ++ List.map txV xs1 ++ [V.str (S (cs ")"))])) hl
        have hBB := (((hBD.trans hB4).trans (But.of sG)).trans hB3).trans (But.of (s2.trans s3))
        exact ok l (sg "(" :: (xs1 ++ [sg ")"])) _ (hBB.trans (But.of s4)) (hP3.same ((s2.trans s3).trans s4)) (hBB.free (hP3.same (s2.trans s3)) hl) (by rw [upd_same, List.map_cons, List.map_append]; rfl) (.atomP hsp)
      · rw [if_neg e0]
        exact ⟨p, q, t, ns, f1, rfl, hP4, hF4, hat, hg, hs, fun l xs H' hB hP' hl h1 hsp => ok l xs H' ((hBD.trans hB4).trans hB) hP' ((hBD.trans hB4).free hP4 hl) h1 (.atom hsp)⟩
    | word w z o =>
      have hF : FmAt H t (Fm.word w z o) := ht
      have hat : isAtom (Fm.word w z o) := trivial
      obtain ⟨f1, hf1⟩ : ∃ f1 : Fm, f1 = Fm.word w z o := ⟨_, rfl⟩
      have hhd : hdF f1 = cs "word" := by rw [hf1]; rfl
      rw [← hf1] at hF hat hg hs ok ⊢
      rw [hhd]
      refine ⟨none, hget _ (lv_no _ (by decide)), ?_⟩
      rw [if_neg (by decide)]
      refine ⟨rfl, ?_⟩
      rw [if_neg (nSc (by decide))]
      refine ⟨rfl, ?_⟩
      rw [if_neg (nSc (by decide))]
      refine ⟨rfl, ?_⟩
      rw [if_neg (nSc (by decide))]
      refine ⟨p, q, ns, 6, rfl, hPD, by decide, by decide, fun y1 H4 y0 y2 hB4 hP4 => ⟨rfl, ?_⟩⟩
      have hF4 := hF.tups ((Tups.same sD).trans (Tups.pool hPD hB4))
      by_cases e0 : V.int y1 = V.int 0
      · rw [if_pos e0]
        refine ⟨by decide, fun G hG => ?_⟩
        have hGp := hP4.ne hG
        have sG := same_upd (o := HO.lst [V.str (S (cs "("))]) hG
        refine ⟨p, q, t, ns, f1, rfl, hP4.same sG, hF4.tups (Tups.same sG), hat, hg, hs, fun l1 xs1 H3 hB3 hP3 hl10 hl1 hsp => ⟨l1, rfl, _, hB3 G _ hGp upd_same, _, hl1, small ?_, fun l2 hl2 => ⟨by decide, fun l3 hl3 => ⟨_, (same_upd hl3) _ _ upd_same, _, upd_same, small ?_, fun l hl => ?_⟩⟩⟩⟩
        · have hlen : xs1.length ≤ 2400 := (by have := (atom_len hsp hs).1; omega)
          simp only [List.length_cons, List.length_nil, List.length_map]
          omega
        · have hlen : xs1.length ≤ 2400 := (by have := (atom_len hsp hs).1; omega)
          simp only [List.length_cons, List.length_nil, List.length_map, List.length_append]
          omega
        have s2 := same_upd (o := HO.lst ([V.str (S (cs "("))] ++ List.map txV xs1)) hl2
        have s3 := same_upd (o := HO.lst [V.str (S (cs ")"))]) hl3
        have s4 := same_upd (o := HO.lst ([V.str (S (cs "("))] ++ List.map txV xs1 ++ [V.str (S (cs ")"))])) hl
        have hBB := (((hBD.trans hB4).trans (But.of sG)).trans hB3).trans (But.of (s2.trans s3))
        exact ok l (sg "(" :: (xs1 ++ [sg ")"])) _ (hBB.trans (But.of s4)) (hP3.same ((s2.trans s3).trans s4)) (hBB.free (hP3.same (s2.trans s3)) hl) (by rw [upd_same, List.map_cons, List.map_append]; rfl) (.atomP hsp)
      · rw [if_neg e0]
        exact ⟨p, q, t, ns, f1, rfl, hP4, hF4, hat, hg, hs, fun l xs H' hB hP' hl h1 hsp => ok l xs H' ((hBD.trans hB4).trans hB) hP' ((hBD.trans hB4).free hP4 hl) h1 (.atom hsp)⟩
    | call g zs =>
      have hF : FmAt H t (Fm.call g zs) := ht
      have hat : isAtom (Fm.call g zs) := trivial
      obtain ⟨f1, hf1⟩ : ∃ f1 : Fm, f1 = Fm.call g zs := ⟨_, rfl⟩
      have hhd : hdF f1 = cs "call" := by rw [hf1]; rfl
      rw [← hf1] at hF hat hg hs ok ⊢
      rw [hhd]
      refine ⟨none, hget _ (lv_no _ (by decide)), ?_⟩
      rw [if_neg (by decide)]
      refine ⟨rfl, ?_⟩
      rw [if_neg (nSc (by decide))]
      refine ⟨rfl, ?_⟩
      rw [if_neg (nSc (by decide))]
      refine ⟨rfl, ?_⟩
      rw [if_neg (nSc (by decide))]
      refine ⟨p, q, ns, 6, rfl, hPD, by decide, by decide, fun y1 H4 y0 y2 hB4 hP4 => ⟨rfl, ?_⟩⟩
      have hF4 := hF.tups ((Tups.same sD).trans (Tups.pool hPD hB4))
      by_cases e0 : V.int y1 = V.int 0
      · rw [if_pos e0]
        refine ⟨by decide, fun G hG => ?_⟩
        have hGp := hP4.ne hG
        have sG := same_upd (o := HO.lst [V.str (S (cs "("))]) hG
        refine ⟨p, q, t, ns, f1, rfl, hP4.same sG, hF4.tups (Tups.same sG), hat, hg, hs, fun l1 xs1 H3 hB3 hP3 hl10 hl1 hsp => ⟨l1, rfl, _, hB3 G _ hGp upd_same, _, hl1, small ?_, fun l2 hl2 => ⟨by decide, fun l3 hl3 => ⟨_, (same_upd hl3) _ _ upd_same, _, upd_same, small ?_, fun l hl => ?_⟩⟩⟩⟩
        · have hlen : xs1.length ≤ 2400 := (by have := (atom_len hsp hs).1; omega)
          simp only [List.length_cons, List.length_nil, List.length_map]
          omega
        · have hlen : xs1.length ≤ 2400 := (by have := (atom_len hsp hs).1; omega)
          simp only [List.length_cons, List.length_nil, List.length_map, List.length_append]
          omega
        have s2 := same_upd (o := HO.lst ([V.str (S (cs "("))] ++ List.map txV xs1)) hl2
        have s3 := same_upd (o := HO.lst [V.str (S (cs ")"))]) hl3
        have s4 := same_upd (o := HO.lst ([V.str (S (cs "("))] ++ List.map txV xs1 ++ [V.str (S (cs ")"))])) hl
        have hBB := (((hBD.trans hB4).trans (But.of sG)).trans hB3).trans (But.of (s2.trans s3))
        exact ok l (sg "(" :: (xs1 ++ [sg ")"])) _ (hBB.trans (But.of s4)) (hP3.same ((s2.trans s3).trans s4)) (hBB.free (hP3.same (s2.trans s3)) hl) (by rw [upd_same, List.map_cons, List.map_append]; rfl) (.atomP hsp)
      · rw [if_neg e0]
        exact ⟨p, q, t, ns, f1, rfl, hP4, hF4, hat, hg, hs, fun l xs H' hB hP' hl h1 hsp => ok l xs H' ((hBD.trans hB4).trans hB) hP' ((hBD.trans hB4).free hP4 hl) h1 (.atom hsp)⟩
    | cmp k ps c =>
      cases k with
      | true =>
        have hF : FmAt H t (Fm.cmp true ps c) := ht
        have hat : isAtom (Fm.cmp true ps c) := trivial
        obtain ⟨f1, hf1⟩ : ∃ f1 : Fm, f1 = Fm.cmp true ps c := ⟨_, rfl⟩
        have hhd : hdF f1 = cs "eq" := by rw [hf1]; rfl
        rw [← hf1] at hF hat hg hs ok ⊢
        rw [hhd]
        refine ⟨none, hget _ (lv_no _ (by decide)), ?_⟩
        rw [if_neg (by decide)]
        refine ⟨rfl, ?_⟩
        rw [if_neg (nSc (by decide))]
        refine ⟨rfl, ?_⟩
        rw [if_neg (nSc (by decide))]
        refine ⟨rfl, ?_⟩
        rw [if_neg (nSc (by decide))]
        refine ⟨p, q, ns, 6, rfl, hPD, by decide, by decide, fun y1 H4 y0 y2 hB4 hP4 => ⟨rfl, ?_⟩⟩
        have hF4 := hF.tups ((Tups.same sD).trans (Tups.pool hPD hB4))
        by_cases e0 : V.int y1 = V.int 0
        · rw [if_pos e0]
          refine ⟨by decide, fun G hG => ?_⟩
          have hGp := hP4.ne hG
          have sG := same_upd (o := HO.lst [V.str (S (cs "("))]) hG
          refine ⟨p, q, t, ns, f1, rfl, hP4.same sG, hF4.tups (Tups.same sG), hat, hg, hs, fun l1 xs1 H3 hB3 hP3 hl10 hl1 hsp => ⟨l1, rfl, _, hB3 G _ hGp upd_same, _, hl1, small ?_, fun l2 hl2 => ⟨by decide, fun l3 hl3 => ⟨_, (same_upd hl3) _ _ upd_same, _, upd_same, small ?_, fun l hl => ?_⟩⟩⟩⟩
          · have hlen : xs1.length ≤ 2400 := (by have := (atom_len hsp hs).1; omega)
            simp only [List.length_cons, List.length_nil, List.length_map]
            omega
          · have hlen : xs1.length ≤ 2400 := (by have := (atom_len hsp hs).1; omega)
            simp only [List.length_cons, List.length_nil, List.length_map, List.length_append]
            omega
          have s2 := same_upd (o := HO.lst ([V.str (S (cs "("))] ++ List.map txV xs1)) hl2
          have s3 := same_upd (o := HO.lst [V.str (S (cs ")"))]) hl3
          have s4 := same_upd (o := HO.lst ([V.str (S (cs "("))] ++ List.map txV xs1 ++ [V.str (S (cs ")"))])) hl
          have hBB := (((hBD.trans hB4).trans (But.of sG)).trans hB3).trans (But.of (s2.trans s3))
          exact ok l (sg "(" :: (xs1 ++ [sg ")"])) _ (hBB.trans (But.of s4)) (hP3.same ((s2.trans s3).trans s4)) (hBB.free (hP3.same (s2.trans s3)) hl) (by rw [upd_same, List.map_cons, List.map_append]; rfl) (.atomP hsp)
        · rw [if_neg e0]
          exact ⟨p, q, t, ns, f1, rfl, hP4, hF4, hat, hg, hs, fun l xs H' hB hP' hl h1 hsp => ok l xs H' ((hBD.trans hB4).trans hB) hP' ((hBD.trans hB4).free hP4 hl) h1 (.atom hsp)⟩
      | false =>
        have hF : FmAt H t (Fm.cmp false ps c) := ht
        have hat : isAtom (Fm.cmp false ps c) := trivial
        obtain ⟨f1, hf1⟩ : ∃ f1 : Fm, f1 = Fm.cmp false ps c := ⟨_, rfl⟩
        have hhd : hdF f1 = cs "le" := by rw [hf1]; rfl
        rw [← hf1] at hF hat hg hs ok ⊢
        rw [hhd]
        refine ⟨none, hget _ (lv_no _ (by decide)), ?_⟩
        rw [if_neg (by decide)]
        refine ⟨rfl, ?_⟩
        rw [if_neg (nSc (by decide))]
        refine ⟨rfl, ?_⟩
        rw [if_neg (nSc (by decide))]
        refine ⟨rfl, ?_⟩
        rw [if_neg (nSc (by decide))]
        refine ⟨p, q, ns, 6, rfl, hPD, by decide, by decide, fun y1 H4 y0 y2 hB4 hP4 => ⟨rfl, ?_⟩⟩
        have hF4 := hF.tups ((Tups.same sD).trans (Tups.pool hPD hB4))
        by_cases e0 : V.int y1 = V.int 0
        · rw [if_pos e0]
          refine ⟨by decide, fun G hG => ?_⟩
          have hGp := hP4.ne hG
          have sG := same_upd (o := HO.lst [V.str (S (cs "("))]) hG
          refine ⟨p, q, t, ns, f1, rfl, hP4.same sG, hF4.tups (Tups.same sG), hat, hg, hs, fun l1 xs1 H3 hB3 hP3 hl10 hl1 hsp => ⟨l1, rfl, _, hB3 G _ hGp upd_same, _, hl1, small ?_, fun l2 hl2 => ⟨by decide, fun l3 hl3 => ⟨_, (same_upd hl3) _ _ upd_same, _, upd_same, small ?_, fun l hl => ?_⟩⟩⟩⟩
          · have hlen : xs1.length ≤ 2400 := (by have := (atom_len hsp hs).1; omega)
            simp only [List.length_cons, List.length_nil, List.length_map]
            omega
          · have hlen : xs1.length ≤ 2400 := (by have := (atom_len hsp hs).1; omega)
            simp only [List.length_cons, List.length_nil, List.length_map, List.length_append]
            omega
          have s2 := same_upd (o := HO.lst ([V.str (S (cs "("))] ++ List.map txV xs1)) hl2
          have s3 := same_upd (o := HO.lst [V.str (S (cs ")"))]) hl3
          have s4 := same_upd (o := HO.lst ([V.str (S (cs "("))] ++ List.map txV xs1 ++ [V.str (S (cs ")"))])) hl
          have hBB := (((hBD.trans hB4).trans (But.of sG)).trans hB3).trans (But.of (s2.trans s3))
          exact ok l (sg "(" :: (xs1 ++ [sg ")"])) _ (hBB.trans (But.of s4)) (hP3.same ((s2.trans s3).trans s4)) (hBB.free (hP3.same (s2.trans s3)) hl) (by rw [upd_same, List.map_cons, List.map_append]; rfl) (.atomP hsp)
        · rw [if_neg e0]
          exact ⟨p, q, t, ns, f1, rfl, hP4, hF4, hat, hg, hs, fun l xs H' hB hP' hl h1 hsp => ok l xs H' ((hBD.trans hB4).trans hB) hP' ((hBD.trans hB4).free hP4 hl) h1 (.atom hsp)⟩

end
end
section
local macro_rules | `(tactic| walk_at "rd") => `(tactic| simp only [tSeq, tNext, tAsg, gName, tRet, tRetN, tIfS, tDrop, tVar, tC, tOp, tUn, tTest, tCB, tCons, tNil, tB, tAnd, tOr, tNot, tAndV, tOrV, tNotV, tIf, tCall, tTup, tLst, tSl, tPart, tNoPart, tM0, tM1, tBM, tChain, tBreak, tCont, tNever, tAug, ipI, tPar, tyV_str,
  tFor_eq, tLc_eq, tMkO, tYes, wipe, ofStr_S, S_cat, one_S, len_S, S_iff, S_cps, Int.zero_add, gNil, gCons, gTup, gSub, iRng1, iRng2, iList, iTup, iStr, rI0, rI, rU, rEq, rNe, rIxL, rIxT, rIxS, Dw.rLen, rListOf, rTupOf, rNotB, rIsB, rMulS, rIn, rCat, rAppend, rCatA, rEqD, rNeD, C8.rSlX, tDGet, Int.toNat_natCast, WE, iEnum, iRev, rSum, tFd, tFs, tFa_eq, L2.rAdd, tMake, tMakeS, tMeth, Dw.tMethS, tCallS, rSlL, rSlA, tDGet2, tDIn, tDNotIn, rSetD, rAll, rKIn, tBM0, rPop, rExtend, tAddT, rAddT, rSetT0, Dw.rSetL, rSortT, StX.tStar, tDNewK, tDisp, tPairs, L2.start, cxOf_K, cxOf_w, cxOf_prog,
  List.map_cons, List.map_nil, List.length_cons, List.length_nil, List.replicate, List.cons_append, List.nil_append, Nat.reduceAdd, Nat.reduceSub, Nat.zero_add, List.append_nil,
  List.set_cons_zero, List.set_cons_succ, List.getElem?_cons_zero, List.getElem?_cons_succ, Option.some.injEq, V.int.injEq, V.bl.injEq, V.ref.injEq, V.str.injEq, V.ty.injEq, List.cons.injEq, and_true, true_and, reduceCtorEq, false_and, exists_false, or_false, false_or, exists_eq_left, exists_eq_left', exists_eq', sw_S, an_S, exists_and_left, exists_const, exists_eq, decide_eq_true_eq, Bool.false_eq_true, if_true, if_false, Bool.not_eq_true', decide_eq_false_iff_not, Bool.not_true, Bool.not_false, ite_not, scal, and_false])
section
variable {P : Program} {w : World} {K : PySem.W.Frag} {mg : Str → Option Value} {base : Heap}
theorem spells {f fn : Addr} {fd fdn : FuncData} (D : C8.Def K mg "_law_spell" s__law_spell f fd) (b : Binds K fd ["pool", "formula", "level", "last"] []) (Dn : C8.Def K mg "_law_spell_not" s__law_spell_not fn fdn) (bn : Binds K fdn ["pool", "part", "last"] []) (c__law_take : C8.Cal P w K mg base 2 "_law_take" sp_take []) (c__law_compare : C8.Cal P w K mg base 3 "_law_compare" sp_compare []) (c__law_spell_atom : C8.Cal P w K mg base 4 "_law_spell_atom" sp_atom []) (z_str : mg "str" = none) (z_int : mg "int" = none) : ∀ m : Nat, m ≤ 20 → C8.Cal P w K mg base (2 * m + 5) "_law_spell" (SpSp m) []
  | 0, _ => C8.cal0 (k := 4) D b .nil sc__law_spell (fun vs H Q E h => by obtain ⟨_, _, _, _, _, _, _, _, _, _, _, _, _, h0, _⟩ := h; exact absurd h0 (Nat.not_lt_zero _)) (fun cdv A outer s H vs Q E hr h => by obtain ⟨_, _, _, _, _, _, _, _, _, _, _, _, _, h0, _⟩ := h; exact absurd h0 (Nat.not_lt_zero _))
  | m + 1, hm => by
    have c__law_spell1 := spells D b Dn bn c__law_take c__law_compare c__law_spell_atom z_str z_int m (by omega)
    have c__law_spell_not1 := c__law_spell_not Dn bn c__law_take c__law_compare c__law_spell1 z_str
    exact c__law_spell D b c__law_take c__law_spell_atom c__law_spell1 c__law_spell_not1 z_int

end
end
section
local macro_rules | `(tactic| walk_at "rd") => `(tactic| simp only [tSeq, tNext, tAsg, gName, tRet, tRetN, tIfS, tDrop, tVar, tC, tOp, tUn, tTest, tCB, tCons, tNil, tB, tAnd, tOr, tNot, tAndV, tOrV, tNotV, tIf, tCall, tTup, tLst, tSl, tPart, tNoPart, tM0, tM1, tBM, tChain, tBreak, tCont, tNever, tAug, ipI, tPar, tyV_str,
  tFor_eq, tLc_eq, tMkO, tYes, wipe, ofStr_S, S_cat, one_S, len_S, S_iff, S_cps, Int.zero_add, gNil, gCons, gTup, gSub, iRng1, iRng2, iList, iTup, iStr, rI0, rI, rU, rEq, rNe, rIxL, rIxT, rIxS, Dw.rLen, rListOf, rTupOf, rNotB, rIsB, rMulS, rIn, rCat, rAppend, rCatA, rEqD, rNeD, C8.rSlX, tDGet, Int.toNat_natCast, WE, iEnum, iRev, rSum, tFd, tFs, tFa_eq, L2.rAdd, tMake, tMakeS, tMeth, Dw.tMethS, tCallS, rSlL, rSlA, tDGet2, tDIn, tDNotIn, rSetD, rAll, rKIn, tBM0, rPop, rExtend, tAddT, rAddT, rSetT0, Dw.rSetL, rSortT, StX.tStar, tDNewK, tDisp, tPairs, L2.start, cxOf_K, cxOf_w, cxOf_prog,
  List.map_cons, List.map_nil, List.length_cons, List.length_nil, List.replicate, List.cons_append, List.nil_append, Nat.reduceAdd, Nat.reduceSub, Nat.zero_add, List.append_nil,
  List.set_cons_zero, List.set_cons_succ, List.getElem?_cons_zero, List.getElem?_cons_succ, Option.some.injEq, V.int.injEq, V.bl.injEq, V.ref.injEq, V.str.injEq, V.ty.injEq, List.cons.injEq, and_true, true_and, reduceCtorEq, false_and, exists_false, or_false, false_or, exists_eq_left, exists_eq_left', exists_eq', sw_S, an_S, exists_and_left, exists_const, exists_eq, decide_eq_true_eq, Bool.false_eq_true, if_true, if_false, Bool.not_eq_true', decide_eq_false_iff_not, Bool.not_true, Bool.not_false, ite_not, scal, and_false])
section
variable {P : Program} {w : World} {K : PySem.W.Frag} {mg : Str → Option Value} {base : Heap}
def spLaw (K : PySem.W.Frag) : Sp := fun vs H Q _ => ∃ (a : Addr) (ns : List Int), vs = [.ref a] ∧ SqL K H a (ns.map V.int) ∧ ns.length ≤ 63 ∧ ∀ H', Q (.bl true) H'
theorem f_law {f : Addr} {fd : FuncData} (D : C8.Def K mg "law" s_law f fd) (c__law_pool : C8.Cal P w K mg base 1 "_law_pool" (sp_pool K) []) (c__law_take : C8.Cal P w K mg base 2 "_law_take" sp_take []) (c__law_name : C8.Cal P w K mg base 3 "_law_name" sp_name []) (c__law_formula : C8.Cal P w K mg base 8 "_law_formula" (SpF 5) []) (c__law_spell : C8.Cal P w K mg base 25 "_law_spell" (SpSp 10) []) (c__law_text : C8.Cal P w K mg base 4 "_law_text" (sp_text K) []) {CM CO : Addr} (c_parse_formula : CalX P w K mg base 194 "parse_formula" (sp_parse CM CO)) (z_range : mg "range" = none) (z_len : mg "len" = none) (z_isinstance : mg "isinstance" = none) (z_tuple : mg "tuple" = none) : FnOk P w K mg base C8.CX0 196 f fd ["script"] (spLaw K) := by
  refine C8.fn0 D.fn sc_law (fun vs H Q E h => ?_) (fun cdv A outer s H vs Q E hr h => ?_)
  · obtain ⟨_, _, rfl, _⟩ := h
    rfl
  · obtain ⟨a0, ns, rfl, hS, hlen, ok⟩ := h
    refine ⟨_, (pss_cons (ps_set (i := 1) sc_law.nd rfl (by first | exact Or.inl rfl | exact Or.inr rfl) (C8.pe_c c__law_pool hr (by decide) (by rfl) (pa_cons (pv 0) pa_nil))) (pss_cons (ps_setLc (i := 2) (own := [("k", 6)]) (g := (gName 6)) (tt := tYes) rfl sc_law.nd rfl rfl (sw_true rfl rfl rfl (by decide +kernel)) (pi_range1 (by rfl) z_range (pa_cons pe_int pa_nil)) (blkOk_by (N := N_law) (sc := C8.fnScope s_law) (by decide +kernel)) (fun _ _ _ _ _ => (pg_name (i := 6) sc_law.nd rfl (by first | exact Or.inl rfl | exact Or.inr rfl))) (fun _ _ _ _ _ => pts_nil) (fun _ _ _ _ _ => (C8.pe_c c__law_name hr (by decide) (by rfl) (pa_cons (pv 1) pa_nil)))) (pss_cons (ps_set (i := 3) sc_law.nd rfl (by first | exact Or.inl rfl | exact Or.inr rfl) (C8.pe_c c__law_formula hr (by decide) (by rfl) (pa_cons (pv 1) (pa_cons (pv 2) (pa_cons pe_int pa_nil))))) (pss_cons (ps_set (i := 4) sc_law.nd rfl (by first | exact Or.inl rfl | exact Or.inr rfl) (pe_ix (ixL K) (C8.pe_c c__law_text hr (by decide) (by rfl) (pa_cons (pv 1) (pa_cons (C8.pe_c c__law_spell hr (by decide) (by rfl) (pa_cons (pv 1) (pa_cons (pv 3) (pa_cons pe_int (pa_cons pe_bl pa_nil))))) pa_nil))) pe_int (fun _ _ => rfl))) (pss_cons (ps_if (pt_cmpR (op_gt) (pe_callB call_len_str (by rfl) z_len PySem.boot_len (pa_cons (pv 4) pa_nil)) pe_int (nomark _)) (pss_one (ps_ret pe_bl)) pss_nil) (pss_cons (ps_set (i := 5) sc_law.nd rfl (by first | exact Or.inl rfl | exact Or.inr rfl) (pe_cx c_parse_formula hr (by decide) passF (by rfl) (pa_cons (pv 4) pa_nil))) (pss_one (ps_ret (pe_and (pe_callB (isiK K) (by rfl) z_isinstance (by decide +kernel) (pa_cons (pv 5) (pa_cons (pe_bltn (by rfl) z_tuple (by decide +kernel) (v := .ty "tuple") rfl) pa_nil))) (pe_one (pe_cmpR (eqDK K (hu64 hr)) (pv 5) (pv 3) (nomark _)))))))))))), ?_⟩
    walk_at "rd"
    refine ⟨a0, ns, rfl, hS, fun p q H1 sm1 hp0 hq0 hP1 => ⟨by decide, by decide, fun Nm hNm => ?_⟩⟩
    have hNp : Nm ≠ p := hP1.ne hNm
    have hNq : Nm ≠ q := hP1.neq hNm
    refine lc_rangeN (fun i H3 => ∃ ls : List (List Nat), ls.length = i ∧ (∀ l ∈ ls, GName l) ∧ H3 Nm = some (.lst ((ls.map S).map V.str)) ∧ Pool H3 p q ns) ?_ ?_ ?_
    · exact ⟨[], rfl, (fun _ h => nomatch h), upd_same, hP1.same (same_upd hNm)⟩
    · rintro i H3 N2 hi ⟨ls, hl, hg, h3, hP3⟩ hN2
      walk_at "rd"
      refine ⟨p, q, ns, rfl, hP3, fun l H4 hgl hB4 hP4 => ⟨_, hB4 Nm _ hNp h3, smallt (by rw [List.length_map, List.length_map]; have : i < 3 := hi; omega), hN2 _ ⟨ls ++ [l], by rw [List.length_append, hl]; rfl, fun l' h => ?_, ?_, hP4.set hNp hNq⟩⟩⟩
      · rcases List.mem_append.mp h with h | h
        · exact hg l' h
        · rw [List.mem_singleton.mp h]; exact hgl
      · rw [upd_same, List.map_append, List.map_append]
        rfl
    rintro H3 ⟨ls, hl, hgl, h3N, hP3⟩
    have hl3 : ls.length = 3 := hl
    refine ⟨p, q, ns, Nm, ls, rfl, hP3, hNp, h3N, by omega, by omega, hgl, fun t f1 H4 hB4 hP4 hf hg hs hd _ => ?_⟩
    have hd4 : f1.dep ≤ 4 := hd
    obtain ⟨z1, z2⟩ := szN_dep f1
    have hsz : szN f1 ≤ 31 := by
      have : 2 ^ (f1.dep + 1) ≤ 2 ^ 5 := Nat.pow_le_pow_right (by decide) (by omega)
      omega
    refine ⟨p, q, t, ns, f1, 0, true, rfl, hP4, hf, hg, hs, by omega, by rw [if_pos ⟨rfl, rfl⟩]; omega, fun l xs H5 hB5 hP5 hl0 hl5 hsp => ?_⟩
    have hok := spl_ok hsp hg hs
    have hxl : xs.length ≤ 900 := by
      have := spl_len hsp hs
      omega
    have hlp : l ≠ p := hP4.ne hl0
    refine ⟨p, q, l, ns, xs.map Tv.txt, rfl, hP5, hlp, SqL.of (by rw [List.map_map]; exact hl5), fun y hy => ?_, by rw [List.length_map]; exact hxl, fun l0 rows r tt H6 hrow hb0 hbl hsep hB6 hP6 hr0 ht0 hrt hr6 ht6 => ?_⟩
    · obtain ⟨x, hx, rfl⟩ := List.mem_map.mp hy
      have hp := Tv.piece (hok x hx)
      exact ⟨piece_ne hp, Nat.le_trans (piece_len hp) (by decide)⟩
    obtain ⟨is, hi1, hi2, hi3, hi4⟩ := items_of hrow hok hbl hsep
    refine ⟨r, rfl, _, SqL.of hr6, _, atI_nat (j := 0) rfl, _, rfl, ?_, ?_⟩
    · rw [len_S]
      have hrl : rows.length = xs.length := by
        have := congrArg List.length hrow
        rw [List.length_map, List.length_map] at this
        exact this
      have := flat_len rows fun x hx => ⟨by
        have : x.1 ∈ rows.map (·.1) := List.mem_map.mpr ⟨x, hx, rfl⟩
        rw [hrow] at this
        obtain ⟨y, hy, e⟩ := List.mem_map.mp this
        rw [← e]
        exact Nat.le_trans (piece_len (Tv.piece (hok y hy))) (by decide), (hbl x hx).2⟩
      have := hb0.2
      exact smallB (by rw [List.length_append]; omega)
    by_cases h4 : 4000 < (((S (l0 ++ flat rows)).length : Nat) : Int)
    · rw [if_pos h4]
      exact ok _
    rw [if_neg h4]
    rw [len_S] at h4
    have hpr := parse_reads (l0 ++ iflat is).length hsp hg hs (hi4 l0.length) (by omega) (by omega)
    refine ⟨l0, is, by rw [hi1], hb0, hi2, by omega, by rw [hi1]; omega, ?_⟩
    rw [hpr]
    intro t2 H7 s7 hf7
    have hf6 := hf.tups (((Tups.pool hP4 hB5).trans (Tups.pool hP5 hB6)).trans (Tups.same s7))
    obtain ⟨ys, hys⟩ := fm_hd hf7
    refine isi_of (.base (.tup hys)) kit_tuple ⟨true, rfl, ?_⟩
    rw [if_pos rfl]
    have hsh := fm_shaped hg (by omega)
    refine ⟨_, hf7.dp, _, hf6.dp, hsh, hsh, ?_⟩
    rw [shaped_refl hsh]
    exact ok _

end
end
def KeysAre : List DictEntry → List String → Prop
  | [], [] => True
  | e :: es, k :: ks => (∃ t, e.key = .str (Str.ofString k) t) ∧ KeysAre es ks
  | [], _ :: _ => False
  | _ :: _, [] => False
theorem keysAre_mem : ∀ {es : List DictEntry} {ks : List String} {e : DictEntry}, KeysAre es ks → e ∈ es → ∃ k ∈ ks, ∃ t, e.key = .str (Str.ofString k) t
  | e :: es, k :: ks, x, ⟨h1, h2⟩, hm => by
    rcases List.mem_cons.mp hm with rfl | hm
    · exact ⟨k, List.mem_cons_self, h1⟩
    · obtain ⟨k2, hk, h⟩ := keysAre_mem h2 hm
      exact ⟨k2, List.mem_cons_of_mem _ hk, h⟩
  | _ :: _, [], _, h, _ => h.elim
  | [], _, _, _, hm => by cases hm
theorem keysAre_has : ∀ {es : List DictEntry} {ks : List String} {k : String}, KeysAre es ks → k ∈ ks → ∃ e ∈ es, ∃ t, e.key = .str (Str.ofString k) t
  | e :: es, k :: ks, x, ⟨h1, h2⟩, hm => by
    rcases List.mem_cons.mp hm with rfl | hm
    · exact ⟨e, List.mem_cons_self, h1⟩
    · obtain ⟨k2, hk, h⟩ := keysAre_has h2 hm
      exact ⟨k2, List.mem_cons_of_mem _ hk, h⟩
  | [], _ :: _, _, h, _ => h.elim
  | _, [], _, _, hm => by cases hm
theorem ktabl_of {K : PySem.W.Frag} {w : World} {a : Addr} {es : Array DictEntry} {n : Nat} {ks : List String} (h1 : K.lookup a = some ⟨.type "dict", none, .dict es n, #[]⟩) (h2 : PySem.W.KeysLit w.params es.toList) (h3 : (a == sysModules) = false) (h4 : KeysAre es.toList ks) : KTabl K w a (ks.map cs) := by
  refine ⟨es, n, h1, h2, h3, fun l => ?_⟩
  unfold PySem.W.nsIn
  rw [h1]
  dsimp only
  cases hf : es.toList.find? (fun e => e.key.isStr (S l)) with
  | some e =>
    refine ⟨_, rfl, ?_⟩
    have hs := List.find?_some hf
    obtain ⟨k, hk, t, hkey⟩ := keysAre_mem h4 (List.mem_of_find?_eq_some hf)
    refine (decide_eq_true ?_).symm
    rw [hkey] at hs
    have e1 : Str.ofString k = S l := by simpa [Value.isStr] using hs
    rw [ofStr_S] at e1
    rw [← S_inj e1]
    exact List.mem_map.mpr ⟨k, hk, rfl⟩
  | none =>
    have hno : ∀ e ∈ es.toList, ¬ e.key.isStr (S l) = true := by
      intro e he
      have := List.find?_eq_none.mp hf e he
      exact this
    have hr : es.toList.any (·.refKey) = false := by
      rw [List.any_eq_false]
      intro e he
      obtain ⟨k, hk, t, hkey⟩ := keysAre_mem h4 he
      unfold DictEntry.refKey
      rw [hkey]
      simp
    rw [hr]
    refine ⟨none, rfl, (decide_eq_false fun hl => ?_).symm⟩
    obtain ⟨k, hk, rfl⟩ := List.mem_map.mp hl
    obtain ⟨e, he, t, hkey⟩ := keysAre_has h4 hk
    refine hno e he ?_
    rw [hkey, ofStr_S]
    simp [Value.isStr]
abbrev si_Malformed : Stmt := (C8.clsBody (topS 2)).getD 0 (.Pass ⟨0, 0, 0, 0⟩)
theorem sci_Malformed : FnScope ["self", "at"] ["self", "at"] (C8.fnScope si_Malformed) := C8.fnScope_by (by decide +kernel)
theorem f_ini_Malformed {P : Program} {w : World} {K : PySem.W.Frag} {mg : Str → Option Value} {base : Heap} {C fI : Addr} {fd : FuncData} (T : OexC K C) (nof : PySem.W.findIn K (.ref C) "at" = some none) (F : C8.Fun K "__init__" "Malformed.__init__" si_Malformed fI fd) : FnOk P w K mg base C8.CX0 1 fI fd ["self", "at"] (sp_init C "at") := by
  refine C8.fn0 F sci_Malformed (fun vs H Q E h => ?_) (fun cdv A outer s H vs Q E hr h => ?_)
  · obtain ⟨_, _, rfl, _⟩ := h
    rfl
  · obtain ⟨a, v, rfl, ha, ok⟩ := h
    exact ⟨_, pss_one (ps_ost (pv 0) (pv 1)), v, rfl, .ref a, rfl, a, C, rfl, T, nof, .inl ⟨ha, ok⟩⟩
abbrev si_Oversized : Stmt := (C8.clsBody (topS 3)).getD 0 (.Pass ⟨0, 0, 0, 0⟩)
theorem sci_Oversized : FnScope ["self", "limit"] ["self", "limit"] (C8.fnScope si_Oversized) := C8.fnScope_by (by decide +kernel)
theorem f_ini_Oversized {P : Program} {w : World} {K : PySem.W.Frag} {mg : Str → Option Value} {base : Heap} {C fI : Addr} {fd : FuncData} (T : OexC K C) (nof : PySem.W.findIn K (.ref C) "limit" = some none) (F : C8.Fun K "__init__" "Oversized.__init__" si_Oversized fI fd) : FnOk P w K mg base C8.CX0 1 fI fd ["self", "limit"] (sp_init C "limit") := by
  refine C8.fn0 F sci_Oversized (fun vs H Q E h => ?_) (fun cdv A outer s H vs Q E hr h => ?_)
  · obtain ⟨_, _, rfl, _⟩ := h
    rfl
  · obtain ⟨a, v, rfl, ha, ok⟩ := h
    exact ⟨_, pss_one (ps_ost (pv 0) (pv 1)), v, rfl, .ref a, rfl, a, C, rfl, T, nof, .inl ⟨ha, ok⟩⟩
theorem all_mk {l : PySem.W.OpenLaw} {w : World} {K : PySem.W.Frag} {h : Heap} {mg : Str → Option Value} {fa : Addr} (X : K.In h) (G : h.Ns mainGlobals mg) (hfa : mg "law" = some (.ref fa))
    {CR : Addr}
    {f0 : Addr} {od0 an0 : Option Addr} {sl0 : Array (Option Value)} {oc0 kV0 dc0 pm0 cd0 ct0 : Value}
    {f1 : Addr} {od1 an1 : Option Addr} {sl1 : Array (Option Value)} {oc1 kV1 dc1 pm1 cd1 ct1 : Value}
    {f2 : Addr} {od2 an2 : Option Addr} {sl2 : Array (Option Value)} {oc2 kV2 dc2 pm2 cd2 ct2 : Value}
    {f3 : Addr} {od3 an3 : Option Addr} {sl3 : Array (Option Value)} {oc3 kV3 dc3 pm3 cd3 ct3 : Value}
    {f4 : Addr} {od4 an4 : Option Addr} {sl4 : Array (Option Value)} {oc4 kV4 dc4 pm4 cd4 ct4 : Value}
    {f5 : Addr} {od5 an5 : Option Addr} {sl5 : Array (Option Value)} {oc5 kV5 dc5 pm5 cd5 ct5 : Value}
    {f6 : Addr} {od6 an6 : Option Addr} {sl6 : Array (Option Value)} {oc6 kV6 dc6 pm6 cd6 ct6 : Value}
    {f7 : Addr} {od7 an7 : Option Addr} {sl7 : Array (Option Value)} {oc7 kV7 dc7 pm7 cd7 ct7 : Value}
    {f8 : Addr} {od8 an8 : Option Addr} {sl8 : Array (Option Value)} {oc8 kV8 dc8 pm8 cd8 ct8 : Value}
    {f9 : Addr} {od9 an9 : Option Addr} {sl9 : Array (Option Value)} {oc9 kV9 dc9 pm9 cd9 ct9 : Value}
    {f10 : Addr} {od10 an10 : Option Addr} {sl10 : Array (Option Value)} {oc10 kV10 dc10 pm10 cd10 ct10 : Value}
    {f11 : Addr} {od11 an11 : Option Addr} {sl11 : Array (Option Value)} {oc11 kV11 dc11 pm11 cd11 ct11 : Value}
    {f12 : Addr} {od12 an12 : Option Addr} {sl12 : Array (Option Value)} {oc12 kV12 dc12 pm12 cd12 ct12 : Value}
    {f13 : Addr} {od13 an13 : Option Addr} {sl13 : Array (Option Value)} {oc13 kV13 dc13 pm13 cd13 ct13 : Value}
    {f14 : Addr} {od14 an14 : Option Addr} {sl14 : Array (Option Value)} {oc14 kV14 dc14 pm14 cd14 ct14 : Value}
    {f15 : Addr} {od15 an15 : Option Addr} {sl15 : Array (Option Value)} {oc15 kV15 dc15 pm15 cd15 ct15 : Value}
    {f16 : Addr} {od16 an16 : Option Addr} {sl16 : Array (Option Value)} {oc16 kV16 dc16 pm16 cd16 ct16 : Value}
    {f17 : Addr} {od17 an17 : Option Addr} {sl17 : Array (Option Value)} {oc17 kV17 dc17 pm17 cd17 ct17 : Value}
    {f18 : Addr} {od18 an18 : Option Addr} {sl18 : Array (Option Value)} {oc18 kV18 dc18 pm18 cd18 ct18 : Value}
    {f19 : Addr} {od19 an19 : Option Addr} {sl19 : Array (Option Value)} {oc19 kV19 dc19 pm19 cd19 ct19 : Value}
    {f20 : Addr} {od20 an20 : Option Addr} {sl20 : Array (Option Value)} {oc20 kV20 dc20 pm20 cd20 ct20 : Value}
    {f21 : Addr} {od21 an21 : Option Addr} {sl21 : Array (Option Value)} {oc21 kV21 dc21 pm21 cd21 ct21 : Value}
    {f22 : Addr} {od22 an22 : Option Addr} {sl22 : Array (Option Value)} {oc22 kV22 dc22 pm22 cd22 ct22 : Value}
    {f23 : Addr} {od23 an23 : Option Addr} {sl23 : Array (Option Value)} {oc23 kV23 dc23 pm23 cd23 ct23 : Value}
    {f24 : Addr} {od24 an24 : Option Addr} {sl24 : Array (Option Value)} {oc24 kV24 dc24 pm24 cd24 ct24 : Value}
    {f25 : Addr} {od25 an25 : Option Addr} {sl25 : Array (Option Value)} {oc25 kV25 dc25 pm25 cd25 ct25 : Value}
    {f26 : Addr} {od26 an26 : Option Addr} {sl26 : Array (Option Value)} {oc26 kV26 dc26 pm26 cd26 ct26 : Value}
    {f27 : Addr} {od27 an27 : Option Addr} {sl27 : Array (Option Value)} {oc27 kV27 dc27 pm27 cd27 ct27 : Value}
    {f28 : Addr} {od28 an28 : Option Addr} {sl28 : Array (Option Value)} {oc28 kV28 dc28 pm28 cd28 ct28 : Value}
    {f29 : Addr} {od29 an29 : Option Addr} {sl29 : Array (Option Value)} {oc29 kV29 dc29 pm29 cd29 ct29 : Value}
    {f30 : Addr} {od30 an30 : Option Addr} {sl30 : Array (Option Value)} {oc30 kV30 dc30 pm30 cd30 ct30 : Value}
    {f31 : Addr} {od31 an31 : Option Addr} {sl31 : Array (Option Value)} {oc31 kV31 dc31 pm31 cd31 ct31 : Value}
    {dT31 : Addr} {dTd31 : Option Addr} {dTi31 : Array Value} {dTn31 : Nat} {dTs31 : Array (Option Value)}
    {f32 : Addr} {od32 an32 : Option Addr} {sl32 : Array (Option Value)} {oc32 kV32 dc32 pm32 cd32 ct32 : Value}
    {f33 : Addr} {od33 an33 : Option Addr} {sl33 : Array (Option Value)} {oc33 kV33 dc33 pm33 cd33 ct33 : Value}
    {f34 : Addr} {od34 an34 : Option Addr} {sl34 : Array (Option Value)} {oc34 kV34 dc34 pm34 cd34 ct34 : Value}
    {f35 : Addr} {od35 an35 : Option Addr} {sl35 : Array (Option Value)} {oc35 kV35 dc35 pm35 cd35 ct35 : Value}
    {f36 : Addr} {od36 an36 : Option Addr} {sl36 : Array (Option Value)} {oc36 kV36 dc36 pm36 cd36 ct36 : Value}
    {f37 : Addr} {od37 an37 : Option Addr} {sl37 : Array (Option Value)} {oc37 kV37 dc37 pm37 cd37 ct37 : Value}
    {f38 : Addr} {od38 an38 : Option Addr} {sl38 : Array (Option Value)} {oc38 kV38 dc38 pm38 cd38 ct38 : Value}
    {f39 : Addr} {od39 an39 : Option Addr} {sl39 : Array (Option Value)} {oc39 kV39 dc39 pm39 cd39 ct39 : Value}
    {f40 : Addr} {od40 an40 : Option Addr} {sl40 : Array (Option Value)} {oc40 kV40 dc40 pm40 cd40 ct40 : Value}
    {f41 : Addr} {od41 an41 : Option Addr} {sl41 : Array (Option Value)} {oc41 kV41 dc41 pm41 cd41 ct41 : Value}
    {f42 : Addr} {od42 an42 : Option Addr} {sl42 : Array (Option Value)} {oc42 kV42 dc42 pm42 cd42 ct42 : Value}
    {f43 : Addr} {od43 an43 : Option Addr} {sl43 : Array (Option Value)} {oc43 kV43 dc43 pm43 cd43 ct43 : Value}
    {f44 : Addr} {od44 an44 : Option Addr} {sl44 : Array (Option Value)} {oc44 kV44 dc44 pm44 cd44 ct44 : Value}
    {f45 : Addr} {od45 an45 : Option Addr} {sl45 : Array (Option Value)} {oc45 kV45 dc45 pm45 cd45 ct45 : Value}
    {f46 : Addr} {od46 an46 : Option Addr} {sl46 : Array (Option Value)} {oc46 kV46 dc46 pm46 cd46 ct46 : Value}
    {f47 : Addr} {od47 an47 : Option Addr} {sl47 : Array (Option Value)} {oc47 kV47 dc47 pm47 cd47 ct47 : Value}
    {f48 : Addr} {od48 an48 : Option Addr} {sl48 : Array (Option Value)} {oc48 kV48 dc48 pm48 cd48 ct48 : Value}
    {f49 : Addr} {od49 an49 : Option Addr} {sl49 : Array (Option Value)} {oc49 kV49 dc49 pm49 cd49 ct49 : Value}
    {f50 : Addr} {od50 an50 : Option Addr} {sl50 : Array (Option Value)} {oc50 kV50 dc50 pm50 cd50 ct50 : Value}
    {f52 : Addr} {od52 an52 : Option Addr} {sl52 : Array (Option Value)} {oc52 kV52 dc52 pm52 cd52 ct52 : Value}
    {f53 : Addr} {od53 an53 : Option Addr} {sl53 : Array (Option Value)} {oc53 kV53 dc53 pm53 cd53 ct53 : Value}
    {f54 : Addr} {od54 an54 : Option Addr} {sl54 : Array (Option Value)} {oc54 kV54 dc54 pm54 cd54 ct54 : Value}
    {f55 : Addr} {od55 an55 : Option Addr} {sl55 : Array (Option Value)} {oc55 kV55 dc55 pm55 cd55 ct55 : Value}
    {f56 : Addr} {od56 an56 : Option Addr} {sl56 : Array (Option Value)} {oc56 kV56 dc56 pm56 cd56 ct56 : Value}
    {f57 : Addr} {od57 an57 : Option Addr} {sl57 : Array (Option Value)} {oc57 kV57 dc57 pm57 cd57 ct57 : Value}
    {f58 : Addr} {od58 an58 : Option Addr} {sl58 : Array (Option Value)} {oc58 kV58 dc58 pm58 cd58 ct58 : Value}
    {f59 : Addr} {od59 an59 : Option Addr} {sl59 : Array (Option Value)} {oc59 kV59 dc59 pm59 cd59 ct59 : Value}
    {f61 : Addr} {od61 an61 : Option Addr} {sl61 : Array (Option Value)} {oc61 kV61 dc61 pm61 cd61 ct61 : Value}
    {t_LOWER : Tok}
    {t_UPPER : Tok}
    {t_DIGITS : Tok}
    {t_LENGTH_LIMIT : Tok}
    {t_NUMBER_LIMIT : Tok}
    {t_TEXT_LIMIT : Tok}
    {t_COEFFICIENT_LIMIT : Tok}
    {t_OUTPUT_LIMIT : Tok}
    {t_NODE_LIMIT : Tok}
    {t_LEVEL_LIMIT : Tok}
    {A_RESERVED : Addr} {dd_RESERVED : Option Addr} {its_RESERVED : Array Value} {n_RESERVED : Nat} {sl_RESERVED : Array (Option Value)}
    {A_SIGNS : Addr} {dd_SIGNS : Option Addr} {its_SIGNS : Array Value} {n_SIGNS : Nat} {sl_SIGNS : Array (Option Value)}
    {A_QUANTIFIERS : Addr} {dd_QUANTIFIERS : Option Addr} {its_QUANTIFIERS : Array Value} {n_QUANTIFIERS : Nat} {sl_QUANTIFIERS : Array (Option Value)}
    {A_COMPARED : Addr} {dd_COMPARED : Option Addr} {its_COMPARED : Array Value} {n_COMPARED : Nat} {sl_COMPARED : Array (Option Value)}
    {CM fI_Malformed : Addr} {nm_Malformed q_Malformed : Str} {N_Malformed : Addr} {bs_Malformed bm_Malformed : List Value} {sn_Malformed : List Str} {sub_Malformed : List Value} {ab_Malformed : Bool} {col_Malformed : Option Bool} {dd_Malformed : Option Addr} {m0_Malformed m1_Malformed m2_Malformed m3_Malformed m5_Malformed : Option Value} {odi_Malformed ani_Malformed : Option Addr} {sli_Malformed : Array (Option Value)} {oci_Malformed kVi_Malformed dci_Malformed pmi_Malformed cdi_Malformed cti_Malformed : Value}
    {CO fI_Oversized : Addr} {nm_Oversized q_Oversized : Str} {N_Oversized : Addr} {bs_Oversized bm_Oversized : List Value} {sn_Oversized : List Str} {sub_Oversized : List Value} {ab_Oversized : Bool} {col_Oversized : Option Bool} {dd_Oversized : Option Addr} {m0_Oversized m1_Oversized m2_Oversized m3_Oversized m5_Oversized : Option Value} {odi_Oversized ani_Oversized : Option Addr} {sli_Oversized : Array (Option Value)} {oci_Oversized kVi_Oversized dci_Oversized pmi_Oversized cdi_Oversized cti_Oversized : Value}
      {aJ : Addr} {esJ : Array DictEntry} {nJ : Nat}
    (aC_Reader : PySem.W.nsIn K mainGlobals "Reader" = some (some (.ref CR))) (pg_Reader : PySem.W.plainGet K CR Str.empty = true) (hd_Reader : PySem.W.hasDictIn K CR = true) (po_Reader : PySem.W.plainOver K CR = true) (sa_Reader : PySem.W.findIn K (.ref CR) "__setattr__" = some (some (.builtin "object.__setattr__"))) (mk_Reader : PySem.W.makesIn K CR = true) (kc_Reader : PySem.W.keepIn K (.ref CR) = true) (no0_Reader : PySem.W.findIn K (.ref CR) "found" = some none) (no1_Reader : PySem.W.findIn K (.ref CR) "length" = some none) (no2_Reader : PySem.W.findIn K (.ref CR) "place" = some none)
    (a0 : PySem.W.nsIn K mainGlobals "_law_wide" = some (some (.ref f0))) (l0 : K.lookup f0 = some ⟨oc0, od0, .func (PySem.W.fnOf "_law_wide" "_law_wide" (C8.fnArgs s__law_wide) (C8.fnBody s__law_wide) (C8.fnScope s__law_wide) .none kV0 dc0 pm0 an0 cd0 ct0), sl0⟩) (c0 : PySem.W.codeIn K cd0 "_law_wide" = true) (k0 : PySem.W.keepIn K (.ref f0) = true)
    (a1 : PySem.W.nsIn K mainGlobals "_law_take" = some (some (.ref f1))) (l1 : K.lookup f1 = some ⟨oc1, od1, .func (PySem.W.fnOf "_law_take" "_law_take" (C8.fnArgs s__law_take) (C8.fnBody s__law_take) (C8.fnScope s__law_take) .none kV1 dc1 pm1 an1 cd1 ct1), sl1⟩) (c1 : PySem.W.codeIn K cd1 "_law_take" = true) (k1 : PySem.W.keepIn K (.ref f1) = true)
    (a2 : PySem.W.nsIn K mainGlobals "_law_pool" = some (some (.ref f2))) (l2 : K.lookup f2 = some ⟨oc2, od2, .func (PySem.W.fnOf "_law_pool" "_law_pool" (C8.fnArgs s__law_pool) (C8.fnBody s__law_pool) (C8.fnScope s__law_pool) .none kV2 dc2 pm2 an2 cd2 ct2), sl2⟩) (c2 : PySem.W.codeIn K cd2 "_law_pool" = true) (k2 : PySem.W.keepIn K (.ref f2) = true)
    (a3 : PySem.W.nsIn K mainGlobals "_law_reserved" = some (some (.ref f3))) (l3 : K.lookup f3 = some ⟨oc3, od3, .func (PySem.W.fnOf "_law_reserved" "_law_reserved" (C8.fnArgs s__law_reserved) (C8.fnBody s__law_reserved) (C8.fnScope s__law_reserved) .none kV3 dc3 pm3 an3 cd3 ct3), sl3⟩) (c3 : PySem.W.codeIn K cd3 "_law_reserved" = true) (k3 : PySem.W.keepIn K (.ref f3) = true)
    (a4 : PySem.W.nsIn K mainGlobals "_law_signs" = some (some (.ref f4))) (l4 : K.lookup f4 = some ⟨oc4, od4, .func (PySem.W.fnOf "_law_signs" "_law_signs" (C8.fnArgs s__law_signs) (C8.fnBody s__law_signs) (C8.fnScope s__law_signs) .none kV4 dc4 pm4 an4 cd4 ct4), sl4⟩) (c4 : PySem.W.codeIn K cd4 "_law_signs" = true) (k4 : PySem.W.keepIn K (.ref f4) = true)
    (a5 : PySem.W.nsIn K mainGlobals "_law_name" = some (some (.ref f5))) (l5 : K.lookup f5 = some ⟨oc5, od5, .func (PySem.W.fnOf "_law_name" "_law_name" (C8.fnArgs s__law_name) (C8.fnBody s__law_name) (C8.fnScope s__law_name) .none kV5 dc5 pm5 an5 cd5 ct5), sl5⟩) (c5 : PySem.W.codeIn K cd5 "_law_name" = true) (k5 : PySem.W.keepIn K (.ref f5) = true)
    (a6 : PySem.W.nsIn K mainGlobals "_law_space" = some (some (.ref f6))) (l6 : K.lookup f6 = some ⟨oc6, od6, .func (PySem.W.fnOf "_law_space" "_law_space" (C8.fnArgs s__law_space) (C8.fnBody s__law_space) (C8.fnScope s__law_space) .none kV6 dc6 pm6 an6 cd6 ct6), sl6⟩) (c6 : PySem.W.codeIn K cd6 "_law_space" = true) (k6 : PySem.W.keepIn K (.ref f6) = true)
    (a7 : PySem.W.nsIn K mainGlobals "_law_joins" = some (some (.ref f7))) (l7 : K.lookup f7 = some ⟨oc7, od7, .func (PySem.W.fnOf "_law_joins" "_law_joins" (C8.fnArgs s__law_joins) (C8.fnBody s__law_joins) (C8.fnScope s__law_joins) .none kV7 dc7 pm7 an7 cd7 ct7), sl7⟩) (c7 : PySem.W.codeIn K cd7 "_law_joins" = true) (k7 : PySem.W.keepIn K (.ref f7) = true)
    (a8 : PySem.W.nsIn K mainGlobals "_law_text" = some (some (.ref f8))) (l8 : K.lookup f8 = some ⟨oc8, od8, .func (PySem.W.fnOf "_law_text" "_law_text" (C8.fnArgs s__law_text) (C8.fnBody s__law_text) (C8.fnScope s__law_text) .none kV8 dc8 pm8 an8 cd8 ct8), sl8⟩) (c8 : PySem.W.codeIn K cd8 "_law_text" = true) (k8 : PySem.W.keepIn K (.ref f8) = true)
    (a9 : PySem.W.nsIn K mainGlobals "_law_term" = some (some (.ref f9))) (l9 : K.lookup f9 = some ⟨oc9, od9, .func (PySem.W.fnOf "_law_term" "_law_term" (C8.fnArgs s__law_term) (C8.fnBody s__law_term) (C8.fnScope s__law_term) .none kV9 dc9 pm9 an9 cd9 ct9), sl9⟩) (c9 : PySem.W.codeIn K cd9 "_law_term" = true) (k9 : PySem.W.keepIn K (.ref f9) = true)
    (a10 : PySem.W.nsIn K mainGlobals "_law_formula" = some (some (.ref f10))) (l10 : K.lookup f10 = some ⟨oc10, od10, .func (PySem.W.fnOf "_law_formula" "_law_formula" (C8.fnArgs s__law_formula) (C8.fnBody s__law_formula) (C8.fnScope s__law_formula) .none kV10 dc10 pm10 an10 cd10 ct10), sl10⟩) (c10 : PySem.W.codeIn K cd10 "_law_formula" = true) (k10 : PySem.W.keepIn K (.ref f10) = true)
    (a11 : PySem.W.nsIn K mainGlobals "stands_at" = some (some (.ref f11))) (l11 : K.lookup f11 = some ⟨oc11, od11, .func (PySem.W.fnOf "stands_at" "stands_at" (C8.fnArgs s_stands_at) (C8.fnBody s_stands_at) (C8.fnScope s_stands_at) .none kV11 dc11 pm11 an11 cd11 ct11), sl11⟩) (c11 : PySem.W.codeIn K cd11 "stands_at" = true) (k11 : PySem.W.keepIn K (.ref f11) = true)
    (a12 : PySem.W.nsIn K mainGlobals "run_end" = some (some (.ref f12))) (l12 : K.lookup f12 = some ⟨oc12, od12, .func (PySem.W.fnOf "run_end" "run_end" (C8.fnArgs s_run_end) (C8.fnBody s_run_end) (C8.fnScope s_run_end) .none kV12 dc12 pm12 an12 cd12 ct12), sl12⟩) (c12 : PySem.W.codeIn K cd12 "run_end" = true) (k12 : PySem.W.keepIn K (.ref f12) = true)
    (a13 : PySem.W.nsIn K mainGlobals "name_at" = some (some (.ref f13))) (l13 : K.lookup f13 = some ⟨oc13, od13, .func (PySem.W.fnOf "name_at" "name_at" (C8.fnArgs s_name_at) (C8.fnBody s_name_at) (C8.fnScope s_name_at) .none kV13 dc13 pm13 an13 cd13 ct13), sl13⟩) (c13 : PySem.W.codeIn K cd13 "name_at" = true) (k13 : PySem.W.keepIn K (.ref f13) = true)
    (a14 : PySem.W.nsIn K mainGlobals "word_at" = some (some (.ref f14))) (l14 : K.lookup f14 = some ⟨oc14, od14, .func (PySem.W.fnOf "word_at" "word_at" (C8.fnArgs s_word_at) (C8.fnBody s_word_at) (C8.fnScope s_word_at) .none kV14 dc14 pm14 an14 cd14 ct14), sl14⟩) (c14 : PySem.W.codeIn K cd14 "word_at" = true) (k14 : PySem.W.keepIn K (.ref f14) = true)
    (a15 : PySem.W.nsIn K mainGlobals "number_at" = some (some (.ref f15))) (l15 : K.lookup f15 = some ⟨oc15, od15, .func (PySem.W.fnOf "number_at" "number_at" (C8.fnArgs s_number_at) (C8.fnBody s_number_at) (C8.fnScope s_number_at) .none kV15 dc15 pm15 an15 cd15 ct15), sl15⟩) (c15 : PySem.W.codeIn K cd15 "number_at" = true) (k15 : PySem.W.keepIn K (.ref f15) = true)
    (a16 : PySem.W.nsIn K mainGlobals "sign_at" = some (some (.ref f16))) (l16 : K.lookup f16 = some ⟨oc16, od16, .func (PySem.W.fnOf "sign_at" "sign_at" (C8.fnArgs s_sign_at) (C8.fnBody s_sign_at) (C8.fnScope s_sign_at) .none kV16 dc16 pm16 an16 cd16 ct16), sl16⟩) (c16 : PySem.W.codeIn K cd16 "sign_at" = true) (k16 : PySem.W.keepIn K (.ref f16) = true)
    (a17 : PySem.W.nsIn K mainGlobals "token_at" = some (some (.ref f17))) (l17 : K.lookup f17 = some ⟨oc17, od17, .func (PySem.W.fnOf "token_at" "token_at" (C8.fnArgs s_token_at) (C8.fnBody s_token_at) (C8.fnScope s_token_at) .none kV17 dc17 pm17 an17 cd17 ct17), sl17⟩) (c17 : PySem.W.codeIn K cd17 "token_at" = true) (k17 : PySem.W.keepIn K (.ref f17) = true)
    (a18 : PySem.W.nsIn K mainGlobals "tokens" = some (some (.ref f18))) (l18 : K.lookup f18 = some ⟨oc18, od18, .func (PySem.W.fnOf "tokens" "tokens" (C8.fnArgs s_tokens) (C8.fnBody s_tokens) (C8.fnScope s_tokens) .none kV18 dc18 pm18 an18 cd18 ct18), sl18⟩) (c18 : PySem.W.codeIn K cd18 "tokens" = true) (k18 : PySem.W.keepIn K (.ref f18) = true)
    (a19 : PySem.W.nsIn K mainGlobals "in_range" = some (some (.ref f19))) (l19 : K.lookup f19 = some ⟨oc19, od19, .func (PySem.W.fnOf "in_range" "in_range" (C8.fnArgs s_in_range) (C8.fnBody s_in_range) (C8.fnScope s_in_range) .none kV19 dc19 pm19 an19 cd19 ct19), sl19⟩) (c19 : PySem.W.codeIn K cd19 "in_range" = true) (k19 : PySem.W.keepIn K (.ref f19) = true)
    (a20 : PySem.W.nsIn K mainGlobals "linear" = some (some (.ref f20))) (l20 : K.lookup f20 = some ⟨oc20, od20, .func (PySem.W.fnOf "linear" "linear" (C8.fnArgs s_linear) (C8.fnBody s_linear) (C8.fnScope s_linear) .none kV20 dc20 pm20 an20 cd20 ct20), sl20⟩) (c20 : PySem.W.codeIn K cd20 "linear" = true) (k20 : PySem.W.keepIn K (.ref f20) = true)
    (a21 : PySem.W.nsIn K mainGlobals "plus" = some (some (.ref f21))) (l21 : K.lookup f21 = some ⟨oc21, od21, .func (PySem.W.fnOf "plus" "plus" (C8.fnArgs s_plus) (C8.fnBody s_plus) (C8.fnScope s_plus) .none kV21 dc21 pm21 an21 cd21 ct21), sl21⟩) (c21 : PySem.W.codeIn K cd21 "plus" = true) (k21 : PySem.W.keepIn K (.ref f21) = true)
    (a22 : PySem.W.nsIn K mainGlobals "minus" = some (some (.ref f22))) (l22 : K.lookup f22 = some ⟨oc22, od22, .func (PySem.W.fnOf "minus" "minus" (C8.fnArgs s_minus) (C8.fnBody s_minus) (C8.fnScope s_minus) .none kV22 dc22 pm22 an22 cd22 ct22), sl22⟩) (c22 : PySem.W.codeIn K cd22 "minus" = true) (k22 : PySem.W.keepIn K (.ref f22) = true)
    (a23 : PySem.W.nsIn K mainGlobals "parts" = some (some (.ref f23))) (l23 : K.lookup f23 = some ⟨oc23, od23, .func (PySem.W.fnOf "parts" "parts" (C8.fnArgs s_parts) (C8.fnBody s_parts) (C8.fnScope s_parts) .none kV23 dc23 pm23 an23 cd23 ct23), sl23⟩) (c23 : PySem.W.codeIn K cd23 "parts" = true) (k23 : PySem.W.keepIn K (.ref f23) = true)
    (a24 : PySem.W.nsIn K mainGlobals "nodes" = some (some (.ref f24))) (l24 : K.lookup f24 = some ⟨oc24, od24, .func (PySem.W.fnOf "nodes" "nodes" (C8.fnArgs s_nodes) (C8.fnBody s_nodes) (C8.fnScope s_nodes) .none kV24 dc24 pm24 an24 cd24 ct24), sl24⟩) (c24 : PySem.W.codeIn K cd24 "nodes" = true) (k24 : PySem.W.keepIn K (.ref f24) = true)
    (a25 : PySem.W.nsIn K mainGlobals "node_count" = some (some (.ref f25))) (l25 : K.lookup f25 = some ⟨oc25, od25, .func (PySem.W.fnOf "node_count" "node_count" (C8.fnArgs s_node_count) (C8.fnBody s_node_count) (C8.fnScope s_node_count) .none kV25 dc25 pm25 an25 cd25 ct25), sl25⟩) (c25 : PySem.W.codeIn K cd25 "node_count" = true) (k25 : PySem.W.keepIn K (.ref f25) = true)
    (a26 : PySem.W.nsIn K mainGlobals "levels" = some (some (.ref f26))) (l26 : K.lookup f26 = some ⟨oc26, od26, .func (PySem.W.fnOf "levels" "levels" (C8.fnArgs s_levels) (C8.fnBody s_levels) (C8.fnScope s_levels) .none kV26 dc26 pm26 an26 cd26 ct26), sl26⟩) (c26 : PySem.W.codeIn K cd26 "levels" = true) (k26 : PySem.W.keepIn K (.ref f26) = true)
    (a27 : PySem.W.findIn K (.ref CR) "__init__" = some (some (.ref f27))) (i27 : PySem.W.isFn K (.ref f27) = true) (l27 : K.lookup f27 = some ⟨oc27, od27, .func (PySem.W.fnOf "__init__" "Reader.__init__" (C8.fnArgs s_Reader___init__) (C8.fnBody s_Reader___init__) (C8.fnScope s_Reader___init__) .none kV27 dc27 pm27 an27 cd27 ct27), sl27⟩) (c27 : PySem.W.codeIn K cd27 "Reader.__init__" = true) (k27 : PySem.W.keepIn K (.ref f27) = true)
    (a28 : PySem.W.findIn K (.ref CR) "is_done" = some (some (.ref f28))) (i28 : PySem.W.isFn K (.ref f28) = true) (l28 : K.lookup f28 = some ⟨oc28, od28, .func (PySem.W.fnOf "is_done" "Reader.is_done" (C8.fnArgs s_Reader_is_done) (C8.fnBody s_Reader_is_done) (C8.fnScope s_Reader_is_done) .none kV28 dc28 pm28 an28 cd28 ct28), sl28⟩) (c28 : PySem.W.codeIn K cd28 "Reader.is_done" = true) (k28 : PySem.W.keepIn K (.ref f28) = true)
    (a29 : PySem.W.findIn K (.ref CR) "spot" = some (some (.ref f29))) (i29 : PySem.W.isFn K (.ref f29) = true) (l29 : K.lookup f29 = some ⟨oc29, od29, .func (PySem.W.fnOf "spot" "Reader.spot" (C8.fnArgs s_Reader_spot) (C8.fnBody s_Reader_spot) (C8.fnScope s_Reader_spot) .none kV29 dc29 pm29 an29 cd29 ct29), sl29⟩) (c29 : PySem.W.codeIn K cd29 "Reader.spot" = true) (k29 : PySem.W.keepIn K (.ref f29) = true)
    (a30 : PySem.W.findIn K (.ref CR) "has_kind" = some (some (.ref f30))) (i30 : PySem.W.isFn K (.ref f30) = true) (l30 : K.lookup f30 = some ⟨oc30, od30, .func (PySem.W.fnOf "has_kind" "Reader.has_kind" (C8.fnArgs s_Reader_has_kind) (C8.fnBody s_Reader_has_kind) (C8.fnScope s_Reader_has_kind) .none kV30 dc30 pm30 an30 cd30 ct30), sl30⟩) (c30 : PySem.W.codeIn K cd30 "Reader.has_kind" = true) (k30 : PySem.W.keepIn K (.ref f30) = true)
    (a31 : PySem.W.findIn K (.ref CR) "sees" = some (some (.ref f31))) (i31 : PySem.W.isFn K (.ref f31) = true) (l31 : K.lookup f31 = some ⟨oc31, od31, .func (PySem.W.fnOf "sees" "Reader.sees" (C8.fnArgs s_Reader_sees) (C8.fnBody s_Reader_sees) (C8.fnScope s_Reader_sees) (.ref dT31) kV31 dc31 pm31 an31 cd31 ct31), sl31⟩) (c31 : PySem.W.codeIn K cd31 "Reader.sees" = true) (k31 : PySem.W.keepIn K (.ref f31) = true)
    (gl_d31 : K.lookup dT31 = some ⟨.type "tuple", dTd31, .seq dTi31 dTn31, dTs31⟩) (gv_d31 : Vals [.int 0] dTi31.toList)
    (a32 : PySem.W.findIn K (.ref CR) "passes" = some (some (.ref f32))) (i32 : PySem.W.isFn K (.ref f32) = true) (l32 : K.lookup f32 = some ⟨oc32, od32, .func (PySem.W.fnOf "passes" "Reader.passes" (C8.fnArgs s_Reader_passes) (C8.fnBody s_Reader_passes) (C8.fnScope s_Reader_passes) .none kV32 dc32 pm32 an32 cd32 ct32), sl32⟩) (c32 : PySem.W.codeIn K cd32 "Reader.passes" = true) (k32 : PySem.W.keepIn K (.ref f32) = true)
    (a33 : PySem.W.findIn K (.ref CR) "skip" = some (some (.ref f33))) (i33 : PySem.W.isFn K (.ref f33) = true) (l33 : K.lookup f33 = some ⟨oc33, od33, .func (PySem.W.fnOf "skip" "Reader.skip" (C8.fnArgs s_Reader_skip) (C8.fnBody s_Reader_skip) (C8.fnScope s_Reader_skip) .none kV33 dc33 pm33 an33 cd33 ct33), sl33⟩) (c33 : PySem.W.codeIn K cd33 "Reader.skip" = true) (k33 : PySem.W.keepIn K (.ref f33) = true)
    (a34 : PySem.W.findIn K (.ref CR) "take" = some (some (.ref f34))) (i34 : PySem.W.isFn K (.ref f34) = true) (l34 : K.lookup f34 = some ⟨oc34, od34, .func (PySem.W.fnOf "take" "Reader.take" (C8.fnArgs s_Reader_take) (C8.fnBody s_Reader_take) (C8.fnScope s_Reader_take) .none kV34 dc34 pm34 an34 cd34 ct34), sl34⟩) (c34 : PySem.W.codeIn K cd34 "Reader.take" = true) (k34 : PySem.W.keepIn K (.ref f34) = true)
    (a35 : PySem.W.nsIn K mainGlobals "read_output" = some (some (.ref f35))) (l35 : K.lookup f35 = some ⟨oc35, od35, .func (PySem.W.fnOf "read_output" "read_output" (C8.fnArgs s_read_output) (C8.fnBody s_read_output) (C8.fnScope s_read_output) .none kV35 dc35 pm35 an35 cd35 ct35), sl35⟩) (c35 : PySem.W.codeIn K cd35 "read_output" = true) (k35 : PySem.W.keepIn K (.ref f35) = true)
    (a36 : PySem.W.nsIn K mainGlobals "read_names" = some (some (.ref f36))) (l36 : K.lookup f36 = some ⟨oc36, od36, .func (PySem.W.fnOf "read_names" "read_names" (C8.fnArgs s_read_names) (C8.fnBody s_read_names) (C8.fnScope s_read_names) .none kV36 dc36 pm36 an36 cd36 ct36), sl36⟩) (c36 : PySem.W.codeIn K cd36 "read_names" = true) (k36 : PySem.W.keepIn K (.ref f36) = true)
    (a37 : PySem.W.nsIn K mainGlobals "read_part" = some (some (.ref f37))) (l37 : K.lookup f37 = some ⟨oc37, od37, .func (PySem.W.fnOf "read_part" "read_part" (C8.fnArgs s_read_part) (C8.fnBody s_read_part) (C8.fnScope s_read_part) .none kV37 dc37 pm37 an37 cd37 ct37), sl37⟩) (c37 : PySem.W.codeIn K cd37 "read_part" = true) (k37 : PySem.W.keepIn K (.ref f37) = true)
    (a38 : PySem.W.nsIn K mainGlobals "read_sign" = some (some (.ref f38))) (l38 : K.lookup f38 = some ⟨oc38, od38, .func (PySem.W.fnOf "read_sign" "read_sign" (C8.fnArgs s_read_sign) (C8.fnBody s_read_sign) (C8.fnScope s_read_sign) .none kV38 dc38 pm38 an38 cd38 ct38), sl38⟩) (c38 : PySem.W.codeIn K cd38 "read_sign" = true) (k38 : PySem.W.keepIn K (.ref f38) = true)
    (a39 : PySem.W.nsIn K mainGlobals "read_sum" = some (some (.ref f39))) (l39 : K.lookup f39 = some ⟨oc39, od39, .func (PySem.W.fnOf "read_sum" "read_sum" (C8.fnArgs s_read_sum) (C8.fnBody s_read_sum) (C8.fnScope s_read_sum) .none kV39 dc39 pm39 an39 cd39 ct39), sl39⟩) (c39 : PySem.W.codeIn K cd39 "read_sum" = true) (k39 : PySem.W.keepIn K (.ref f39) = true)
    (a40 : PySem.W.nsIn K mainGlobals "compared" = some (some (.ref f40))) (l40 : K.lookup f40 = some ⟨oc40, od40, .func (PySem.W.fnOf "compared" "compared" (C8.fnArgs s_compared) (C8.fnBody s_compared) (C8.fnScope s_compared) .none kV40 dc40 pm40 an40 cd40 ct40), sl40⟩) (c40 : PySem.W.codeIn K cd40 "compared" = true) (k40 : PySem.W.keepIn K (.ref f40) = true)
    (a41 : PySem.W.nsIn K mainGlobals "read_comparison" = some (some (.ref f41))) (l41 : K.lookup f41 = some ⟨oc41, od41, .func (PySem.W.fnOf "read_comparison" "read_comparison" (C8.fnArgs s_read_comparison) (C8.fnBody s_read_comparison) (C8.fnScope s_read_comparison) .none kV41 dc41 pm41 an41 cd41 ct41), sl41⟩) (c41 : PySem.W.codeIn K cd41 "read_comparison" = true) (k41 : PySem.W.keepIn K (.ref f41) = true)
    (a42 : PySem.W.nsIn K mainGlobals "read_power" = some (some (.ref f42))) (l42 : K.lookup f42 = some ⟨oc42, od42, .func (PySem.W.fnOf "read_power" "read_power" (C8.fnArgs s_read_power) (C8.fnBody s_read_power) (C8.fnScope s_read_power) .none kV42 dc42 pm42 an42 cd42 ct42), sl42⟩) (c42 : PySem.W.codeIn K cd42 "read_power" = true) (k42 : PySem.W.keepIn K (.ref f42) = true)
    (a43 : PySem.W.nsIn K mainGlobals "read_call" = some (some (.ref f43))) (l43 : K.lookup f43 = some ⟨oc43, od43, .func (PySem.W.fnOf "read_call" "read_call" (C8.fnArgs s_read_call) (C8.fnBody s_read_call) (C8.fnScope s_read_call) .none kV43 dc43 pm43 an43 cd43 ct43), sl43⟩) (c43 : PySem.W.codeIn K cd43 "read_call" = true) (k43 : PySem.W.keepIn K (.ref f43) = true)
    (a44 : PySem.W.nsIn K mainGlobals "read_word" = some (some (.ref f44))) (l44 : K.lookup f44 = some ⟨oc44, od44, .func (PySem.W.fnOf "read_word" "read_word" (C8.fnArgs s_read_word) (C8.fnBody s_read_word) (C8.fnScope s_read_word) .none kV44 dc44 pm44 an44 cd44 ct44), sl44⟩) (c44 : PySem.W.codeIn K cd44 "read_word" = true) (k44 : PySem.W.keepIn K (.ref f44) = true)
    (a45 : PySem.W.nsIn K mainGlobals "read_unit" = some (some (.ref f45))) (l45 : K.lookup f45 = some ⟨oc45, od45, .func (PySem.W.fnOf "read_unit" "read_unit" (C8.fnArgs s_read_unit) (C8.fnBody s_read_unit) (C8.fnScope s_read_unit) .none kV45 dc45 pm45 an45 cd45 ct45), sl45⟩) (c45 : PySem.W.codeIn K cd45 "read_unit" = true) (k45 : PySem.W.keepIn K (.ref f45) = true)
    (a46 : PySem.W.nsIn K mainGlobals "read_both" = some (some (.ref f46))) (l46 : K.lookup f46 = some ⟨oc46, od46, .func (PySem.W.fnOf "read_both" "read_both" (C8.fnArgs s_read_both) (C8.fnBody s_read_both) (C8.fnScope s_read_both) .none kV46 dc46 pm46 an46 cd46 ct46), sl46⟩) (c46 : PySem.W.codeIn K cd46 "read_both" = true) (k46 : PySem.W.keepIn K (.ref f46) = true)
    (a47 : PySem.W.nsIn K mainGlobals "read_either" = some (some (.ref f47))) (l47 : K.lookup f47 = some ⟨oc47, od47, .func (PySem.W.fnOf "read_either" "read_either" (C8.fnArgs s_read_either) (C8.fnBody s_read_either) (C8.fnScope s_read_either) .none kV47 dc47 pm47 an47 cd47 ct47), sl47⟩) (c47 : PySem.W.codeIn K cd47 "read_either" = true) (k47 : PySem.W.keepIn K (.ref f47) = true)
    (a48 : PySem.W.nsIn K mainGlobals "read_implied" = some (some (.ref f48))) (l48 : K.lookup f48 = some ⟨oc48, od48, .func (PySem.W.fnOf "read_implied" "read_implied" (C8.fnArgs s_read_implied) (C8.fnBody s_read_implied) (C8.fnScope s_read_implied) .none kV48 dc48 pm48 an48 cd48 ct48), sl48⟩) (c48 : PySem.W.codeIn K cd48 "read_implied" = true) (k48 : PySem.W.keepIn K (.ref f48) = true)
    (a49 : PySem.W.nsIn K mainGlobals "read_formula" = some (some (.ref f49))) (l49 : K.lookup f49 = some ⟨oc49, od49, .func (PySem.W.fnOf "read_formula" "read_formula" (C8.fnArgs s_read_formula) (C8.fnBody s_read_formula) (C8.fnScope s_read_formula) .none kV49 dc49 pm49 an49 cd49 ct49), sl49⟩) (c49 : PySem.W.codeIn K cd49 "read_formula" = true) (k49 : PySem.W.keepIn K (.ref f49) = true)
    (a50 : PySem.W.nsIn K mainGlobals "read_quantified" = some (some (.ref f50))) (l50 : K.lookup f50 = some ⟨oc50, od50, .func (PySem.W.fnOf "read_quantified" "read_quantified" (C8.fnArgs s_read_quantified) (C8.fnBody s_read_quantified) (C8.fnScope s_read_quantified) .none kV50 dc50 pm50 an50 cd50 ct50), sl50⟩) (c50 : PySem.W.codeIn K cd50 "read_quantified" = true) (k50 : PySem.W.keepIn K (.ref f50) = true)
    (a52 : PySem.W.nsIn K mainGlobals "check_size" = some (some (.ref f52))) (l52 : K.lookup f52 = some ⟨oc52, od52, .func (PySem.W.fnOf "check_size" "check_size" (C8.fnArgs s_check_size) (C8.fnBody s_check_size) (C8.fnScope s_check_size) .none kV52 dc52 pm52 an52 cd52 ct52), sl52⟩) (c52 : PySem.W.codeIn K cd52 "check_size" = true) (k52 : PySem.W.keepIn K (.ref f52) = true)
    (a53 : PySem.W.nsIn K mainGlobals "parse_formula" = some (some (.ref f53))) (l53 : K.lookup f53 = some ⟨oc53, od53, .func (PySem.W.fnOf "parse_formula" "parse_formula" (C8.fnArgs s_parse_formula) (C8.fnBody s_parse_formula) (C8.fnScope s_parse_formula) .none kV53 dc53 pm53 an53 cd53 ct53), sl53⟩) (c53 : PySem.W.codeIn K cd53 "parse_formula" = true) (k53 : PySem.W.keepIn K (.ref f53) = true)
    (a54 : PySem.W.nsIn K mainGlobals "_law_side" = some (some (.ref f54))) (l54 : K.lookup f54 = some ⟨oc54, od54, .func (PySem.W.fnOf "_law_side" "_law_side" (C8.fnArgs s__law_side) (C8.fnBody s__law_side) (C8.fnScope s__law_side) .none kV54 dc54 pm54 an54 cd54 ct54), sl54⟩) (c54 : PySem.W.codeIn K cd54 "_law_side" = true) (k54 : PySem.W.keepIn K (.ref f54) = true)
    (a55 : PySem.W.nsIn K mainGlobals "_law_compare" = some (some (.ref f55))) (l55 : K.lookup f55 = some ⟨oc55, od55, .func (PySem.W.fnOf "_law_compare" "_law_compare" (C8.fnArgs s__law_compare) (C8.fnBody s__law_compare) (C8.fnScope s__law_compare) .none kV55 dc55 pm55 an55 cd55 ct55), sl55⟩) (c55 : PySem.W.codeIn K cd55 "_law_compare" = true) (k55 : PySem.W.keepIn K (.ref f55) = true)
    (a56 : PySem.W.nsIn K mainGlobals "_law_turned" = some (some (.ref f56))) (l56 : K.lookup f56 = some ⟨oc56, od56, .func (PySem.W.fnOf "_law_turned" "_law_turned" (C8.fnArgs s__law_turned) (C8.fnBody s__law_turned) (C8.fnScope s__law_turned) .none kV56 dc56 pm56 an56 cd56 ct56), sl56⟩) (c56 : PySem.W.codeIn K cd56 "_law_turned" = true) (k56 : PySem.W.keepIn K (.ref f56) = true)
    (a57 : PySem.W.nsIn K mainGlobals "_law_spell_atom" = some (some (.ref f57))) (l57 : K.lookup f57 = some ⟨oc57, od57, .func (PySem.W.fnOf "_law_spell_atom" "_law_spell_atom" (C8.fnArgs s__law_spell_atom) (C8.fnBody s__law_spell_atom) (C8.fnScope s__law_spell_atom) .none kV57 dc57 pm57 an57 cd57 ct57), sl57⟩) (c57 : PySem.W.codeIn K cd57 "_law_spell_atom" = true) (k57 : PySem.W.keepIn K (.ref f57) = true)
    (a58 : PySem.W.nsIn K mainGlobals "_law_spell" = some (some (.ref f58))) (l58 : K.lookup f58 = some ⟨oc58, od58, .func (PySem.W.fnOf "_law_spell" "_law_spell" (C8.fnArgs s__law_spell) (C8.fnBody s__law_spell) (C8.fnScope s__law_spell) .none kV58 dc58 pm58 an58 cd58 ct58), sl58⟩) (c58 : PySem.W.codeIn K cd58 "_law_spell" = true) (k58 : PySem.W.keepIn K (.ref f58) = true)
    (a59 : PySem.W.nsIn K mainGlobals "_law_spell_not" = some (some (.ref f59))) (l59 : K.lookup f59 = some ⟨oc59, od59, .func (PySem.W.fnOf "_law_spell_not" "_law_spell_not" (C8.fnArgs s__law_spell_not) (C8.fnBody s__law_spell_not) (C8.fnScope s__law_spell_not) .none kV59 dc59 pm59 an59 cd59 ct59), sl59⟩) (c59 : PySem.W.codeIn K cd59 "_law_spell_not" = true) (k59 : PySem.W.keepIn K (.ref f59) = true)
    (a61 : PySem.W.nsIn K mainGlobals "law" = some (some (.ref f61))) (l61 : K.lookup f61 = some ⟨oc61, od61, .func (PySem.W.fnOf "law" "law" (C8.fnArgs s_law) (C8.fnBody s_law) (C8.fnScope s_law) .none kV61 dc61 pm61 an61 cd61 ct61), sl61⟩) (c61 : PySem.W.codeIn K cd61 "law" = true) (k61 : PySem.W.keepIn K (.ref f61) = true)
    (zz_abs : PySem.W.nsIn K mainGlobals "abs" = some none)
    (zz_all : PySem.W.nsIn K mainGlobals "all" = some none)
    (zz_int : PySem.W.nsIn K mainGlobals "int" = some none)
    (zz_isinstance : PySem.W.nsIn K mainGlobals "isinstance" = some none)
    (zz_len : PySem.W.nsIn K mainGlobals "len" = some none)
    (zz_list : PySem.W.nsIn K mainGlobals "list" = some none)
    (zz_max : PySem.W.nsIn K mainGlobals "max" = some none)
    (zz_min : PySem.W.nsIn K mainGlobals "min" = some none)
    (zz_range : PySem.W.nsIn K mainGlobals "range" = some none)
    (zz_reversed : PySem.W.nsIn K mainGlobals "reversed" = some none)
    (zz_sorted : PySem.W.nsIn K mainGlobals "sorted" = some none)
    (zz_str : PySem.W.nsIn K mainGlobals "str" = some none)
    (zz_tuple : PySem.W.nsIn K mainGlobals "tuple" = some none)
    (gg_LOWER : PySem.W.nsIn K mainGlobals "LOWER" = some (some (.str (S LOW) t_LOWER)))
    (gg_UPPER : PySem.W.nsIn K mainGlobals "UPPER" = some (some (.str (S UPP) t_UPPER)))
    (gg_DIGITS : PySem.W.nsIn K mainGlobals "DIGITS" = some (some (.str (S DIG) t_DIGITS)))
    (gg_LENGTH_LIMIT : PySem.W.nsIn K mainGlobals "LENGTH_LIMIT" = some (some (.int 12 t_LENGTH_LIMIT)))
    (gg_NUMBER_LIMIT : PySem.W.nsIn K mainGlobals "NUMBER_LIMIT" = some (some (.int 255 t_NUMBER_LIMIT)))
    (gg_TEXT_LIMIT : PySem.W.nsIn K mainGlobals "TEXT_LIMIT" = some (some (.int 4000 t_TEXT_LIMIT)))
    (gg_COEFFICIENT_LIMIT : PySem.W.nsIn K mainGlobals "COEFFICIENT_LIMIT" = some (some (.int 255 t_COEFFICIENT_LIMIT)))
    (gg_OUTPUT_LIMIT : PySem.W.nsIn K mainGlobals "OUTPUT_LIMIT" = some (some (.int 9 t_OUTPUT_LIMIT)))
    (gg_NODE_LIMIT : PySem.W.nsIn K mainGlobals "NODE_LIMIT" = some (some (.int 200 t_NODE_LIMIT)))
    (gg_LEVEL_LIMIT : PySem.W.nsIn K mainGlobals "LEVEL_LIMIT" = some (some (.int 30 t_LEVEL_LIMIT)))
    (gg_RESERVED : PySem.W.nsIn K mainGlobals "RESERVED" = some (some (.ref A_RESERVED))) (gl_RESERVED : K.lookup A_RESERVED = some ⟨.type "tuple", dd_RESERVED, .seq its_RESERVED n_RESERVED, sl_RESERVED⟩) (gv_RESERVED : Vals (RES.map vS) its_RESERVED.toList) (gz_RESERVED : its_RESERVED.size ≤ sizeLine)
    (gg_SIGNS : PySem.W.nsIn K mainGlobals "SIGNS" = some (some (.ref A_SIGNS))) (gl_SIGNS : K.lookup A_SIGNS = some ⟨.type "tuple", dd_SIGNS, .seq its_SIGNS n_SIGNS, sl_SIGNS⟩) (gv_SIGNS : Vals (SGN.map vS) its_SIGNS.toList) (gz_SIGNS : its_SIGNS.size ≤ sizeLine)
    (gg_QUANTIFIERS : PySem.W.nsIn K mainGlobals "QUANTIFIERS" = some (some (.ref A_QUANTIFIERS))) (gl_QUANTIFIERS : K.lookup A_QUANTIFIERS = some ⟨.type "tuple", dd_QUANTIFIERS, .seq its_QUANTIFIERS n_QUANTIFIERS, sl_QUANTIFIERS⟩) (gv_QUANTIFIERS : Vals ([cs "some", cs "all"].map vS) its_QUANTIFIERS.toList) (gz_QUANTIFIERS : its_QUANTIFIERS.size ≤ sizeLine)
    (gg_COMPARED : PySem.W.nsIn K mainGlobals "COMPARED" = some (some (.ref A_COMPARED))) (gl_COMPARED : K.lookup A_COMPARED = some ⟨.type "tuple", dd_COMPARED, .seq its_COMPARED n_COMPARED, sl_COMPARED⟩) (gv_COMPARED : Vals (CMPD.map vS) its_COMPARED.toList) (gz_COMPARED : its_COMPARED.size ≤ sizeLine)
    (xa_Malformed : PySem.W.nsIn K mainGlobals "Malformed" = some (some (.ref CM))) (xc_Malformed : K.lookup CM = some (excClassObj nm_Malformed q_Malformed CM N_Malformed bs_Malformed bm_Malformed true sn_Malformed sub_Malformed ab_Malformed col_Malformed dd_Malformed m0_Malformed m1_Malformed m2_Malformed m3_Malformed m5_Malformed "ValueError.__new__")) (xr_Malformed : PySem.HandSPX.refsVE bm_Malformed = true) (xs_Malformed : PySem.W.findIn K (.ref CM) "__setattr__" = some (some (.builtin "object.__setattr__"))) (xg_Malformed : PySem.W.findIn K (.ref CM) "__getattribute__" = some (some (.builtin "BaseException.__getattribute__"))) (xh_Malformed : PySem.W.findIn K (.ref CM) "__getattr__" = some none) (xn_Malformed : PySem.W.findIn K (.ref CM) "at" = some none) (xi_Malformed : PySem.W.findIn K (.ref CM) "__init__" = some (some (.ref fI_Malformed))) (xt_Malformed : PySem.W.typeIn K (.ref fI_Malformed) = some (.type "function")) (xl_Malformed : K.lookup fI_Malformed = some ⟨oci_Malformed, odi_Malformed, .func (PySem.W.fnOf "__init__" "Malformed.__init__" (C8.fnArgs si_Malformed) (C8.fnBody si_Malformed) (C8.fnScope si_Malformed) .none kVi_Malformed dci_Malformed pmi_Malformed ani_Malformed cdi_Malformed cti_Malformed), sli_Malformed⟩) (xq_Malformed : PySem.W.codeIn K cdi_Malformed "Malformed.__init__" = true) (xk_Malformed : PySem.W.keepIn K (.ref CM) = true) (xe_Malformed : PySem.W.subIn K (.ref CM) (.type "BaseException") = some true) (xy_Malformed : PySem.W.typeIn K (.ref CM) = some (.type "type")) (xd_Malformed : PySem.W.hasDictIn K CM = true) (xz_Malformed : PySem.W.isClsIn K CM = true)
    (xa_Oversized : PySem.W.nsIn K mainGlobals "Oversized" = some (some (.ref CO))) (xc_Oversized : K.lookup CO = some (excClassObj nm_Oversized q_Oversized CO N_Oversized bs_Oversized bm_Oversized true sn_Oversized sub_Oversized ab_Oversized col_Oversized dd_Oversized m0_Oversized m1_Oversized m2_Oversized m3_Oversized m5_Oversized "ValueError.__new__")) (xr_Oversized : PySem.HandSPX.refsVE bm_Oversized = true) (xs_Oversized : PySem.W.findIn K (.ref CO) "__setattr__" = some (some (.builtin "object.__setattr__"))) (xg_Oversized : PySem.W.findIn K (.ref CO) "__getattribute__" = some (some (.builtin "BaseException.__getattribute__"))) (xh_Oversized : PySem.W.findIn K (.ref CO) "__getattr__" = some none) (xn_Oversized : PySem.W.findIn K (.ref CO) "limit" = some none) (xi_Oversized : PySem.W.findIn K (.ref CO) "__init__" = some (some (.ref fI_Oversized))) (xt_Oversized : PySem.W.typeIn K (.ref fI_Oversized) = some (.type "function")) (xl_Oversized : K.lookup fI_Oversized = some ⟨oci_Oversized, odi_Oversized, .func (PySem.W.fnOf "__init__" "Oversized.__init__" (C8.fnArgs si_Oversized) (C8.fnBody si_Oversized) (C8.fnScope si_Oversized) .none kVi_Oversized dci_Oversized pmi_Oversized ani_Oversized cdi_Oversized cti_Oversized), sli_Oversized⟩) (xq_Oversized : PySem.W.codeIn K cdi_Oversized "Oversized.__init__" = true) (xk_Oversized : PySem.W.keepIn K (.ref CO) = true) (xe_Oversized : PySem.W.subIn K (.ref CO) (.type "BaseException") = some true) (xy_Oversized : PySem.W.typeIn K (.ref CO) = some (.type "type")) (xd_Oversized : PySem.W.hasDictIn K CO = true) (xz_Oversized : PySem.W.isClsIn K CO = true)
    (gg_JOINTS : PySem.W.nsIn K mainGlobals "JOINTS" = some (some (.ref aJ)))
    (jlJ : K.lookup aJ = some ⟨.type "dict", none, .dict esJ nJ, #[]⟩)
    (jkJ : PySem.W.KeysLit w.params esJ.toList)
    (jwJ : (aJ == sysModules) = false)
    (ksJ : KeysAre esJ.toList ["and", "or", "imp", "iff"]) :
    ∃ fd : FuncData, (∀ (s : Shared) (v : Value), BindsTo s fd ⟨[v], []⟩ [("script", v)]) ∧ ∀ base : Heap, K.In base → base.Ns mainGlobals mg → FnOk l.prog w K mg base C8.CX0 196 fa fd ["script"] (spLaw K) := by
  have e := hfa.symm.trans (PySem.W.mg_of X G a61)
  cases e
  have D0 : C8.Def K mg "_law_wide" s__law_wide f0 _ := ⟨⟨_, _, _, _, _, _, _, _, _, _, rfl, l0, c0⟩, PySem.W.mg_of X G a0, k0⟩
  have b0 := C8.Fun.binds D0.fn rfl (ps := ["script", "k"]) fun _ _ _ _ _ _ us hl => match us, hl with | [_, _], _ => rfl
  have D1 : C8.Def K mg "_law_take" s__law_take f1 _ := ⟨⟨_, _, _, _, _, _, _, _, _, _, rfl, l1, c1⟩, PySem.W.mg_of X G a1, k1⟩
  have b1 := C8.Fun.binds D1.fn rfl (ps := ["pool", "most"]) fun _ _ _ _ _ _ us hl => match us, hl with | [_, _], _ => rfl
  have D2 : C8.Def K mg "_law_pool" s__law_pool f2 _ := ⟨⟨_, _, _, _, _, _, _, _, _, _, rfl, l2, c2⟩, PySem.W.mg_of X G a2, k2⟩
  have b2 := C8.Fun.binds D2.fn rfl (ps := ["script"]) fun _ _ _ _ _ _ us hl => match us, hl with | [_], _ => rfl
  have D3 : C8.Def K mg "_law_reserved" s__law_reserved f3 _ := ⟨⟨_, _, _, _, _, _, _, _, _, _, rfl, l3, c3⟩, PySem.W.mg_of X G a3, k3⟩
  have b3 := C8.Fun.binds D3.fn rfl (ps := []) fun _ _ _ _ _ _ us hl => match us, hl with | [], _ => rfl
  have D4 : C8.Def K mg "_law_signs" s__law_signs f4 _ := ⟨⟨_, _, _, _, _, _, _, _, _, _, rfl, l4, c4⟩, PySem.W.mg_of X G a4, k4⟩
  have b4 := C8.Fun.binds D4.fn rfl (ps := []) fun _ _ _ _ _ _ us hl => match us, hl with | [], _ => rfl
  have D5 : C8.Def K mg "_law_name" s__law_name f5 _ := ⟨⟨_, _, _, _, _, _, _, _, _, _, rfl, l5, c5⟩, PySem.W.mg_of X G a5, k5⟩
  have b5 := C8.Fun.binds D5.fn rfl (ps := ["pool"]) fun _ _ _ _ _ _ us hl => match us, hl with | [_], _ => rfl
  have D6 : C8.Def K mg "_law_space" s__law_space f6 _ := ⟨⟨_, _, _, _, _, _, _, _, _, _, rfl, l6, c6⟩, PySem.W.mg_of X G a6, k6⟩
  have b6 := C8.Fun.binds D6.fn rfl (ps := ["pool", "needed"]) fun _ _ _ _ _ _ us hl => match us, hl with | [_, _], _ => rfl
  have D7 : C8.Def K mg "_law_joins" s__law_joins f7 _ := ⟨⟨_, _, _, _, _, _, _, _, _, _, rfl, l7, c7⟩, PySem.W.mg_of X G a7, k7⟩
  have b7 := C8.Fun.binds D7.fn rfl (ps := ["left", "right"]) fun _ _ _ _ _ _ us hl => match us, hl with | [_, _], _ => rfl
  have D8 : C8.Def K mg "_law_text" s__law_text f8 _ := ⟨⟨_, _, _, _, _, _, _, _, _, _, rfl, l8, c8⟩, PySem.W.mg_of X G a8, k8⟩
  have b8 := C8.Fun.binds D8.fn rfl (ps := ["pool", "parts_v"]) fun _ _ _ _ _ _ us hl => match us, hl with | [_, _], _ => rfl
  have D9 : C8.Def K mg "_law_term" s__law_term f9 _ := ⟨⟨_, _, _, _, _, _, _, _, _, _, rfl, l9, c9⟩, PySem.W.mg_of X G a9, k9⟩
  have b9 := C8.Fun.binds D9.fn rfl (ps := ["pool", "names"]) fun _ _ _ _ _ _ us hl => match us, hl with | [_, _], _ => rfl
  have D10 : C8.Def K mg "_law_formula" s__law_formula f10 _ := ⟨⟨_, _, _, _, _, _, _, _, _, _, rfl, l10, c10⟩, PySem.W.mg_of X G a10, k10⟩
  have b10 := C8.Fun.binds D10.fn rfl (ps := ["pool", "names", "depth"]) fun _ _ _ _ _ _ us hl => match us, hl with | [_, _, _], _ => rfl
  have D11 : C8.Def K mg "stands_at" s_stands_at f11 _ := ⟨⟨_, _, _, _, _, _, _, _, _, _, rfl, l11, c11⟩, PySem.W.mg_of X G a11, k11⟩
  have b11 := C8.Fun.binds D11.fn rfl (ps := ["text", "at", "characters"]) fun _ _ _ _ _ _ us hl => match us, hl with | [_, _, _], _ => rfl
  have D12 : C8.Def K mg "run_end" s_run_end f12 _ := ⟨⟨_, _, _, _, _, _, _, _, _, _, rfl, l12, c12⟩, PySem.W.mg_of X G a12, k12⟩
  have b12 := C8.Fun.binds D12.fn rfl (ps := ["text", "at", "characters"]) fun _ _ _ _ _ _ us hl => match us, hl with | [_, _, _], _ => rfl
  have D13 : C8.Def K mg "name_at" s_name_at f13 _ := ⟨⟨_, _, _, _, _, _, _, _, _, _, rfl, l13, c13⟩, PySem.W.mg_of X G a13, k13⟩
  have b13 := C8.Fun.binds D13.fn rfl (ps := ["text", "at"]) fun _ _ _ _ _ _ us hl => match us, hl with | [_, _], _ => rfl
  have D14 : C8.Def K mg "word_at" s_word_at f14 _ := ⟨⟨_, _, _, _, _, _, _, _, _, _, rfl, l14, c14⟩, PySem.W.mg_of X G a14, k14⟩
  have b14 := C8.Fun.binds D14.fn rfl (ps := ["text", "at"]) fun _ _ _ _ _ _ us hl => match us, hl with | [_, _], _ => rfl
  have D15 : C8.Def K mg "number_at" s_number_at f15 _ := ⟨⟨_, _, _, _, _, _, _, _, _, _, rfl, l15, c15⟩, PySem.W.mg_of X G a15, k15⟩
  have b15 := C8.Fun.binds D15.fn rfl (ps := ["text", "at"]) fun _ _ _ _ _ _ us hl => match us, hl with | [_, _], _ => rfl
  have D16 : C8.Def K mg "sign_at" s_sign_at f16 _ := ⟨⟨_, _, _, _, _, _, _, _, _, _, rfl, l16, c16⟩, PySem.W.mg_of X G a16, k16⟩
  have b16 := C8.Fun.binds D16.fn rfl (ps := ["text", "at"]) fun _ _ _ _ _ _ us hl => match us, hl with | [_, _], _ => rfl
  have D17 : C8.Def K mg "token_at" s_token_at f17 _ := ⟨⟨_, _, _, _, _, _, _, _, _, _, rfl, l17, c17⟩, PySem.W.mg_of X G a17, k17⟩
  have b17 := C8.Fun.binds D17.fn rfl (ps := ["text", "at"]) fun _ _ _ _ _ _ us hl => match us, hl with | [_, _], _ => rfl
  have D18 : C8.Def K mg "tokens" s_tokens f18 _ := ⟨⟨_, _, _, _, _, _, _, _, _, _, rfl, l18, c18⟩, PySem.W.mg_of X G a18, k18⟩
  have b18 := C8.Fun.binds D18.fn rfl (ps := ["text"]) fun _ _ _ _ _ _ us hl => match us, hl with | [_], _ => rfl
  have D19 : C8.Def K mg "in_range" s_in_range f19 _ := ⟨⟨_, _, _, _, _, _, _, _, _, _, rfl, l19, c19⟩, PySem.W.mg_of X G a19, k19⟩
  have b19 := C8.Fun.binds D19.fn rfl (ps := ["number"]) fun _ _ _ _ _ _ us hl => match us, hl with | [_], _ => rfl
  have D20 : C8.Def K mg "linear" s_linear f20 _ := ⟨⟨_, _, _, _, _, _, _, _, _, _, rfl, l20, c20⟩, PySem.W.mg_of X G a20, k20⟩
  have b20 := C8.Fun.binds D20.fn rfl (ps := ["pairs", "constant"]) fun _ _ _ _ _ _ us hl => match us, hl with | [_, _], _ => rfl
  have D21 : C8.Def K mg "plus" s_plus f21 _ := ⟨⟨_, _, _, _, _, _, _, _, _, _, rfl, l21, c21⟩, PySem.W.mg_of X G a21, k21⟩
  have b21 := C8.Fun.binds D21.fn rfl (ps := ["one", "two"]) fun _ _ _ _ _ _ us hl => match us, hl with | [_, _], _ => rfl
  have D22 : C8.Def K mg "minus" s_minus f22 _ := ⟨⟨_, _, _, _, _, _, _, _, _, _, rfl, l22, c22⟩, PySem.W.mg_of X G a22, k22⟩
  have b22 := C8.Fun.binds D22.fn rfl (ps := ["one", "two"]) fun _ _ _ _ _ _ us hl => match us, hl with | [_, _], _ => rfl
  have D23 : C8.Def K mg "parts" s_parts f23 _ := ⟨⟨_, _, _, _, _, _, _, _, _, _, rfl, l23, c23⟩, PySem.W.mg_of X G a23, k23⟩
  have b23 := C8.Fun.binds D23.fn rfl (ps := ["formula"]) fun _ _ _ _ _ _ us hl => match us, hl with | [_], _ => rfl
  have D24 : C8.Def K mg "nodes" s_nodes f24 _ := ⟨⟨_, _, _, _, _, _, _, _, _, _, rfl, l24, c24⟩, PySem.W.mg_of X G a24, k24⟩
  have b24 := C8.Fun.binds D24.fn rfl (ps := ["formula"]) fun _ _ _ _ _ _ us hl => match us, hl with | [_], _ => rfl
  have D25 : C8.Def K mg "node_count" s_node_count f25 _ := ⟨⟨_, _, _, _, _, _, _, _, _, _, rfl, l25, c25⟩, PySem.W.mg_of X G a25, k25⟩
  have b25 := C8.Fun.binds D25.fn rfl (ps := ["formula"]) fun _ _ _ _ _ _ us hl => match us, hl with | [_], _ => rfl
  have D26 : C8.Def K mg "levels" s_levels f26 _ := ⟨⟨_, _, _, _, _, _, _, _, _, _, rfl, l26, c26⟩, PySem.W.mg_of X G a26, k26⟩
  have b26 := C8.Fun.binds D26.fn rfl (ps := ["formula"]) fun _ _ _ _ _ _ us hl => match us, hl with | [_], _ => rfl
  have F27 : C8.Fun K "__init__" "Reader.__init__" s_Reader___init__ f27 _ := ⟨_, _, _, _, _, _, _, _, _, _, rfl, l27, c27⟩
  have b27 := C8.Fun.binds F27 rfl (ps := ["self", "text"]) fun _ _ _ _ _ _ us hl => match us, hl with | [_, _], _ => rfl
  have F28 : C8.Fun K "is_done" "Reader.is_done" s_Reader_is_done f28 _ := ⟨_, _, _, _, _, _, _, _, _, _, rfl, l28, c28⟩
  have b28 := C8.Fun.binds F28 rfl (ps := ["self"]) fun _ _ _ _ _ _ us hl => match us, hl with | [_], _ => rfl
  have F29 : C8.Fun K "spot" "Reader.spot" s_Reader_spot f29 _ := ⟨_, _, _, _, _, _, _, _, _, _, rfl, l29, c29⟩
  have b29 := C8.Fun.binds F29 rfl (ps := ["self"]) fun _ _ _ _ _ _ us hl => match us, hl with | [_], _ => rfl
  have F30 : C8.Fun K "has_kind" "Reader.has_kind" s_Reader_has_kind f30 _ := ⟨_, _, _, _, _, _, _, _, _, _, rfl, l30, c30⟩
  have b30 := C8.Fun.binds F30 rfl (ps := ["self", "kind"]) fun _ _ _ _ _ _ us hl => match us, hl with | [_, _], _ => rfl
  have F31 : L2.FunD K "sees" "Reader.sees" (C8.fnArgs s_Reader_sees) (C8.fnBody s_Reader_sees) (C8.fnScope s_Reader_sees) [.int 0] [] f31 _ := ⟨⟨_, _, _, _, _, _, _, _, _, _, rfl, l31, c31, .inr ⟨by simp, dT31, _, dTi31.toList, dTn31, rfl, gl_d31, rfl, gv_d31⟩, .inl rfl⟩, k31⟩
  have F32 : C8.Fun K "passes" "Reader.passes" s_Reader_passes f32 _ := ⟨_, _, _, _, _, _, _, _, _, _, rfl, l32, c32⟩
  have b32 := C8.Fun.binds F32 rfl (ps := ["self", "value"]) fun _ _ _ _ _ _ us hl => match us, hl with | [_, _], _ => rfl
  have F33 : C8.Fun K "skip" "Reader.skip" s_Reader_skip f33 _ := ⟨_, _, _, _, _, _, _, _, _, _, rfl, l33, c33⟩
  have b33 := C8.Fun.binds F33 rfl (ps := ["self", "value"]) fun _ _ _ _ _ _ us hl => match us, hl with | [_, _], _ => rfl
  have F34 : C8.Fun K "take" "Reader.take" s_Reader_take f34 _ := ⟨_, _, _, _, _, _, _, _, _, _, rfl, l34, c34⟩
  have b34 := C8.Fun.binds F34 rfl (ps := ["self", "kind"]) fun _ _ _ _ _ _ us hl => match us, hl with | [_, _], _ => rfl
  have D35 : C8.Def K mg "read_output" s_read_output f35 _ := ⟨⟨_, _, _, _, _, _, _, _, _, _, rfl, l35, c35⟩, PySem.W.mg_of X G a35, k35⟩
  have b35 := C8.Fun.binds D35.fn rfl (ps := ["reader"]) fun _ _ _ _ _ _ us hl => match us, hl with | [_], _ => rfl
  have D36 : C8.Def K mg "read_names" s_read_names f36 _ := ⟨⟨_, _, _, _, _, _, _, _, _, _, rfl, l36, c36⟩, PySem.W.mg_of X G a36, k36⟩
  have b36 := C8.Fun.binds D36.fn rfl (ps := ["reader"]) fun _ _ _ _ _ _ us hl => match us, hl with | [_], _ => rfl
  have D37 : C8.Def K mg "read_part" s_read_part f37 _ := ⟨⟨_, _, _, _, _, _, _, _, _, _, rfl, l37, c37⟩, PySem.W.mg_of X G a37, k37⟩
  have b37 := C8.Fun.binds D37.fn rfl (ps := ["reader"]) fun _ _ _ _ _ _ us hl => match us, hl with | [_], _ => rfl
  have D38 : C8.Def K mg "read_sign" s_read_sign f38 _ := ⟨⟨_, _, _, _, _, _, _, _, _, _, rfl, l38, c38⟩, PySem.W.mg_of X G a38, k38⟩
  have b38 := C8.Fun.binds D38.fn rfl (ps := ["reader"]) fun _ _ _ _ _ _ us hl => match us, hl with | [_], _ => rfl
  have D39 : C8.Def K mg "read_sum" s_read_sum f39 _ := ⟨⟨_, _, _, _, _, _, _, _, _, _, rfl, l39, c39⟩, PySem.W.mg_of X G a39, k39⟩
  have b39 := C8.Fun.binds D39.fn rfl (ps := ["reader"]) fun _ _ _ _ _ _ us hl => match us, hl with | [_], _ => rfl
  have D40 : C8.Def K mg "compared" s_compared f40 _ := ⟨⟨_, _, _, _, _, _, _, _, _, _, rfl, l40, c40⟩, PySem.W.mg_of X G a40, k40⟩
  have b40 := C8.Fun.binds D40.fn rfl (ps := ["one", "sign", "two"]) fun _ _ _ _ _ _ us hl => match us, hl with | [_, _, _], _ => rfl
  have D41 : C8.Def K mg "read_comparison" s_read_comparison f41 _ := ⟨⟨_, _, _, _, _, _, _, _, _, _, rfl, l41, c41⟩, PySem.W.mg_of X G a41, k41⟩
  have b41 := C8.Fun.binds D41.fn rfl (ps := ["reader"]) fun _ _ _ _ _ _ us hl => match us, hl with | [_], _ => rfl
  have D42 : C8.Def K mg "read_power" s_read_power f42 _ := ⟨⟨_, _, _, _, _, _, _, _, _, _, rfl, l42, c42⟩, PySem.W.mg_of X G a42, k42⟩
  have b42 := C8.Fun.binds D42.fn rfl (ps := ["reader"]) fun _ _ _ _ _ _ us hl => match us, hl with | [_], _ => rfl
  have D43 : C8.Def K mg "read_call" s_read_call f43 _ := ⟨⟨_, _, _, _, _, _, _, _, _, _, rfl, l43, c43⟩, PySem.W.mg_of X G a43, k43⟩
  have b43 := C8.Fun.binds D43.fn rfl (ps := ["reader"]) fun _ _ _ _ _ _ us hl => match us, hl with | [_], _ => rfl
  have D44 : C8.Def K mg "read_word" s_read_word f44 _ := ⟨⟨_, _, _, _, _, _, _, _, _, _, rfl, l44, c44⟩, PySem.W.mg_of X G a44, k44⟩
  have b44 := C8.Fun.binds D44.fn rfl (ps := ["reader"]) fun _ _ _ _ _ _ us hl => match us, hl with | [_], _ => rfl
  have D45 : C8.Def K mg "read_unit" s_read_unit f45 _ := ⟨⟨_, _, _, _, _, _, _, _, _, _, rfl, l45, c45⟩, PySem.W.mg_of X G a45, k45⟩
  have b45 := C8.Fun.binds D45.fn rfl (ps := ["reader", "level"]) fun _ _ _ _ _ _ us hl => match us, hl with | [_, _], _ => rfl
  have D46 : C8.Def K mg "read_both" s_read_both f46 _ := ⟨⟨_, _, _, _, _, _, _, _, _, _, rfl, l46, c46⟩, PySem.W.mg_of X G a46, k46⟩
  have b46 := C8.Fun.binds D46.fn rfl (ps := ["reader", "level"]) fun _ _ _ _ _ _ us hl => match us, hl with | [_, _], _ => rfl
  have D47 : C8.Def K mg "read_either" s_read_either f47 _ := ⟨⟨_, _, _, _, _, _, _, _, _, _, rfl, l47, c47⟩, PySem.W.mg_of X G a47, k47⟩
  have b47 := C8.Fun.binds D47.fn rfl (ps := ["reader", "level"]) fun _ _ _ _ _ _ us hl => match us, hl with | [_, _], _ => rfl
  have D48 : C8.Def K mg "read_implied" s_read_implied f48 _ := ⟨⟨_, _, _, _, _, _, _, _, _, _, rfl, l48, c48⟩, PySem.W.mg_of X G a48, k48⟩
  have b48 := C8.Fun.binds D48.fn rfl (ps := ["reader", "level"]) fun _ _ _ _ _ _ us hl => match us, hl with | [_, _], _ => rfl
  have D49 : C8.Def K mg "read_formula" s_read_formula f49 _ := ⟨⟨_, _, _, _, _, _, _, _, _, _, rfl, l49, c49⟩, PySem.W.mg_of X G a49, k49⟩
  have b49 := C8.Fun.binds D49.fn rfl (ps := ["reader", "level"]) fun _ _ _ _ _ _ us hl => match us, hl with | [_, _], _ => rfl
  have D50 : C8.Def K mg "read_quantified" s_read_quantified f50 _ := ⟨⟨_, _, _, _, _, _, _, _, _, _, rfl, l50, c50⟩, PySem.W.mg_of X G a50, k50⟩
  have b50 := C8.Fun.binds D50.fn rfl (ps := ["reader", "level"]) fun _ _ _ _ _ _ us hl => match us, hl with | [_, _], _ => rfl
  have D52 : C8.Def K mg "check_size" s_check_size f52 _ := ⟨⟨_, _, _, _, _, _, _, _, _, _, rfl, l52, c52⟩, PySem.W.mg_of X G a52, k52⟩
  have b52 := C8.Fun.binds D52.fn rfl (ps := ["formula"]) fun _ _ _ _ _ _ us hl => match us, hl with | [_], _ => rfl
  have D53 : C8.Def K mg "parse_formula" s_parse_formula f53 _ := ⟨⟨_, _, _, _, _, _, _, _, _, _, rfl, l53, c53⟩, PySem.W.mg_of X G a53, k53⟩
  have b53 := C8.Fun.binds D53.fn rfl (ps := ["text"]) fun _ _ _ _ _ _ us hl => match us, hl with | [_], _ => rfl
  have D54 : C8.Def K mg "_law_side" s__law_side f54 _ := ⟨⟨_, _, _, _, _, _, _, _, _, _, rfl, l54, c54⟩, PySem.W.mg_of X G a54, k54⟩
  have b54 := C8.Fun.binds D54.fn rfl (ps := ["pairs", "constant"]) fun _ _ _ _ _ _ us hl => match us, hl with | [_, _], _ => rfl
  have D55 : C8.Def K mg "_law_compare" s__law_compare f55 _ := ⟨⟨_, _, _, _, _, _, _, _, _, _, rfl, l55, c55⟩, PySem.W.mg_of X G a55, k55⟩
  have b55 := C8.Fun.binds D55.fn rfl (ps := ["pool", "term", "sign"]) fun _ _ _ _ _ _ us hl => match us, hl with | [_, _, _], _ => rfl
  have D56 : C8.Def K mg "_law_turned" s__law_turned f56 _ := ⟨⟨_, _, _, _, _, _, _, _, _, _, rfl, l56, c56⟩, PySem.W.mg_of X G a56, k56⟩
  have b56 := C8.Fun.binds D56.fn rfl (ps := ["term", "more"]) fun _ _ _ _ _ _ us hl => match us, hl with | [_, _], _ => rfl
  have D57 : C8.Def K mg "_law_spell_atom" s__law_spell_atom f57 _ := ⟨⟨_, _, _, _, _, _, _, _, _, _, rfl, l57, c57⟩, PySem.W.mg_of X G a57, k57⟩
  have b57 := C8.Fun.binds D57.fn rfl (ps := ["pool", "formula"]) fun _ _ _ _ _ _ us hl => match us, hl with | [_, _], _ => rfl
  have D58 : C8.Def K mg "_law_spell" s__law_spell f58 _ := ⟨⟨_, _, _, _, _, _, _, _, _, _, rfl, l58, c58⟩, PySem.W.mg_of X G a58, k58⟩
  have b58 := C8.Fun.binds D58.fn rfl (ps := ["pool", "formula", "level", "last"]) fun _ _ _ _ _ _ us hl => match us, hl with | [_, _, _, _], _ => rfl
  have D59 : C8.Def K mg "_law_spell_not" s__law_spell_not f59 _ := ⟨⟨_, _, _, _, _, _, _, _, _, _, rfl, l59, c59⟩, PySem.W.mg_of X G a59, k59⟩
  have b59 := C8.Fun.binds D59.fn rfl (ps := ["pool", "part", "last"]) fun _ _ _ _ _ _ us hl => match us, hl with | [_, _, _], _ => rfl
  have D61 : C8.Def K mg "law" s_law fa _ := ⟨⟨_, _, _, _, _, _, _, _, _, _, rfl, l61, c61⟩, PySem.W.mg_of X G a61, k61⟩
  have c_CR : Cls K CR := ⟨pg_Reader, hd_Reader, po_Reader, sa_Reader⟩
  have nCR_found : NoAttr K CR "found" := no0_Reader
  have nCR_length : NoAttr K CR "length" := no1_Reader
  have nCR_place : NoAttr K CR "place" := no2_Reader
  have z_abs := PySem.W.mg_none_of X G zz_abs
  have z_all := PySem.W.mg_none_of X G zz_all
  have z_int := PySem.W.mg_none_of X G zz_int
  have z_isinstance := PySem.W.mg_none_of X G zz_isinstance
  have z_len := PySem.W.mg_none_of X G zz_len
  have z_list := PySem.W.mg_none_of X G zz_list
  have z_max := PySem.W.mg_none_of X G zz_max
  have z_min := PySem.W.mg_none_of X G zz_min
  have z_range := PySem.W.mg_none_of X G zz_range
  have z_reversed := PySem.W.mg_none_of X G zz_reversed
  have z_sorted := PySem.W.mg_none_of X G zz_sorted
  have z_str := PySem.W.mg_none_of X G zz_str
  have z_tuple := PySem.W.mg_none_of X G zz_tuple
  have g_LOWER : ∃ u, mg "LOWER" = some u ∧ RelV (.str (S LOW)) u := ⟨_, PySem.W.mg_of X G gg_LOWER, _, rfl⟩
  have g_UPPER : ∃ u, mg "UPPER" = some u ∧ RelV (.str (S UPP)) u := ⟨_, PySem.W.mg_of X G gg_UPPER, _, rfl⟩
  have g_DIGITS : ∃ u, mg "DIGITS" = some u ∧ RelV (.str (S DIG)) u := ⟨_, PySem.W.mg_of X G gg_DIGITS, _, rfl⟩
  have g_LENGTH_LIMIT : ∃ u, mg "LENGTH_LIMIT" = some u ∧ RelV (.int 12) u := ⟨_, PySem.W.mg_of X G gg_LENGTH_LIMIT, _, rfl⟩
  have g_NUMBER_LIMIT : ∃ u, mg "NUMBER_LIMIT" = some u ∧ RelV (.int 255) u := ⟨_, PySem.W.mg_of X G gg_NUMBER_LIMIT, _, rfl⟩
  have g_TEXT_LIMIT : ∃ u, mg "TEXT_LIMIT" = some u ∧ RelV (.int 4000) u := ⟨_, PySem.W.mg_of X G gg_TEXT_LIMIT, _, rfl⟩
  have g_COEFFICIENT_LIMIT : ∃ u, mg "COEFFICIENT_LIMIT" = some u ∧ RelV (.int 255) u := ⟨_, PySem.W.mg_of X G gg_COEFFICIENT_LIMIT, _, rfl⟩
  have g_OUTPUT_LIMIT : ∃ u, mg "OUTPUT_LIMIT" = some u ∧ RelV (.int 9) u := ⟨_, PySem.W.mg_of X G gg_OUTPUT_LIMIT, _, rfl⟩
  have g_NODE_LIMIT : ∃ u, mg "NODE_LIMIT" = some u ∧ RelV (.int 200) u := ⟨_, PySem.W.mg_of X G gg_NODE_LIMIT, _, rfl⟩
  have g_LEVEL_LIMIT : ∃ u, mg "LEVEL_LIMIT" = some u ∧ RelV (.int 30) u := ⟨_, PySem.W.mg_of X G gg_LEVEL_LIMIT, _, rfl⟩
  have g_RESERVED : ∃ u, mg "RESERVED" = some u ∧ RelV (.ref A_RESERVED) u := ⟨_, PySem.W.mg_of X G gg_RESERVED, rfl⟩
  have q_RESERVED : ∀ H, SqT K H A_RESERVED (RES.map vS) := fun H => .inr ⟨_, its_RESERVED, n_RESERVED, gl_RESERVED, rfl, rfl, gz_RESERVED, gv_RESERVED⟩
  have g_SIGNS : ∃ u, mg "SIGNS" = some u ∧ RelV (.ref A_SIGNS) u := ⟨_, PySem.W.mg_of X G gg_SIGNS, rfl⟩
  have q_SIGNS : ∀ H, SqT K H A_SIGNS (SGN.map vS) := fun H => .inr ⟨_, its_SIGNS, n_SIGNS, gl_SIGNS, rfl, rfl, gz_SIGNS, gv_SIGNS⟩
  have g_QUANTIFIERS : ∃ u, mg "QUANTIFIERS" = some u ∧ RelV (.ref A_QUANTIFIERS) u := ⟨_, PySem.W.mg_of X G gg_QUANTIFIERS, rfl⟩
  have q_QUANTIFIERS : ∀ H, SqT K H A_QUANTIFIERS ([cs "some", cs "all"].map vS) := fun H => .inr ⟨_, its_QUANTIFIERS, n_QUANTIFIERS, gl_QUANTIFIERS, rfl, rfl, gz_QUANTIFIERS, gv_QUANTIFIERS⟩
  have g_COMPARED : ∃ u, mg "COMPARED" = some u ∧ RelV (.ref A_COMPARED) u := ⟨_, PySem.W.mg_of X G gg_COMPARED, rfl⟩
  have q_COMPARED : ∀ H, SqT K H A_COMPARED (CMPD.map vS) := fun H => .inr ⟨_, its_COMPARED, n_COMPARED, gl_COMPARED, rfl, rfl, gz_COMPARED, gv_COMPARED⟩
  have T_Malformed : OexC K CM := ⟨⟨_, _, _, _, _, _, _, _, _, _, _, _, _, _, _, xc_Malformed, xr_Malformed⟩, xs_Malformed, xe_Malformed, xy_Malformed, xk_Malformed⟩
  have F_Malformed : C8.Fun K "__init__" "Malformed.__init__" si_Malformed fI_Malformed _ := ⟨_, _, _, _, _, _, _, _, _, _, rfl, xl_Malformed, xq_Malformed⟩
  have bb_Malformed := C8.Fun.binds F_Malformed rfl (ps := ["self", "at"]) fun _ _ _ _ _ _ us hl => match us, hl with | [_, _], _ => rfl
  have T_Oversized : OexC K CO := ⟨⟨_, _, _, _, _, _, _, _, _, _, _, _, _, _, _, xc_Oversized, xr_Oversized⟩, xs_Oversized, xe_Oversized, xy_Oversized, xk_Oversized⟩
  have F_Oversized : C8.Fun K "__init__" "Oversized.__init__" si_Oversized fI_Oversized _ := ⟨_, _, _, _, _, _, _, _, _, _, rfl, xl_Oversized, xq_Oversized⟩
  have bb_Oversized := C8.Fun.binds F_Oversized rfl (ps := ["self", "limit"]) fun _ _ _ _ _ _ us hl => match us, hl with | [_, _], _ => rfl
  refine ⟨PySem.W.fnOf "law" "law" (C8.fnArgs s_law) (C8.fnBody s_law) (C8.fnScope s_law) .none kV61 dc61 pm61 an61 cd61 ct61, fun s v => .of_eq rfl, fun base _ _ => ?_⟩
  have x_Malformed : ExF l.prog w K mg base "Malformed" CM "at" := ⟨T_Malformed, PySem.W.mg_of X G xa_Malformed, ⟨xg_Malformed, xh_Malformed, xe_Malformed, xd_Malformed⟩, xn_Malformed, _, _, xi_Malformed, xt_Malformed, f_ini_Malformed T_Malformed xn_Malformed F_Malformed, bb_Malformed⟩
  have x_Oversized : ExF l.prog w K mg base "Oversized" CO "limit" := ⟨T_Oversized, PySem.W.mg_of X G xa_Oversized, ⟨xg_Oversized, xh_Oversized, xe_Oversized, xd_Oversized⟩, xn_Oversized, _, _, xi_Oversized, xt_Oversized, f_ini_Oversized T_Oversized xn_Oversized F_Oversized, bb_Oversized⟩
  have g_JOINTS : ∃ u, mg "JOINTS" = some u ∧ RelV (.ref aJ) u := ⟨_, PySem.W.mg_of X G gg_JOINTS, rfl⟩
  have kJ : KTabl K w aJ [cs "and", cs "or", cs "imp", cs "iff"] := ktabl_of (ks := ["and", "or", "imp", "iff"]) jlJ jkJ jwJ ksJ
  have c__law_wide := c__law_wide (P := l.prog) (w := w) (base := base) D0 b0 z_len z_abs z_int
  have c__law_take := c__law_take (P := l.prog) (w := w) (base := base) D1 b1 z_int c__law_wide
  have c__law_pool := c__law_pool (P := l.prog) (w := w) (base := base) D2 b2 z_list
  have c__law_reserved := c__law_reserved (P := l.prog) (w := w) (base := base) D3 b3 
  have c__law_signs := c__law_signs (P := l.prog) (w := w) (base := base) D4 b4 
  have c__law_name := c__law_name (P := l.prog) (w := w) (base := base) D5 b5 c__law_take c__law_reserved z_range
  have c__law_space := c__law_space (P := l.prog) (w := w) (base := base) D6 b6 c__law_take
  have c__law_joins := c__law_joins (P := l.prog) (w := w) (base := base) D7 b7 c__law_signs z_len
  have c__law_text := c__law_text (P := l.prog) (w := w) (base := base) D8 b8 c__law_space c__law_joins z_range z_len z_min
  have c__law_term := c__law_term (P := l.prog) (w := w) (base := base) D9 b9 c__law_take z_range z_len z_sorted z_tuple
  have c__law_formula := c__law_formula (P := l.prog) (w := w) (base := base) D10 b10 c__law_take c__law_term z_range z_len z_tuple
  have c_stands_at := c_stands_at (P := l.prog) (w := w) (base := base) D11 b11 z_len
  have c_run_end := c_run_end (P := l.prog) (w := w) (base := base) D12 b12 c_stands_at
  have c_name_at := c_name_at (P := l.prog) (w := w) (base := base) D13 b13 c_stands_at c_run_end g_LOWER g_UPPER g_DIGITS g_LENGTH_LIMIT g_RESERVED q_RESERVED
  have c_word_at := c_word_at (P := l.prog) (w := w) (base := base) D14 b14 c_stands_at c_run_end g_LOWER g_UPPER g_DIGITS g_LENGTH_LIMIT
  have c_number_at := c_number_at (P := l.prog) (w := w) (base := base) D15 b15 c_stands_at c_run_end g_LOWER g_UPPER g_DIGITS g_NUMBER_LIMIT z_int
  have c_sign_at := c_sign_at (P := l.prog) (w := w) (base := base) D16 b16 g_SIGNS q_SIGNS z_len
  have c_token_at := c_token_at (P := l.prog) (w := w) (base := base) D17 b17 c_name_at c_word_at c_number_at c_sign_at g_LOWER g_UPPER g_DIGITS
  have c_tokens := c_tokens (P := l.prog) (w := w) (base := base) D18 b18 c_token_at g_TEXT_LIMIT z_len
  have c_in_range := c_in_range (P := l.prog) (w := w) (base := base) D19 b19 g_COEFFICIENT_LIMIT
  have c_linear := c_linear (P := l.prog) (w := w) (base := base) D20 b20 x_Oversized c_in_range z_sorted z_all z_tuple
  have c_plus := c_plus (P := l.prog) (w := w) (base := base) D21 b21 c_linear
  have c_minus := c_minus (P := l.prog) (w := w) (base := base) D22 b22 c_linear
  have c_parts := c_parts (P := l.prog) (w := w) (base := base) D23 b23 g_JOINTS kJ g_QUANTIFIERS q_QUANTIFIERS
  have c_nodes := c_nodes (P := l.prog) (w := w) (base := base) D24 b24 c_parts z_reversed
  have c_node_count := c_node_count (P := l.prog) (w := w) (base := base) D25 b25 c_nodes z_len
  have c_levels := c_levels (P := l.prog) (w := w) (base := base) D26 b26 c_nodes z_max
  have k_Reader := k_Reader (P := l.prog) (w := w) (base := base) (mg := mg) ⟨mk_Reader, a27, i27, kc_Reader⟩ (PySem.W.mg_of X G aC_Reader) c_CR F27 b27 nCR_found nCR_length nCR_place c_tokens z_len
  have m_Reader_is_done := m_Reader_is_done (P := l.prog) (w := w) (base := base) (mg := mg) c_CR ⟨a28, i28, k28⟩ F28 b28 nCR_found nCR_length nCR_place z_len
  have m_Reader_spot := m_Reader_spot (P := l.prog) (w := w) (base := base) (mg := mg) c_CR ⟨a29, i29, k29⟩ F29 b29 nCR_found nCR_length nCR_place m_Reader_is_done
  have m_Reader_has_kind := m_Reader_has_kind (P := l.prog) (w := w) (base := base) (mg := mg) c_CR ⟨a30, i30, k30⟩ F30 b30 nCR_found nCR_length nCR_place m_Reader_is_done
  have m_sees0 := m_sees (P := l.prog) (w := w) (base := base) (mg := mg) c_CR ⟨a31, i31, k31⟩ F31 nCR_found nCR_length nCR_place z_len
  have m_Reader_sees := m_sees0.1
  have m_Reader_sees2 := m_sees0.2
  have m_Reader_passes := m_Reader_passes (P := l.prog) (w := w) (base := base) (mg := mg) c_CR ⟨a32, i32, k32⟩ F32 b32 nCR_found nCR_length nCR_place m_Reader_sees
  have m_Reader_skip := m_Reader_skip (P := l.prog) (w := w) (base := base) (mg := mg) c_CR ⟨a33, i33, k33⟩ F33 b33 nCR_found nCR_length nCR_place x_Malformed m_Reader_passes m_Reader_spot
  have m_Reader_take := m_Reader_take (P := l.prog) (w := w) (base := base) (mg := mg) c_CR ⟨a34, i34, k34⟩ F34 b34 nCR_found nCR_length nCR_place x_Malformed m_Reader_has_kind m_Reader_spot
  have c_read_output := c_read_output (P := l.prog) (w := w) (base := base) D35 b35 x_Malformed m_Reader_spot m_Reader_take g_OUTPUT_LIMIT (CO := CO)
  have c_read_names := c_read_names (P := l.prog) (w := w) (base := base) D36 b36 m_Reader_take m_Reader_passes (CO := CO)
  have c_read_part := c_read_part (P := l.prog) (w := w) (base := base) D37 b37 m_Reader_take m_Reader_passes m_Reader_has_kind (CO := CO)
  have c_read_sign := c_read_sign (P := l.prog) (w := w) (base := base) D38 b38 m_Reader_passes
  have c_read_sum := c_read_sum (P := l.prog) (w := w) (base := base) D39 b39 m_Reader_passes c_read_part c_read_sign (CO := CO)
  have c_compared := c_compared (P := l.prog) (w := w) (base := base) D40 b40 c_minus c_plus
  have c_read_comparison := c_read_comparison (P := l.prog) (w := w) (base := base) D41 b41 x_Malformed m_Reader_spot m_Reader_take c_read_sum c_linear c_compared g_COMPARED q_COMPARED
  have c_read_power := c_read_power (P := l.prog) (w := w) (base := base) D42 b42 m_Reader_skip m_Reader_take (CO := CO)
  have c_read_call := c_read_call (P := l.prog) (w := w) (base := base) D43 b43 m_Reader_skip m_Reader_take c_read_names z_tuple (CO := CO)
  have c_read_word := c_read_word (P := l.prog) (w := w) (base := base) D44 b44 m_Reader_skip m_Reader_take m_Reader_passes c_read_output (CO := CO)
  have c_formula30 := c_formula30 (P := l.prog) (w := w) (base := base) D45 b45 D46 b46 D47 b47 D48 b48 D49 b49 D50 b50 x_Oversized m_Reader_passes m_Reader_sees m_Reader_sees2 m_Reader_has_kind m_Reader_skip c_read_power c_read_word c_read_call c_read_comparison g_LEVEL_LIMIT m_Reader_take c_read_names z_reversed
  have c_check_size := c_check_size (P := l.prog) (w := w) (base := base) D52 b52 x_Oversized c_node_count c_levels g_NODE_LIMIT g_LEVEL_LIMIT
  have c_parse_formula := c_parse_formula (P := l.prog) (w := w) (base := base) D53 b53 x_Malformed m_Reader_is_done m_Reader_spot k_Reader c_formula30 c_check_size
  have c__law_side := c__law_side (P := l.prog) (w := w) (base := base) D54 b54 z_int z_abs z_str
  have c__law_compare := c__law_compare (P := l.prog) (w := w) (base := base) D55 b55 c__law_take c__law_side z_len
  have c__law_turned := c__law_turned (P := l.prog) (w := w) (base := base) D56 b56 z_tuple
  have c__law_spell_atom := c__law_spell_atom (P := l.prog) (w := w) (base := base) D57 b57 c__law_take c__law_compare c__law_turned z_str z_len
  have c__law_spell := spells (P := l.prog) (w := w) (base := base) D58 b58 D59 b59 c__law_take c__law_compare c__law_spell_atom z_str z_int 10 (by decide)
  exact f_law D61 c__law_pool c__law_take c__law_name (c__law_formula 5) c__law_spell c__law_text c_parse_formula z_range z_len z_isinstance z_tuple
end K05
open PySem PySem.W PyProof.Rows
set_option maxRecDepth 100000 in
set_option maxHeartbeats 0 in
theorem PySem.Challenge.cw_digitwise_k05_formulas_read_holds : PySem.Challenge.rw_digitwise_k05_formulas_read.Holds := by
  w_on; o_law; k_head; (case hw => w_witness2)
  k_fill
  refine L2.walk_of (l := PySem.Challenge.rw_digitwise_k05_formulas_read) (n := 63) (k := 196) (x := "script") (CX := fun _ => C8.CX0) (sp := fun w => K05.spLaw _) rfl (by decide) rfl ⟨rfl, by decide, by decide⟩ (fun w h Y => PySem.W.kIn_of Y) ?F (fun _ _ a ns hl _ hS => ⟨a, ns, rfl, hS, hl, fun _ => rfl⟩) (fun _ _ _ _ _ h => h)
  case F =>
    intro w mg fa h KX G hmg
    refine' K05.all_mk KX G hmg ?aC_Reader ?pg_Reader ?hd_Reader ?po_Reader ?sa_Reader ?mk_Reader ?kc_Reader ?no0_Reader ?no1_Reader ?no2_Reader ?a0 ?l0 ?c0 ?k0 ?a1 ?l1 ?c1 ?k1 ?a2 ?l2 ?c2 ?k2 ?a3 ?l3 ?c3 ?k3 ?a4 ?l4 ?c4 ?k4 ?a5 ?l5 ?c5 ?k5 ?a6 ?l6 ?c6 ?k6 ?a7 ?l7 ?c7 ?k7 ?a8 ?l8 ?c8 ?k8 ?a9 ?l9 ?c9 ?k9 ?a10 ?l10 ?c10 ?k10 ?a11 ?l11 ?c11 ?k11 ?a12 ?l12 ?c12 ?k12 ?a13 ?l13 ?c13 ?k13 ?a14 ?l14 ?c14 ?k14 ?a15 ?l15 ?c15 ?k15 ?a16 ?l16 ?c16 ?k16 ?a17 ?l17 ?c17 ?k17 ?a18 ?l18 ?c18 ?k18 ?a19 ?l19 ?c19 ?k19 ?a20 ?l20 ?c20 ?k20 ?a21 ?l21 ?c21 ?k21 ?a22 ?l22 ?c22 ?k22 ?a23 ?l23 ?c23 ?k23 ?a24 ?l24 ?c24 ?k24 ?a25 ?l25 ?c25 ?k25 ?a26 ?l26 ?c26 ?k26 ?a27 ?i27 ?l27 ?c27 ?k27 ?a28 ?i28 ?l28 ?c28 ?k28 ?a29 ?i29 ?l29 ?c29 ?k29 ?a30 ?i30 ?l30 ?c30 ?k30 ?a31 ?i31 ?l31 ?c31 ?k31 ?gl_d31 ?gv_d31 ?a32 ?i32 ?l32 ?c32 ?k32 ?a33 ?i33 ?l33 ?c33 ?k33 ?a34 ?i34 ?l34 ?c34 ?k34 ?a35 ?l35 ?c35 ?k35 ?a36 ?l36 ?c36 ?k36 ?a37 ?l37 ?c37 ?k37 ?a38 ?l38 ?c38 ?k38 ?a39 ?l39 ?c39 ?k39 ?a40 ?l40 ?c40 ?k40 ?a41 ?l41 ?c41 ?k41 ?a42 ?l42 ?c42 ?k42 ?a43 ?l43 ?c43 ?k43 ?a44 ?l44 ?c44 ?k44 ?a45 ?l45 ?c45 ?k45 ?a46 ?l46 ?c46 ?k46 ?a47 ?l47 ?c47 ?k47 ?a48 ?l48 ?c48 ?k48 ?a49 ?l49 ?c49 ?k49 ?a50 ?l50 ?c50 ?k50 ?a52 ?l52 ?c52 ?k52 ?a53 ?l53 ?c53 ?k53 ?a54 ?l54 ?c54 ?k54 ?a55 ?l55 ?c55 ?k55 ?a56 ?l56 ?c56 ?k56 ?a57 ?l57 ?c57 ?k57 ?a58 ?l58 ?c58 ?k58 ?a59 ?l59 ?c59 ?k59 ?a61 ?l61 ?c61 ?k61 ?zz_abs ?zz_all ?zz_int ?zz_isinstance ?zz_len ?zz_list ?zz_max ?zz_min ?zz_range ?zz_reversed ?zz_sorted ?zz_str ?zz_tuple ?gg_LOWER ?gg_UPPER ?gg_DIGITS ?gg_LENGTH_LIMIT ?gg_NUMBER_LIMIT ?gg_TEXT_LIMIT ?gg_COEFFICIENT_LIMIT ?gg_OUTPUT_LIMIT ?gg_NODE_LIMIT ?gg_LEVEL_LIMIT ?gg_RESERVED ?gl_RESERVED ?gv_RESERVED ?gz_RESERVED ?gg_SIGNS ?gl_SIGNS ?gv_SIGNS ?gz_SIGNS ?gg_QUANTIFIERS ?gl_QUANTIFIERS ?gv_QUANTIFIERS ?gz_QUANTIFIERS ?gg_COMPARED ?gl_COMPARED ?gv_COMPARED ?gz_COMPARED ?xa_Malformed ?xc_Malformed ?xr_Malformed ?xs_Malformed ?xg_Malformed ?xh_Malformed ?xn_Malformed ?xi_Malformed ?xt_Malformed ?xl_Malformed ?xq_Malformed ?xk_Malformed ?xe_Malformed ?xy_Malformed ?xd_Malformed ?xz_Malformed ?xa_Oversized ?xc_Oversized ?xr_Oversized ?xs_Oversized ?xg_Oversized ?xh_Oversized ?xn_Oversized ?xi_Oversized ?xt_Oversized ?xl_Oversized ?xq_Oversized ?xk_Oversized ?xe_Oversized ?xy_Oversized ?xd_Oversized ?xz_Oversized ?gg_JOINTS ?jlJ ?jkJ ?jwJ ?ksJ
    (case aC_Reader => k_is)
    (case pg_Reader => k_is)
    (case hd_Reader => k_is)
    (case po_Reader => k_is)
    (case sa_Reader => k_is)
    (case mk_Reader => k_is)
    (case kc_Reader => k_is)
    (case no0_Reader => k_is)
    (case no1_Reader => k_is)
    (case no2_Reader => k_is)
    (case a0 => k_is)
    (case l0 => k_is)
    (case c0 => k_is)
    (case k0 => k_is)
    (case a1 => k_is)
    (case l1 => k_is)
    (case c1 => k_is)
    (case k1 => k_is)
    (case a2 => k_is)
    (case l2 => k_is)
    (case c2 => k_is)
    (case k2 => k_is)
    (case a3 => k_is)
    (case l3 => k_is)
    (case c3 => k_is)
    (case k3 => k_is)
    (case a4 => k_is)
    (case l4 => k_is)
    (case c4 => k_is)
    (case k4 => k_is)
    (case a5 => k_is)
    (case l5 => k_is)
    (case c5 => k_is)
    (case k5 => k_is)
    (case a6 => k_is)
    (case l6 => k_is)
    (case c6 => k_is)
    (case k6 => k_is)
    (case a7 => k_is)
    (case l7 => k_is)
    (case c7 => k_is)
    (case k7 => k_is)
    (case a8 => k_is)
    (case l8 => k_is)
    (case c8 => k_is)
    (case k8 => k_is)
    (case a9 => k_is)
    (case l9 => k_is)
    (case c9 => k_is)
    (case k9 => k_is)
    (case a10 => k_is)
    (case l10 => k_is)
    (case c10 => k_is)
    (case k10 => k_is)
    (case a11 => k_is)
    (case l11 => k_is)
    (case c11 => k_is)
    (case k11 => k_is)
    (case a12 => k_is)
    (case l12 => k_is)
    (case c12 => k_is)
    (case k12 => k_is)
    (case a13 => k_is)
    (case l13 => k_is)
    (case c13 => k_is)
    (case k13 => k_is)
    (case a14 => k_is)
    (case l14 => k_is)
    (case c14 => k_is)
    (case k14 => k_is)
    (case a15 => k_is)
    (case l15 => k_is)
    (case c15 => k_is)
    (case k15 => k_is)
    (case a16 => k_is)
    (case l16 => k_is)
    (case c16 => k_is)
    (case k16 => k_is)
    (case a17 => k_is)
    (case l17 => k_is)
    (case c17 => k_is)
    (case k17 => k_is)
    (case a18 => k_is)
    (case l18 => k_is)
    (case c18 => k_is)
    (case k18 => k_is)
    (case a19 => k_is)
    (case l19 => k_is)
    (case c19 => k_is)
    (case k19 => k_is)
    (case a20 => k_is)
    (case l20 => k_is)
    (case c20 => k_is)
    (case k20 => k_is)
    (case a21 => k_is)
    (case l21 => k_is)
    (case c21 => k_is)
    (case k21 => k_is)
    (case a22 => k_is)
    (case l22 => k_is)
    (case c22 => k_is)
    (case k22 => k_is)
    (case a23 => k_is)
    (case l23 => k_is)
    (case c23 => k_is)
    (case k23 => k_is)
    (case a24 => k_is)
    (case l24 => k_is)
    (case c24 => k_is)
    (case k24 => k_is)
    (case a25 => k_is)
    (case l25 => k_is)
    (case c25 => k_is)
    (case k25 => k_is)
    (case a26 => k_is)
    (case l26 => k_is)
    (case c26 => k_is)
    (case k26 => k_is)
    (case a27 => k_is)
    (case i27 => k_is)
    (case l27 => k_is)
    (case c27 => k_is)
    (case k27 => k_is)
    (case a28 => k_is)
    (case i28 => k_is)
    (case l28 => k_is)
    (case c28 => k_is)
    (case k28 => k_is)
    (case a29 => k_is)
    (case i29 => k_is)
    (case l29 => k_is)
    (case c29 => k_is)
    (case k29 => k_is)
    (case a30 => k_is)
    (case i30 => k_is)
    (case l30 => k_is)
    (case c30 => k_is)
    (case k30 => k_is)
    (case a31 => k_is)
    (case i31 => k_is)
    (case l31 => k_is)
    (case c31 => k_is)
    (case k31 => k_is)
    (case gl_d31 => k_is)
    (case gv_d31 => repeat (first | exact Paired.nil | refine Paired.cons ⟨_, rfl⟩ ?_))
    (case a32 => k_is)
    (case i32 => k_is)
    (case l32 => k_is)
    (case c32 => k_is)
    (case k32 => k_is)
    (case a33 => k_is)
    (case i33 => k_is)
    (case l33 => k_is)
    (case c33 => k_is)
    (case k33 => k_is)
    (case a34 => k_is)
    (case i34 => k_is)
    (case l34 => k_is)
    (case c34 => k_is)
    (case k34 => k_is)
    (case a35 => k_is)
    (case l35 => k_is)
    (case c35 => k_is)
    (case k35 => k_is)
    (case a36 => k_is)
    (case l36 => k_is)
    (case c36 => k_is)
    (case k36 => k_is)
    (case a37 => k_is)
    (case l37 => k_is)
    (case c37 => k_is)
    (case k37 => k_is)
    (case a38 => k_is)
    (case l38 => k_is)
    (case c38 => k_is)
    (case k38 => k_is)
    (case a39 => k_is)
    (case l39 => k_is)
    (case c39 => k_is)
    (case k39 => k_is)
    (case a40 => k_is)
    (case l40 => k_is)
    (case c40 => k_is)
    (case k40 => k_is)
    (case a41 => k_is)
    (case l41 => k_is)
    (case c41 => k_is)
    (case k41 => k_is)
    (case a42 => k_is)
    (case l42 => k_is)
    (case c42 => k_is)
    (case k42 => k_is)
    (case a43 => k_is)
    (case l43 => k_is)
    (case c43 => k_is)
    (case k43 => k_is)
    (case a44 => k_is)
    (case l44 => k_is)
    (case c44 => k_is)
    (case k44 => k_is)
    (case a45 => k_is)
    (case l45 => k_is)
    (case c45 => k_is)
    (case k45 => k_is)
    (case a46 => k_is)
    (case l46 => k_is)
    (case c46 => k_is)
    (case k46 => k_is)
    (case a47 => k_is)
    (case l47 => k_is)
    (case c47 => k_is)
    (case k47 => k_is)
    (case a48 => k_is)
    (case l48 => k_is)
    (case c48 => k_is)
    (case k48 => k_is)
    (case a49 => k_is)
    (case l49 => k_is)
    (case c49 => k_is)
    (case k49 => k_is)
    (case a50 => k_is)
    (case l50 => k_is)
    (case c50 => k_is)
    (case k50 => k_is)
    (case a52 => k_is)
    (case l52 => k_is)
    (case c52 => k_is)
    (case k52 => k_is)
    (case a53 => k_is)
    (case l53 => k_is)
    (case c53 => k_is)
    (case k53 => k_is)
    (case a54 => k_is)
    (case l54 => k_is)
    (case c54 => k_is)
    (case k54 => k_is)
    (case a55 => k_is)
    (case l55 => k_is)
    (case c55 => k_is)
    (case k55 => k_is)
    (case a56 => k_is)
    (case l56 => k_is)
    (case c56 => k_is)
    (case k56 => k_is)
    (case a57 => k_is)
    (case l57 => k_is)
    (case c57 => k_is)
    (case k57 => k_is)
    (case a58 => k_is)
    (case l58 => k_is)
    (case c58 => k_is)
    (case k58 => k_is)
    (case a59 => k_is)
    (case l59 => k_is)
    (case c59 => k_is)
    (case k59 => k_is)
    (case a61 => k_is)
    (case l61 => k_is)
    (case c61 => k_is)
    (case k61 => k_is)
    (case zz_abs => k_is)
    (case zz_all => k_is)
    (case zz_int => k_is)
    (case zz_isinstance => k_is)
    (case zz_len => k_is)
    (case zz_list => k_is)
    (case zz_max => k_is)
    (case zz_min => k_is)
    (case zz_range => k_is)
    (case zz_reversed => k_is)
    (case zz_sorted => k_is)
    (case zz_str => k_is)
    (case zz_tuple => k_is)
    (case gg_LOWER => k_is)
    (case gg_UPPER => k_is)
    (case gg_DIGITS => k_is)
    (case gg_LENGTH_LIMIT => k_is)
    (case gg_NUMBER_LIMIT => k_is)
    (case gg_TEXT_LIMIT => k_is)
    (case gg_COEFFICIENT_LIMIT => k_is)
    (case gg_OUTPUT_LIMIT => k_is)
    (case gg_NODE_LIMIT => k_is)
    (case gg_LEVEL_LIMIT => k_is)
    (case gg_RESERVED => k_is)
    (case gl_RESERVED => k_is)
    (case gv_RESERVED => repeat (first | exact Paired.nil | refine Paired.cons ⟨_, rfl⟩ ?_))
    (case gz_RESERVED => decide +kernel)
    (case gg_SIGNS => k_is)
    (case gl_SIGNS => k_is)
    (case gv_SIGNS => repeat (first | exact Paired.nil | refine Paired.cons ⟨_, rfl⟩ ?_))
    (case gz_SIGNS => decide +kernel)
    (case gg_QUANTIFIERS => k_is)
    (case gl_QUANTIFIERS => k_is)
    (case gv_QUANTIFIERS => repeat (first | exact Paired.nil | refine Paired.cons ⟨_, rfl⟩ ?_))
    (case gz_QUANTIFIERS => decide +kernel)
    (case gg_COMPARED => k_is)
    (case gl_COMPARED => k_is)
    (case gv_COMPARED => repeat (first | exact Paired.nil | refine Paired.cons ⟨_, rfl⟩ ?_))
    (case gz_COMPARED => decide +kernel)
    (case xa_Malformed => k_is)
    (case xc_Malformed => k_is)
    (case xr_Malformed => decide +kernel)
    (case xs_Malformed => k_is)
    (case xg_Malformed => k_is)
    (case xh_Malformed => k_is)
    (case xn_Malformed => k_is)
    (case xi_Malformed => k_is)
    (case xt_Malformed => k_is)
    (case xl_Malformed => k_is)
    (case xq_Malformed => k_is)
    (case xk_Malformed => k_is)
    (case xe_Malformed => k_is)
    (case xy_Malformed => k_is)
    (case xd_Malformed => k_is)
    (case xz_Malformed => k_is)
    (case xa_Oversized => k_is)
    (case xc_Oversized => k_is)
    (case xr_Oversized => decide +kernel)
    (case xs_Oversized => k_is)
    (case xg_Oversized => k_is)
    (case xh_Oversized => k_is)
    (case xn_Oversized => k_is)
    (case xi_Oversized => k_is)
    (case xt_Oversized => k_is)
    (case xl_Oversized => k_is)
    (case xq_Oversized => k_is)
    (case xk_Oversized => k_is)
    (case xe_Oversized => k_is)
    (case xy_Oversized => k_is)
    (case xd_Oversized => k_is)
    (case xz_Oversized => k_is)
    (case gg_JOINTS => k_is)
    (case jlJ => k_is)
    (case jkJ => exact ⟨⟨_, _, rfl, rfl⟩, ⟨_, _, rfl, rfl⟩, ⟨_, _, rfl, rfl⟩, ⟨_, _, rfl, rfl⟩, True.intro⟩)
    (case jwJ => decide +kernel)
    (case ksJ => exact ⟨⟨_, rfl⟩, ⟨_, rfl⟩, ⟨_, rfl⟩, ⟨_, rfl⟩, True.intro⟩)
