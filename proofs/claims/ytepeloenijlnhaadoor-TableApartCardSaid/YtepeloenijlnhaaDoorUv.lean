/- Plain laws of sets: what is apart, what is together. No condition. -/
import Derived.Test.YtepeloenijlnhaaDoorUo
namespace Go.Proofs.YtepeloenijlnhaaDoor
theorem sl1 (P Q : List Su) : eitU (eitU (minU P Q) (botU P Q)) (minU Q P) = eitU P Q := ascU_unique (asc_eitU _ _) (asc_eitU _ _) fun z => by
  simp only [mem_eitU, mem_minU, mem_botU]
  by_cases p : z ∈ P <;> by_cases q : z ∈ Q <;> simp [p, q]
theorem sl2 {P : List Su} (h : AscU P) (Q : List Su) : eitU (minU P Q) (botU P Q) = P := ascU_unique (asc_eitU _ _) h fun z => by
  simp only [mem_eitU, mem_minU, mem_botU]
  by_cases p : z ∈ P <;> by_cases q : z ∈ Q <;> simp [p, q]
theorem sl3 (P Q : List Su) : botU (minU P Q) Q = [] := ascU_unique (asc_botU _ _) List.Pairwise.nil fun z => by
  simp only [mem_minU, mem_botU]
  by_cases p : z ∈ P <;> by_cases q : z ∈ Q <;> simp [p, q]
theorem sl4 (P Q : List Su) : botU P Q = botU Q P := ascU_unique (asc_botU _ _) (asc_botU _ _) fun z => by
  simp only [mem_botU]; exact And.comm
theorem sl5 (P Q : List Su) : eitU P Q = eitU Q P := ascU_unique (asc_eitU _ _) (asc_eitU _ _) fun z => by
  simp only [mem_eitU]; exact Or.comm
theorem sl6 (P : List Su) {Q : List Su} (h : AscU Q) : eitU (minU P (minU P Q)) (minU Q P) = Q := ascU_unique (asc_eitU _ _) h fun z => by
  simp only [mem_eitU, mem_minU]
  by_cases p : z ∈ P <;> by_cases q : z ∈ Q <;> simp [p, q]
theorem sl7 (P Q : List Su) : minU (minU P Q) Q = minU P Q := ascU_unique (asc_minU _ _) (asc_minU _ _) fun z => by
  simp only [mem_minU]
  by_cases p : z ∈ P <;> by_cases q : z ∈ Q <;> simp [p, q]
theorem sl8 (P : List Su) : minU P P = [] := ascU_unique (asc_minU _ _) List.Pairwise.nil fun z => by
  simp only [mem_minU]
  by_cases p : z ∈ P <;> simp [p]
theorem sl9 {P : List Su} (h : AscU P) : botU P P = P := ascU_unique (asc_botU _ _) h fun z => by
  simp only [mem_botU]; exact and_self_iff
end Go.Proofs.YtepeloenijlnhaaDoor
