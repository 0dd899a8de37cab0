"""Shearyard: what gardens of gates and shears do to plants of any size."""
