"""Guardhopes: wishes on endless runs, parted into nothing bad and something good."""
