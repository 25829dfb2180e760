"""Primepapers: papers that a number is prime."""
