"""Evenmix: tables told as mixtures, and what bars them."""
