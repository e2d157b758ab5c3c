"""Toldcounts: what told sums let their data be."""
