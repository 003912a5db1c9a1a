"""Dealtables: tables with rules between them, and deals that keep them."""
