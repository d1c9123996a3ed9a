"""Samereading: do all readings of an expression return the same value?"""
