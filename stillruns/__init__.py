"""Stillruns: programs of an elder edition of a library under a newer one."""
